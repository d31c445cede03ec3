/- The document's parser of JSON: kids, of a list; conditions: as told. -/
import Derived.Test.YtjpmjcadnnglnaaDoorQWn
import Derived.Maps.AppendAt
namespace Go.Proofs.YtjpmjcadnnglnaaDoor
open Go.RowKit
open Go.Lib

theorem info3b : (Tryd.prog.info? 3).map (fun i => (i.zero, i.size, i.bytes)) = some (some (.int .i64 0), 1, 8) := by kernel_rfl
theorem size_al (w : World) (o : Obj) : (w.alloc o).heap.size = w.heap.size + 1 := by show (w.heap.push _).size = _; simp
theorem KIs.len {w : World} {a : Option Addr} {n c : Nat} {is : List Int} (h : KIs w (.slice a n c) is) : n = is.length := by
  obtain ⟨_, _, hh⟩ := own_shape h
  cases hh
  rfl
theorem KS.grown2 {w w3 : World} {lo b bv : Nat} {s : ByteArray} {t : Nat} {V : Value} {er ea : Nat} {ds : List Cel} {kd : Int} {v2 v3 : Value} {ks : List ByteArray} {is : List Int} {B : Nat → Prop} {o : Obj} (h : KS w lo b bv s t V er ea ds kd v2 v3 ks is B) (hg : (w.alloc o).grownBy w3 v2.ownBlock) : w3.heap[bv]? = some (.cells #[.int .i64 kd, .string ⟨#[]⟩, v2, v3] 53 (0, 0)) :=
  ((Touch.grown (S := fun k => v2.ownBlock = some k) ((Touch.refl _ w).alloc o) hg (fun k e _ => e)).block bv (lt_of_block h.obj) (fun e => by have := h.new2 _ e; omega)).trans h.obj
theorem KS.grown3 {w w3 : World} {lo b bv : Nat} {s : ByteArray} {t : Nat} {V : Value} {er ea : Nat} {ds : List Cel} {kd : Int} {v2 v3 : Value} {ks : List ByteArray} {is : List Int} {B : Nat → Prop} {o : Obj} (h : KS w lo b bv s t V er ea ds kd v2 v3 ks is B) (hg : (w.alloc o).grownBy w3 v3.ownBlock) : w3.heap[bv]? = some (.cells #[.int .i64 kd, .string ⟨#[]⟩, v2, v3] 53 (0, 0)) :=
  ((Touch.grown (S := fun k => v3.ownBlock = some k) ((Touch.refl _ w).alloc o) hg (fun k e _ => e)).block bv (lt_of_block h.obj) (fun e => by have := h.new3 _ e; omega)).trans h.obj
/-- The answer, where the brackets end. -/
theorem kids_end {w w5 w6 : World} {lo b bv : Nat} {s : ByteArray} {t0 t : Nat} {V0 : Value} {a : Option Addr} {n c : Nat} {ds0 ds : List Cel} {kd cl : Int} {f : Nat → JR (JV × Nat)} {a2 a3 : Option Addr} {n2 c2 n3 c3 : Nat} {ks : List ByteArray} {is : List Int} {B : Nat → Prop} {X : JR (List (ByteArray × JV) × Nat)} {a' : Option Addr} {n' c' : Nat}
    (h : KS w5 lo b bv s (t + 1) (.slice a n c) 0 0 ds kd (.slice a2 n2 c2) (.slice a3 n3 c3) ks is B) (hb : w.heap.size ≤ bv) (ho : (Value.slice a n c).ownBlock = V0.ownBlock ∨ ∃ g, (Value.slice a n c).ownBlock = some g ∧ w.heap.size ≤ g) (hT : Touch (fun k => k = b ∨ V0.ownBlock = some k) w w5) (hX : rowE s cl (oneE s kd f) t0 = X) (hE : EndP s kd X (t0 + 1) ds0 w5 B t ds ks is)
    (hr : RS w6 lo b s (t + 1) (.slice a' n' c') 0 0 (ds ++ [⟨kd, ⟨#[]⟩, .slice a2 n2 c2, .slice a3 n3 c3⟩])) (ho2 : (Value.slice a' n' c').ownBlock = (Value.slice a n c).ownBlock ∨ ∃ g, (Value.slice a' n' c').ownBlock = some g ∧ w5.heap.size ≤ g) (hT2 : Touch (fun k => k = b ∨ (Value.slice a n c).ownBlock = some k) w5 w6) :
    RVP w lo b s (t0 + 1) V0 ds0 (nodeE s kd cl (some f) t0) (.returned (.int .i64 (ds.length : Nat))) w6 := by
  obtain ⟨es, dn, e1, e2, e3, e4, e5, e6⟩ := hE
  have l := h.low
  have hz := hT2.size
  have hNode : nodeE s kd cl (some f) t0 = .ok (.node kd ⟨#[]⟩ (kyL kd dn) (dn.map Prod.snd), t + 1) := by
    unfold nodeE
    simp only [hX, e5]
  rw [hNode]
  have hne : ∀ g, g < w5.heap.size → (Value.slice a n c).ownBlock ≠ some g → (Value.slice a' n' c').ownBlock ≠ some g := by
    intro g hg hv e
    rcases ho2 with e2 | ⟨g2, e2, hg2⟩
    · exact hv (by rw [← e2]; exact e)
    · rw [e2] at e
      cases e
      omega
  refine ⟨ds.length, a', n', c', es ++ [⟨kd, ⟨#[]⟩, .slice a2 n2 c2, .slice a3 n3 c3⟩], (fun g => B g ∨ (Value.slice a2 n2 c2).ownBlock = some g ∨ (Value.slice a3 n3 c3).ownBlock = some g), rfl, ?_, ?_, ?_, ?_, ?_, ?_⟩
  · rw [← List.append_assoc, ← e1]
    exact hr
  · rcases ho2 with q | ⟨g, q1, q2⟩
    · rw [q]
      exact ho
    · exact .inr ⟨g, q1, Nat.le_trans hT.size q2⟩
  · rw [← List.append_assoc, ← e1, ← e3]
    exact Tr.node h e4 hT2
  · intro g e
    rcases e with e | e | e
    · have q := h.newB g e
      exact ⟨by omega, by omega, hne g q.2 (h.apB g e).2.2⟩
    · have q := h.new2 g e
      have q2 := own_lt h.keys g e
      exact ⟨by omega, by omega, hne g q2 (h.apart2 g e)⟩
    · have q := h.new3 g e
      have q2 := own_lt h.kids g e
      exact ⟨by omega, by omega, hne g q2 (h.apart3 g e)⟩
  · refine Touch.trans hT hT2 (fun i hi e => ?_)
    rcases e with e | e
    · exact .inl e
    · rcases ho with q | ⟨g, q1, q2⟩
      · exact .inr (by rw [← q]; exact e)
      · rw [q1] at e
        cases e
        omega
  · rw [List.length_append]
    show es.length + 1 + _ ≤ _
    omega
theorem kids_bad {w w5 : World} {lo b : Nat} {s : ByteArray} {t0 t : Nat} {V0 : Value} {a : Option Addr} {n c : Nat} {ds0 ds : List Cel} {kd cl : Int} {f : Nat → JR (JV × Nat)} {er ea : Nat} {X : JR (List (ByteArray × JV) × Nat)}
    (h : RS w5 lo b s t (.slice a n c) er ea ds) (ho : (Value.slice a n c).ownBlock = V0.ownBlock ∨ ∃ g, (Value.slice a n c).ownBlock = some g ∧ w.heap.size ≤ g) (hT : Touch (fun k => k = b ∨ V0.ownBlock = some k) w w5) (hX : rowE s cl (oneE s kd f) t0 = X) (hE : X = .error (er, ea)) (ht : t ≤ s.size + 1) (hd : ds.length ≤ s.size + 1) :
    RVP w lo b s (t0 + 1) V0 ds0 (nodeE s kd cl (some f) t0) (.returned (.int .i64 0)) w5 := by
  have hNode : nodeE s kd cl (some f) t0 = .error (er, ea) := by
    unfold nodeE
    simp only [hX, hE]
  rw [hNode]
  exact ⟨0, t, a, n, c, ds, rfl, ht, h, ho, hT, hd⟩
set_option maxRecDepth 100000 in
set_option maxHeartbeats 16000000 in
theorem rkids_5 (lo b : Nat) (s : ByteArray) (dp : Nat) (D : Int) (hD : D = (dp : Nat)) (sub : Option (Nat → JR (JV × Nat))) (KV : ValC lo b s dp sub) (HE : ∀ t, ErrN (bareE s sub t)) (HF : Fwd s (bareE s sub)) (HF2 : Fwd s (valE s sub)) (hs : s.size ≤ 1048576) (t0 : Nat) (av : Option Addr) (nv cv : Nat) (ds0 : List Cel) (w : World) (ht : t0 < s.size) (hd : ds0.length ≤ t0) (h : RS w lo b s (t0 + 1) (.slice av nv cv) 0 0 ds0) :
    Calls Tryd.prog 34 #[.pointer (some ⟨b, 0, none⟩), .int .i64 93, .int .i64 D] w fun e w' => RVP w lo b s (t0 + 1) (.slice av nv cv) ds0 (nodeE s 5 93 (some (valE s sub)) t0) e w' := by
  obtain ⟨i3, hi3, hz0, hz1, hz2⟩ := info_parts info3b
  obtain ⟨i9, hi9, hy0, hy1, hy2⟩ := info_parts info9b
  have b1 := bl_ge s (t0 + 1)
  have b2 := bl_le s (t0 + 1) ht
  have HRK := hid (row_kd (cl := 93) (one_fwd (kd := 5) HF2) (by decide) ht)
  have KVV := hid (fun t av nv cv er ea ds w h hf hd => value_all KV HE t av nv cv er ea ds w h hf hd)
  rw [← hD] at KVV
  have HFB := hid HF
  have HLT := hid (fun (h : lk s (bl s (t0 + 1)) ≠ -1) => lk_in2 h)
  clear hD KV HE HF HF2
  obtain ⟨X, hX⟩ : ∃ X, X = rowE s 93 (oneE s 5 (valE s sub)) t0 := ⟨_, rfl⟩
  have HX := hid hX.symm
  rw [← hX] at HRK
  clear hX
  obtain ⟨Y, hY⟩ : ∃ Y, Y = nodeE s 5 93 (some (valE s sub)) t0 := ⟨_, rfl⟩
  have HY := hid hY
  rw [← hY]
  clear hY
  have HV0 := hid h.dl
  have TA := (Touch.refl (fun _ => False) w).alloc (.cells #[.int .i64 5, .string ⟨#[]⟩, .slice none 0 0, .slice none 0 0] 53)
  have R0 := hid (h.new TA)
  have BX := hid (jfour_new (w := w) (.int .i64 5) (.string ⟨#[]⟩) (.slice none 0 0) (.slice none 0 0) 53)
  have T0 := hid TA
  have HLO := hid h.low
  have HLB := hid h.rr.lt
  have HD0 := hid hd
  clear h TA hd
  go_enter Tryd.func34, Tryd.ntmps34
  go_upto_region 2 with fail
  generalize w.alloc (.cells #[.int .i64 5, .string ⟨#[]⟩, .slice none 0 0, .slice none 0 0] 53) = w1 at *
  obtain ⟨bv, hbv⟩ : ∃ bv, bv = w.heap.size := ⟨_, rfl⟩
  rw [← hbv] at BX
  rw [← hbv]
  have HBV := hid hbv
  clear hbv
  have NV := hid (show (Value.slice av nv cv).ownBlock ≠ some bv from fun e => by have := own_lt HV0.out _ e; have := HBV.out; omega)
  have S1 := hid (show KS w1 lo b bv s (t0 + 1) (.slice av nv cv) 0 0 ds0 5 (.slice none 0 0) (.slice none 0 0) [] [] (fun _ => False) from ⟨R0.out, BX.out, World.ownsRow_nil _ _ _ _, World.ownsRow_nil _ _ _ _, (fun g e => by cases e), (fun g e => by cases e), NV.out, (by have := HLB.out; have := HBV.out; omega), (fun g e => e.elim), (fun g e => e.elim)⟩)
  have T1 := hid (T0.out.mono (S' := fun k => k = b ∨ (Value.slice av nv cv).ownBlock = some k) (fun _ _ e => e.elim))
  clear R0 BX T0
  have KB := hid (rblanks_good b s (t0 + 1) (.slice av nv cv) _ S1.out.rs.rr hs (by omega))
  obtain ⟨t1, ht1⟩ : ∃ t1, t1 = bl s (t0 + 1) := ⟨_, rfl⟩
  rw [← ht1] at KB HRK HLT b1 b2
  clear ht1
  go_wp2_with fail
  refine KB.out.mono ?_
  rintro e w2 ⟨rfl, hr, tt⟩
  have S2 := hid (S1.out.goes hr tt)
  have T2 := hid (T1.out.trans tt (fun _ _ e => .inl e))
  clear hr tt KB S1 T1
  have KH := hid (here_good b s t1 (.slice av nv cv) _ S2.out.rs.rr (by omega) hs)
  obtain ⟨x, hx⟩ : ∃ x, x = lk s t1 := ⟨_, rfl⟩
  rw [← hx] at KH HRK HLT
  clear hx
  go_wp2_with fail
  refine KH.out.mono ?_
  rintro e w3 ⟨rfl, tt⟩
  have S3 := hid (S2.out.still tt)
  have T3 := hid (T2.out.trans tt (fun _ _ e => e.elim))
  clear tt KH S2 T2
  by_cases hx : x = 93
  · subst hx
    have hlt := HLT.out (by decide)
    rw [if_pos rfl] at HRK
    have c1 := S3.out.rs.rr.c1
    have f1 := S3.out.rs.rr.fr (i := 1)
    go_upto_region 7 with fail
    have TS := Touch.setCell (S := fun k => k = b) (Touch.refl _ w3) (p := ⟨b, 1, none⟩) (fun _ => rfl) (.int .i64 ((t1 : Int) + 1))
    have S4 := hid (show KS (w3.setCell ⟨b, 1, none⟩ (.int .i64 ((t1 : Int) + 1))) lo b bv s (t1 + 1) (.slice av nv cv) 0 0 ds0 5 (.slice none 0 0) (.slice none 0 0) [] [] (fun _ => False) from S3.out.goes (S3.out.rs.rr.at' (t1 + 1)) TS)
    have T4 := hid (T3.out.trans TS (fun _ _ e => .inl e))
    clear TS c1 f1 S3 T3
    generalize w3.setCell ⟨b, 1, none⟩ (.int .i64 ((t1 : Int) + 1)) = w4 at *
    obtain ⟨⟨k0, k1, k2, k3⟩, _⟩ := cells4 S4.out.obj
    have K5 := hid (S4.out.rs.put (by have := HD0.out; omega) 5 ⟨#[]⟩ none 0 0 none 0 0)
    go_wp2_with fail
    refine K5.out.mono ?_
    rintro e w5 ⟨rfl, a', n', c', hs5, ho, tt⟩
    have S5 := hid hs5
    have HO := hid ho
    have T5 := hid tt
    clear hs5 ho tt K5
    go_wp2
    go_ret
    rw [HY.out]
    exact kids_end S4.out (by have := HBV.out; omega) (.inl rfl) T4.out HX.out ⟨[], [], by simp, by simp; omega, by decide, Tr.nil _ _ _, HRK.out, hlt⟩ S5.out HO.out T5.out
  · rw [if_neg hx] at HRK
    have hxb : (x == 93) = false := by simpa using hx
    have hxd : decide (x = 93) = false := decide_eq_false hx
    clear HLT
    go_upto_region 8 with fail
    go_loopg [] (s.size + 2) (fun gk wq => ∃ (t er ea : Nat) (a : Option Addr) (n c : Nat) (ds : List Cel) (a2 : Option Addr) (n2 c2 : Nat) (a3 : Option Addr) (n3 c3 : Nat) (ks : List ByteArray) (is : List Int) (B : Nat → Prop), Hid (KS wq lo b bv s t (.slice a n c) er ea ds 5 (.slice a2 n2 c2) (.slice a3 n3 c3) ks is B) ∧ Hid ((er = 0 → s.size + 1 ≤ t + gk) ∧ ks.length + gk ≤ s.size + 2 ∧ is.length + gk ≤ s.size + 2) ∧ Hid (LoopP s 93 5 (oneE s 5 (valE s sub)) X (t0 + 1) ds0 wq B t er ea ds ks is) ∧ Hid ((Value.slice a n c).ownBlock = (Value.slice av nv cv).ownBlock ∨ ∃ g, (Value.slice a n c).ownBlock = some g ∧ w.heap.size ≤ g) ∧ Hid (Touch (fun k => k = b ∨ (Value.slice av nv cv).ownBlock = some k) w wq))
    case atStart => exact ⟨t1, 0, 0, av, nv, cv, ds0, none, 0, 0, none, 0, 0, [], [], fun _ => False, S3, hid ⟨fun _ => by omega, by simp, by simp⟩, hid (.inl ⟨rfl, rfl, b2, [], [], s.size + 1, by simp, by simp; omega, by decide, Tr.nil _ _ _, by omega, by rw [HRK.out]; show pre [] _ = _; generalize kdF s 93 (oneE s 5 (valE s sub)) (s.size + 1) t1 = R; match R with | .error e => rfl | .ok (l, u) => rfl⟩), hid (.inl rfl), T3⟩
    case round =>
      obtain ⟨t, er, ea, a, n, c, ds, a2, n2, c2, a3, n3, c3, ks, is, B, SQ, HM, LP, HO, TQ⟩ := hrel
      clear S3 T3 HRK hxb hxd
      have z4 := SQ.out.rs.rr.c4
      by_cases he : er = 0
      case neg =>
        have heb : ((er : Int) == 0) = false := by simp; omega
        have hed : decide ((er : Int) = 0) = false := by simp; omega
        have LB := hid (show X = .error (er, ea) ∧ t ≤ s.size + 1 ∧ ds.length ≤ s.size + 1 from by
          rcases LP.out with ⟨hh, _⟩ | ⟨_, hh⟩
          · exact absurd hh he
          · exact hh)
        clear LP HM
        go_wp2
        go_ret
        rw [HY.out]
        exact kids_bad SQ.out.rs HO.out TQ.out HX.out LB.out.1 LB.out.2.1 LB.out.2.2
      case pos =>
        subst he
        obtain ⟨hea, htt, hdl⟩ := LP.out.good (by have := HD0.out; omega)
        subst hea
        have q1 := bl_ge s t
        have q2 := bl_le s t htt
        have KB := hid (rblanks_good b s t (.slice a n c) _ SQ.out.rs.rr hs htt)
        have HBL := hid (rfl : bl s t = bl s t)
        obtain ⟨tb, htb⟩ : ∃ tb, tb = bl s t := ⟨_, rfl⟩
        rw [← htb] at KB q1 q2
        have HTB := hid htb
        clear htb HBL
        go_wp2_with fail
        refine KB.out.mono ?_
        rintro e w4 ⟨rfl, hr, tt⟩
        have S4 := hid (SQ.out.goes hr tt)
        have T4 := hid (TQ.out.trans tt (fun _ _ e => .inl e))
        have L4 := hid (LP.out.kept tt (fun g e e2 => by have := SQ.out.newB g e; have := SQ.out.low; omega))
        clear hr tt KB SQ TQ LP z4
        obtain ⟨⟨k0, k1, k2, k3⟩, _⟩ := cells4 S4.out.obj
        have KVC := hid (KVV.out tb a n c 0 0 ds _ S4.out.rs (fun _ => ⟨rfl, q2⟩) (fun _ => by omega))
        go_wp2_with fail
        refine KVC.out.mono ?_
        rintro e w10 ⟨r, t10, er10, ea10, a', n', c', ds', B', rfl, hr, ho, hB, tt, hq⟩
        have S10 := hid (S4.out.valued hr ho hB tt)
        have T10 := hid (show Touch (fun k => k = b ∨ (Value.slice av nv cv).ownBlock = some k) w w10 from Touch.trans T4.out tt (fun i hi e => by
          rcases e with e | e
          · exact .inl e
          · rcases HO.out with g | ⟨g, g1, g2⟩
            · exact .inr (by rw [← g]; exact e)
            · rw [g1] at e
              cases e
              omega))
        have L10 := hid (L4.out.kept tt (fun g e e2 => by
          have := S4.out.newB g e
          have := S4.out.low
          rcases e2 with e2 | e2
          · omega
          · exact (S4.out.apB g e).2.2 e2))
        have HO10 := hid (show (Value.slice a' n' c').ownBlock = (Value.slice av nv cv).ownBlock ∨ ∃ g, (Value.slice a' n' c').ownBlock = some g ∧ w.heap.size ≤ g from by
          rcases ho with g | ⟨g, g1, g2⟩
          · rw [g]
            exact HO.out
          · exact .inr ⟨g, g1, Nat.le_trans T4.out.size g2⟩)
        have OQ := hid (one_five HFB.out htt (by rw [← HTB.out]; exact hq))
        clear hr ho hB tt hq KVC S4 T4 L4 k0 k1 k2 k3 HO
        obtain ⟨⟨k0, k1, k2, k3⟩, _⟩ := cells4 S10.out.obj
        have hn3 := S10.out.kids.len
        have hb3 : n3 ≤ 1048578 := by have := HM.out; omega
        have HN3 := hid hn3
        have OW := hid (show w10.ownsRow 0 3 1 (.slice a3 n3 c3) n3 (is.map (fun k => .int .i64 k)) from by have := S10.out.kids; unfold KIs at this; rw [← hn3] at this; exact this)
        clear hn3
        go_wp2_with (at_builtin; (refine wpList_append_own_at _ rfl _ _ 51 rfl 0 3 i3 (.int .i64 0) 1 8 Tryd.underlying51 hi3 hz0 hz1 hz2 rfl (by decide) _ _ _ rfl (OW.out.alloc _) ⟨w10.heap.size, 0, none⟩ 1 1 [.int .i64 r] rfl rfl (row_new w10 [.int .i64 r] 3) (by intro u hu; simp at hu; subst hu; rfl) (by unfold maxLen; omega) (by omega) (Nat.zero_le _) ?_))
        intro v3' w11 hown hgrow _ hat
        obtain ⟨a3', c3', hv3⟩ := own_shape hown
        subst hv3
        have G11 := hid (S10.out.grown3 hgrow)
        obtain ⟨S12, T12⟩ := S10.out.kidded HN3.out hown hgrow hat
        replace S12 := hid S12
        have TK := T12
        replace T12 := hid (show Touch (fun k => k = b ∨ (Value.slice av nv cv).ownBlock = some k) w (w11.setCell ⟨bv, 3, none⟩ (.slice a3' (n3 + 1) c3')) from Touch.trans T10.out T12 (fun i hi e => by
          rcases e with e | e
          · have := HBV.out
            omega
          · have := S10.out.new3 i e
            have := HBV.out
            omega))
        have L12 := hid (show LoopP s 93 5 (oneE s 5 (valE s sub)) X (t0 + 1) ds0 (w11.setCell ⟨bv, 3, none⟩ (.slice a3' (n3 + 1) c3')) B t 0 0 ds ks is from L10.out.kept TK (fun g e e2 => by
          have := S10.out.newB g (.inl e)
          rcases e2 with e2 | e2
          · omega
          · exact (S10.out.apB g (.inl e)).2.1 e2))
        have OQ12 := hid (OQ.out.kept TK (fun g e e2 => by
          have := S10.out.newB g (.inr e)
          rcases e2 with e2 | e2
          · omega
          · exact (S10.out.apB g (.inr e)).2.1 e2))
        clear hown hgrow hat TK S10 T10 L10 OW k0 k1 k2 k3 OQ HN3
        obtain ⟨⟨_, _, _, k3⟩, ⟨_, _, _, f3⟩⟩ := cells4 G11.out
        go_upto_region 17 with fail
        clear k3 f3 G11
        generalize w11.setCell ⟨bv, 3, none⟩ (.slice a3' (n3 + 1) c3') = w12 at *
        have HW10 := hid (show er10 = 0 → ea10 = 0 ∧ t10 ≤ s.size from fun e => by
          rcases OQ12.out with ⟨_, g1, g2, _⟩ | ⟨g, _⟩
          · exact ⟨g1, g2⟩
          · exact absurd e g)
        have KB := hid (rblanks_all b s t10 (.slice a' n' c') er10 ea10 _ S12.out.rs.rr hs HW10.out)
        obtain ⟨t13, ht13⟩ : ∃ t13, t13 = if er10 = 0 then bl s t10 else t10 := ⟨_, rfl⟩
        rw [← ht13] at KB
        have HT13 := hid ht13
        have HW13 := hid (show er10 = 0 → ea10 = 0 ∧ t13 ≤ s.size from fun e => ⟨(HW10.out e).1, by rw [ht13, if_pos e]; exact bl_le s t10 (HW10.out e).2⟩)
        clear ht13
        go_wp2_with fail
        refine KB.out.mono ?_
        rintro e w13 ⟨rfl, hr, tt⟩
        have S13 := hid (S12.out.goes hr tt)
        have T13 := hid (T12.out.trans tt (fun _ _ e => .inl e))
        have L13 := hid (L12.out.kept tt (fun g e e2 => by have := S12.out.newB g (.inl e); have := S12.out.low; omega))
        have OQ13 := hid (OQ12.out.kept tt (fun g e e2 => by have := S12.out.newB g (.inr e); have := S12.out.low; omega))
        clear hr tt KB S12 T12 L12 OQ12
        have KH := hid (here_all b s t13 (.slice a' n' c') er10 ea10 _ S13.out.rs.rr hs HW13.out)
        obtain ⟨y, hy⟩ : ∃ y, y = if er10 = 0 then lk s t13 else -1 := ⟨_, rfl⟩
        rw [← hy] at KH
        have HY13 := hid (show (if er10 = 0 then lk s (bl s t10) else -1) = y from by
          rw [hy]
          split
          · rename_i g
            rw [HT13.out, if_pos g]
          · rfl)
        clear hy
        go_wp2_with fail
        refine KH.out.mono ?_
        rintro e w14 ⟨rfl, tt⟩
        have S14 := hid (S13.out.still tt)
        have T14 := hid (T13.out.trans tt (fun _ _ e => e.elim))
        have L14 := hid (L13.out.kept tt (fun g e e2 => e2))
        have OQ14 := hid (OQ13.out.kept tt (fun g e e2 => e2))
        clear tt KH S13 T13 L13 OQ13
        by_cases hyc : y = 93
        case pos =>
          subst hyc
          obtain ⟨g0, g1, g2, g3⟩ := L14.out.fin OQ14.out (ks2 := ks) (by simp) (by decide) HY13.out
          subst g0
          subst g1
          have EP := hid g3
          have hlt := g3.lt
          rw [if_pos rfl] at HT13
          rw [← HT13.out] at hlt
          rw [← HT13.out] at EP
          clear g3 L14 OQ14 HT13
          have d1 : ds'.length ≤ 1048580 := EP.out.dsl (by have := HD0.out; omega) hs
          have c1 := S14.out.rs.rr.c1
          have f1 := S14.out.rs.rr.fr (i := 1)
          go_upto_region 20 with fail
          have TS := Touch.setCell (S := fun k => k = b) (Touch.refl _ w14) (p := ⟨b, 1, none⟩) (fun _ => rfl) (.int .i64 ((t13 : Int) + 1))
          have S15 := hid (show KS (w14.setCell ⟨b, 1, none⟩ (.int .i64 ((t13 : Int) + 1))) lo b bv s (t13 + 1) (.slice a' n' c') 0 0 ds' 5 (.slice a2 n2 c2) (.slice a3' (n3 + 1) c3') ks (is ++ [r]) (fun g => B g ∨ B' g) from S14.out.goes (S14.out.rs.rr.at' (t13 + 1)) TS)
          have T15 := hid (T14.out.trans TS (fun _ _ e => .inl e))
          have EP15 := hid (EP.out.kept TS (fun g e e2 => by have := S14.out.newB g e; have := S14.out.low; omega))
          clear TS c1 f1 S14 T14 EP
          generalize w14.setCell ⟨b, 1, none⟩ (.int .i64 ((t13 : Int) + 1)) = w15 at *
          obtain ⟨⟨k0, k1, k2, k3⟩, _⟩ := cells4 S15.out.obj
          have K5 := hid (S15.out.rs.put (by omega) 5 ⟨#[]⟩ a2 n2 c2 a3' (n3 + 1) c3')
          go_wp2_with fail
          refine K5.out.mono ?_
          rintro e w16 ⟨rfl, a'', n'', c'', hs5, ho, tt⟩
          have S16 := hid hs5
          have HO16 := hid ho
          have T16 := hid tt
          clear hs5 ho tt K5
          go_wp2
          go_ret
          rw [HY.out]
          exact kids_end S15.out (by have := HBV.out; omega) HO10.out T15.out HX.out EP15.out S16.out HO16.out T16.out
        case neg =>
          have hyb : (y == 93) = false := by simpa using hyc
          have hyd : decide (y = 93) = false := decide_eq_false hyc
          have KW := hid (want_all b s ⟨#[44]⟩ t13 (.slice a' n' c') er10 ea10 _ S14.out.rs.rr hs (by decide) HW13.out)
          go_wp2_with fail
          refine KW.out.mono ?_
          rintro e w15 ⟨rfl, t15, er15, ea15, hr, hq, tt⟩
          have S15 := hid (S14.out.goes hr tt)
          have T15 := hid (T14.out.trans tt (fun _ _ e => .inl e))
          have L15 := hid (L14.out.kept tt (fun g e e2 => by have := S14.out.newB g (.inl e); have := S14.out.low; omega))
          have OQ15 := hid (OQ14.out.kept tt (fun g e e2 => by have := S14.out.newB g (.inr e); have := S14.out.low; omega))
          have HN := hid (L15.out.next (by have := HD0.out; omega) OQ15.out (ks2 := ks) (by simp) (by rw [HY13.out]; exact hyc) (t3 := t15) (er3 := er15) (ea3 := ea15) (by rw [← HT13.out]; exact hq))
          clear hr hq tt KW S14 T14 L14 OQ14 L15 OQ15 hyb hyd
          have hgk : 1 ≤ gk := by have := HM.out.1 (by first | trivial | rfl); omega
          go_wp2
          go_roundg (gk - 1)
          case measure => omega
          case rel => exact ⟨t15, er15, ea15, a', n', c', ds', a2, n2, c2, a3', n3 + 1, c3', ks, is ++ [r], _, S15, hid ⟨fun e => by have := HN.out.2 e; have := HM.out.1 (by first | trivial | rfl); omega, by have := HM.out.2.1; simp; omega, by have := HM.out.2.2; simp; omega⟩, hid HN.out.1, HO10, T15⟩
end Go.Proofs.YtjpmjcadnnglnaaDoor
