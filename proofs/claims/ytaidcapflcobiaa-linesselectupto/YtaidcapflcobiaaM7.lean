/- Texts of this proof, one behind the other: what each says stands ahead of it. -/
import Derived.Test.YtaidcapflcobiaaM6
/- The document's Select; conditions: all fits into memory. -/
namespace Go.Proofs.Ytaidcapflcobiaa
open Go.RowKit

theorem info56 : (Try.prog.info? 56).map (fun i => (i.zero, i.size, i.bytes)) = some (some (.agg #[.int .i64 0, .int .i64 0, .int .i64 0, .slice none 0 0]), 4, 48) := by kernel_rfl
def BL (l fs : List R2) (inv : Bool) (i : Nat) : List Int := if inv = true then [] else begR l fs i

/-- The lines that the document has told so far. -/
structure RO (W0 w : World) (l fs : List R2) (inv : Bool) (j : Nat) (v : Value) (vs : Nat → Value) : Prop where
  own : w.ownsRow 0 56 4 v (selP l.length (hitR l fs) inv j).length (flatLn l vs (selP l.length (hitR l fs) inv j))
  new : ∀ g, v.ownBlock = some g → W0.heap.size ≤ g
  fnd : ∀ i ∈ selP l.length (hitR l fs) inv j, Fnd w (vs i.1) (BL l fs inv i.1)
  touch : Touch (fun _ => False) W0 w
theorem RO.still {W0 w w' : World} {l fs : List R2} {inv : Bool} {j : Nat} {v : Value} {vs : Nat → Value} (h : RO W0 w l fs inv j v vs) (t : Touch (fun _ => False) w w') : RO W0 w' l fs inv j v vs :=
  ⟨own_keepT h.own t, h.new, fun i hi => (h.fnd i hi).kept (fun b _ hb => t.block b (lt_of_block hb) id), h.touch.trans t (fun _ _ e => e)⟩
theorem RO.skip {W0 w : World} {l fs : List R2} {inv : Bool} {j : Nat} {v : Value} {vs : Nat → Value} (h : RO W0 w l fs inv j v vs) (hj : j < l.length) (hh : ¬ (hitR l fs j != inv) = true) : RO W0 w l fs inv (j + 1) v vs := by
  have e : selP l.length (hitR l fs) inv (j + 1) = selP l.length (hitR l fs) inv j := by rw [selP_step _ _ _ hj, if_neg hh, List.append_nil]
  exact ⟨by rw [e]; exact h.own, h.new, by rw [e]; exact h.fnd, h.touch⟩
theorem RO.more {W0 w wa w1 : World} {l fs : List R2} {inv : Bool} {j : Nat} {v v' u : Value} {vs : Nat → Value} (h : RO W0 w l fs inv j v vs) (hj : j < l.length) (hh : (hitR l fs j != inv) = true) (hu : Fnd w u (BL l fs inv j)) (ta : Touch (fun _ => False) w wa)
    (hown : w1.ownsRow 0 56 4 v' ((selP l.length (hitR l fs) inv j).length + 1) (flatLn l vs (selP l.length (hitR l fs) inv j) ++ [.int .i64 ((j : Int) + 1), .int .i64 (l[j]).1, .int .i64 (l[j]).2, u])) (hg : wa.grownBy w1 v.ownBlock) (hat : v'.ownBlock = v.ownBlock ∨ ∃ g, v'.ownBlock = some g ∧ w.heap.size ≤ g) :
    RO W0 w1 l fs inv (j + 1) v' (upd vs j u) := by
  have e : selP l.length (hitR l fs) inv (j + 1) = selP l.length (hitR l fs) inv j ++ [⟨j, hj⟩] := by rw [selP_step _ _ _ hj, if_pos hh]
  have hlt : ∀ i ∈ selP l.length (hitR l fs) inv j, i.1 < j := fun i hi => selP_lt (by omega) hi
  have keep : ∀ (b : Nat) (cs : Array Value), w.heap[b]? = some (Obj.cells cs 3 (0, 0)) → w1.heap[b]? = w.heap[b]? := fun b cs hb =>
    (hg.block b (Nat.lt_of_lt_of_le (lt_of_block hb) ta.size) (fun e => by
      obtain ⟨c2, h2⟩ := own_blk h.own e.symm
      exact ne_type hb h2 (by decide) rfl)).trans (ta.block b (lt_of_block hb) id)
  refine ⟨?_, fun g hg' => ?_, fun i hi => ?_, (h.touch.trans ta (fun _ _ e => e)).grown hg (fun k e hk => by have := h.new k e; omega)⟩
  · rw [e, List.length_append]
    have e2 : flatLn l (upd vs j u) (selP l.length (hitR l fs) inv j ++ [⟨j, hj⟩]) = flatLn l vs (selP l.length (hitR l fs) inv j) ++ [.int .i64 ((j : Int) + 1), .int .i64 (l[j]).1, .int .i64 (l[j]).2, u] := by
      have := flat_upd l vs j u _ hlt
      unfold flatLn at this ⊢
      rw [List.flatMap_append, this]
      simp [encLn, upd]
    rw [e2]
    exact hown
  · rcases hat with e | ⟨g', e, hl⟩
    · exact h.new g (by rw [← e]; exact hg')
    · rw [e] at hg'
      cases hg'
      have := h.touch.size
      omega
  · rw [e] at hi
    rcases List.mem_append.1 hi with hi | hi
    · have := hlt i hi
      unfold upd
      rw [if_neg (by omega)]
      exact (h.fnd i hi).kept keep
    · simp only [List.mem_cons, List.not_mem_nil, or_false] at hi
      subst hi
      unfold upd
      rw [if_pos rfl]
      exact hu.kept keep

set_option maxRecDepth 100000 in
set_option maxHeartbeats 8000000 in
theorem rselect_any (d : ByteArray) (hd : d.size ≤ 2097152) (a2 : Option Addr) (c2 : Nat) (fs : List R2) (inv : Bool) (w : World) (hf : Rg w a2 fs) (hfb : fs.length ≤ 2097152) (hin : ∀ x ∈ fs, 0 ≤ x.2 ∧ x.2 ≤ 4194304) :
    Calls Try.prog 15 #[.string d, .slice a2 fs.length c2, .bool inv] w fun e w' => ∃ a c, e = .returned (.slice a (selP (lns d).length (hitR (lns d) fs) inv (lns d).length).length c) ∧ Lg w' a (lns d) (BL (lns d) fs inv) (selP (lns d).length (hitR (lns d) fs) inv (lns d).length) ∧ Touch (fun _ => False) w w' := by
  obtain ⟨i0, hi3, hz0, hz1, hz2⟩ := info_parts info3
  obtain ⟨j0, hi56, hy0, hy1, hy2⟩ := info_parts info56
  have hln := lns_len d
  have HF := hid hf
  have HIN := hid hin
  clear hf hin
  go_enter Try.func15, Try.ntmps15
  go_wp2_with fail
  refine (rsplit_any d w (by omega)).mono ?_
  rintro e w1 ⟨v1, rfl, ow⟩
  obtain ⟨a1, c1, hv1, hr1⟩ := ow.rg
  subst hv1
  have T1 := hid ow.touch
  have R1 := hid hr1
  replace HF := hid (HF.out.new ow.touch)
  clear ow hr1
  go_wp2_with fail
  go_loopg [8, 9] (lns d).length (fun gk v i wr => ∃ (j : Nat) (vs : Nat → Value), j + gk = (lns d).length ∧ i = .int .i64 (j : Nat) ∧ RO w1 wr (lns d) fs inv j v vs)
  case atStart => exact ⟨0, fun _ => .slice none 0 0, by omega, rfl, ⟨World.ownsRow_nil _ _ _ _, fun g hg => by simp [Value.ownBlock] at hg, fun i hi => by simp [selP, up] at hi, Touch.refl _ _⟩⟩
  case round =>
    obtain ⟨j, vs, hj, rfl, hro⟩ := hrel
    have RO1 := hid hro
    obtain ⟨av, cv, hv⟩ := own_shape hro.own
    subst hv
    clear hro
    have hsl := selP_len (lns d).length (hitR (lns d) fs) inv j (by omega)
    by_cases hlt : j < (lns d).length
    · obtain ⟨G, hG⟩ : ∃ G, G = gk := ⟨_, rfl⟩
      have HG := hid hG
      clear hG
      obtain ⟨b, o, ha, hbl, hcell⟩ : ∃ b o, a1 = some ⟨b, o, none⟩ ∧ b < wr.heap.size ∧ ∀ i (h : i < (lns d).length), wr.cell? ⟨b, o + i * 2, none⟩ = some (.int .i64 ((lns d)[i]).1) ∧ wr.cell? ⟨b, o + i * 2 + 1, none⟩ = some (.int .i64 ((lns d)[i]).2) := by
        rcases R1.out.new RO1.out.touch with h | h
        · rw [h] at hlt; simp at hlt
        · exact h
      subst ha
      obtain ⟨d0, d1⟩ := hcell j hlt
      obtain ⟨y, hy⟩ : ∃ y, y = ((lns d)[j]).1 := ⟨_, rfl⟩
      obtain ⟨z, hz⟩ : ∃ z, z = ((lns d)[j]).2 := ⟨_, rfl⟩
      rw [← hy] at d0
      rw [← hz] at d1
      have HY := hid hy
      have HZ := hid hz
      have hjI : (j : Int) < ((lns d).length : Int) := by omega
      have RX0 := hid (RX.start wr ((j : Int) + 1) y z)
      clear hcell hy hz hbl
      have TA := hid ((Touch.refl (fun _ => False) wr).alloc (.cells #[.int .i64 ((j : Int) + 1), .int .i64 y, .int .i64 z, .slice none 0 0] 56))
      go_wp2_with fail
      obtain ⟨w2, hw2⟩ : ∃ w2, w2 = wr.alloc (.cells #[.int .i64 ((j : Int) + 1), .int .i64 y, .int .i64 z, .slice none 0 0] 56) := ⟨_, rfl⟩
      obtain ⟨q, hq⟩ : ∃ q, q = wr.heap.size := ⟨_, rfl⟩
      rw [← hw2, ← hq] at RX0
      rw [← hw2, ← hq]
      clear hw2 hq d0 d1 TA
      obtain ⟨wo, hwo⟩ : ∃ wo, wo = wr := ⟨wr, rfl⟩
      subst hwo
      go_loopg [11, 12] fs.length (fun gk2 h k wq => ∃ (kk : Nat) (vf : Value), kk + gk2 = fs.length ∧ k = .int .i64 (kk : Nat) ∧ h = .bool (hitR (lns d) (fs.take kk) j) ∧ RX wo wq q ((j : Int) + 1) y z vf (begR (lns d) (fs.take kk) j))
      case atStart => exact ⟨0, _, by omega, rfl, rfl, RX0.out⟩
      case round =>
        obtain ⟨kk, vf, hk, rfl, rfl, hrx⟩ := hrel
        have RX1 := hid hrx
        obtain ⟨af, cf, hvf⟩ := own_shape hrx.own
        subst hvf
        clear hrx
        by_cases hlk : kk < fs.length
        · obtain ⟨b3, o3, ha3, hbl3, hcell3⟩ : ∃ b o, a2 = some ⟨b, o, none⟩ ∧ b < wr.heap.size ∧ ∀ i (h : i < fs.length), wr.cell? ⟨b, o + i * 2, none⟩ = some (.int .i64 (fs[i]).1) ∧ wr.cell? ⟨b, o + i * 2 + 1, none⟩ = some (.int .i64 (fs[i]).2) := by
            rcases HF.out.new (RO1.out.touch.trans RX1.out.touch (fun _ _ e => e)) with h | h
            · rw [h] at hlk; simp at hlk
            · exact h
          subst ha3
          obtain ⟨e0, e1⟩ := hcell3 kk hlk
          have HTH := hid ((congrArg (fun t => hitR (lns d) t j) (List.take_succ_eq_append_getElem hlk)).trans (hitR_snoc _ _ _ _))
          have HTB := hid ((congrArg (fun t => begR (lns d) t j) (List.take_succ_eq_append_getElem hlk)).trans (begR_snoc _ _ _ _))
          rw [show (fs.take kk).length = kk by rw [List.length_take]; omega] at HTB
          have HXI := hid (HIN.out fs[kk] (List.getElem_mem _))
          obtain ⟨x, hx⟩ : ∃ x, x = fs[kk] := ⟨_, rfl⟩
          rw [← hx] at e0 e1 HTH HTB HXI
          obtain ⟨p, r⟩ := x
          dsimp only at e0 e1 HXI
          have hr0 := HXI.out.1
          have hr1 := HXI.out.2
          obtain ⟨f0, hf0'⟩ : ∃ f0, f0 = fstL (lns d) (p, r) := ⟨_, rfl⟩
          obtain ⟨g0, hg0⟩ : ∃ g0, g0 = lstL (lns d) (p, r) := ⟨_, rfl⟩
          rw [← hf0', ← hg0] at HTH
          rw [← hf0'] at HTB
          have HF0 := hid hf0'
          have HG0 := hid hg0
          obtain ⟨hb, hhb⟩ : ∃ hb, hb = hitR (lns d) (fs.take kk) j := ⟨_, rfl⟩
          rw [← hhb] at HTH ⊢
          have hbl4 := begR_len (lns d) (fs.take kk) j
          rw [List.length_take] at hbl4
          have hkI : (kk : Int) < (fs.length : Int) := by omega
          clear hcell3 hx hf0' hg0 hhb
          have KA := hid (show Calls Try.prog 12 #[.slice (some ⟨b, o, none⟩) (lns d).length c1, .int .i64 p] wr fun e w' => e = .returned (.int .i64 f0) ∧ wr = w' from by
            rw [HF0.out]
            exact rat_any (some ⟨b, o, none⟩) c1 (lns d) p wr (R1.out.new (RO1.out.touch.trans RX1.out.touch (fun _ _ e => e))) (lns_rise d) (by omega))
          go_wp2_with fail
          refine KA.out.mono ?_
          rintro e w9 ⟨rfl, rfl⟩
          clear KA
          by_cases hpr : p < r
          · have HLP := hid (show lastP (p, r) = r - 1 from by unfold lastP; rw [if_pos hpr])
            go_wp2_with fail
            go_quiet (fail)
            go_wp2_with fail
            have RX2 := hid (RX1.out.still ((Touch.refl _ _).drewN nq))
            generalize wr.drewN nq = w8 at *
            have KB := hid (show Calls Try.prog 12 #[.slice (some ⟨b, o, none⟩) (lns d).length c1, .int .i64 (r - 1)] w8 fun e w' => e = .returned (.int .i64 g0) ∧ w8 = w' from by
              have := rat_any (some ⟨b, o, none⟩) c1 (lns d) (r - 1) w8 (R1.out.new (RO1.out.touch.trans RX2.out.touch (fun _ _ e => e))) (lns_rise d) (by omega)
              rw [HG0.out]
              unfold lstL
              rw [HLP.out]
              exact this)
            refine KB.out.mono ?_
            rintro e w9 ⟨rfl, rfl⟩
            have m3 := cell_four3 RX2.out.blk
            clear KB RX1 e0 e1
            by_cases hA : f0 = (j : Int)
            · have hA2 : (f0 == (j : Int)) = true := by simpa using hA
              have hA3 : f0 ≤ (j : Int) := by omega
              by_cases hB : (j : Int) ≤ g0
              · skip
                go_wp2_with (at_builtin; refine wpList_append_own_at _ rfl _ _ 39 rfl 0 3 i0 (.int .i64 0) 1 8 Try.underlying39 hi3 hz0 hz1 hz2 rfl (by decide) _ _ _ rfl (RX2.out.own.alloc _) ⟨w8.heap.size, 0, none⟩ 1 1 [.int .i64 kk] rfl rfl (row_new w8 [.int .i64 kk] 3) (by intro u hu; simp at hu; subst hu; rfl) (by unfold maxLen; omega) (by omega) (Nat.zero_le _) ?_)
                intro v6 w6 hown hgrow _ hat
                obtain ⟨a6, c6, hv6⟩ := own_shape hown
                subst hv6
                obtain ⟨kq, hrx⟩ := RX2.out.app ((Touch.refl _ _).alloc _) hown hgrow (by
                  rcases hat with e | e
                  · exact .inl e
                  · exact .inr ⟨_, e, by simp⟩)
                have RX3 := hid hrx
                have n3 := cell_four3 kq
                have n4 := free_four (i := 3) kq
                clear hown hgrow hat hrx kq m3 RX2
                go_wp2
                go_roundg (gk - 1)
                case measure => omega
                case rel =>
                  refine ⟨kk + 1, (.slice a6 ((begR (lns d) (fs.take kk) j).length + 1) c6), by omega, by go_num, ?_, ?_⟩
                  · rw [HTH.out, decide_eq_true hA3, decide_eq_true hB, Bool.and_self, Bool.or_true]
                  · rw [HTB.out, if_pos hA]
                    exact RX3.out
              · skip
                go_wp2_with (at_builtin; refine wpList_append_own_at _ rfl _ _ 39 rfl 0 3 i0 (.int .i64 0) 1 8 Try.underlying39 hi3 hz0 hz1 hz2 rfl (by decide) _ _ _ rfl (RX2.out.own.alloc _) ⟨w8.heap.size, 0, none⟩ 1 1 [.int .i64 kk] rfl rfl (row_new w8 [.int .i64 kk] 3) (by intro u hu; simp at hu; subst hu; rfl) (by unfold maxLen; omega) (by omega) (Nat.zero_le _) ?_)
                intro v6 w6 hown hgrow _ hat
                obtain ⟨a6, c6, hv6⟩ := own_shape hown
                subst hv6
                obtain ⟨kq, hrx⟩ := RX2.out.app ((Touch.refl _ _).alloc _) hown hgrow (by
                  rcases hat with e | e
                  · exact .inl e
                  · exact .inr ⟨_, e, by simp⟩)
                have RX3 := hid hrx
                have n3 := cell_four3 kq
                have n4 := free_four (i := 3) kq
                clear hown hgrow hat hrx kq m3 RX2
                go_wp2
                go_roundg (gk - 1)
                case measure => omega
                case rel =>
                  refine ⟨kk + 1, (.slice a6 ((begR (lns d) (fs.take kk) j).length + 1) c6), by omega, by go_num, ?_, ?_⟩
                  · rw [HTH.out, decide_eq_false (show ¬ (j : Int) ≤ g0 by omega), Bool.and_false, Bool.or_false]
                  · rw [HTB.out, if_pos hA]
                    exact RX3.out
            · have hA2 : (f0 == (j : Int)) = false := by simpa using hA
              by_cases hC : f0 ≤ (j : Int)
              · by_cases hB : (j : Int) ≤ g0
                · skip
                  go_wp2
                  go_roundg (gk - 1)
                  case measure => omega
                  case rel =>
                    refine ⟨kk + 1, (.slice af (begR (lns d) (fs.take kk) j).length cf), by omega, by go_num, ?_, ?_⟩
                    · rw [HTH.out, decide_eq_true hC, decide_eq_true hB, Bool.and_self, Bool.or_true]
                    · rw [HTB.out, if_neg hA, List.append_nil]
                      exact RX2.out
                · skip
                  go_wp2
                  go_roundg (gk - 1)
                  case measure => omega
                  case rel =>
                    refine ⟨kk + 1, (.slice af (begR (lns d) (fs.take kk) j).length cf), by omega, by go_num, ?_, ?_⟩
                    · rw [HTH.out, decide_eq_false (show ¬ (j : Int) ≤ g0 by omega), Bool.and_false, Bool.or_false]
                    · rw [HTB.out, if_neg hA, List.append_nil]
                      exact RX2.out
              · skip
                go_wp2
                go_roundg (gk - 1)
                case measure => omega
                case rel =>
                  refine ⟨kk + 1, (.slice af (begR (lns d) (fs.take kk) j).length cf), by omega, by go_num, ?_, ?_⟩
                  · rw [HTH.out, decide_eq_false (show ¬ f0 ≤ (j : Int) by omega), Bool.false_and, Bool.or_false]
                  · rw [HTB.out, if_neg hA, List.append_nil]
                    exact RX2.out
          · have HLP := hid (show lastP (p, r) = r from by unfold lastP; rw [if_neg hpr])
            go_wp2_with fail
            go_quiet (fail)
            go_wp2_with fail
            have RX2 := hid (RX1.out.still ((Touch.refl _ _).drewN nq))
            generalize wr.drewN nq = w8 at *
            have KB := hid (show Calls Try.prog 12 #[.slice (some ⟨b, o, none⟩) (lns d).length c1, .int .i64 (r)] w8 fun e w' => e = .returned (.int .i64 g0) ∧ w8 = w' from by
              have := rat_any (some ⟨b, o, none⟩) c1 (lns d) (r) w8 (R1.out.new (RO1.out.touch.trans RX2.out.touch (fun _ _ e => e))) (lns_rise d) (by omega)
              rw [HG0.out]
              unfold lstL
              rw [HLP.out]
              exact this)
            refine KB.out.mono ?_
            rintro e w9 ⟨rfl, rfl⟩
            have m3 := cell_four3 RX2.out.blk
            clear KB RX1 e0 e1
            by_cases hA : f0 = (j : Int)
            · have hA2 : (f0 == (j : Int)) = true := by simpa using hA
              have hA3 : f0 ≤ (j : Int) := by omega
              by_cases hB : (j : Int) ≤ g0
              · skip
                go_wp2_with (at_builtin; refine wpList_append_own_at _ rfl _ _ 39 rfl 0 3 i0 (.int .i64 0) 1 8 Try.underlying39 hi3 hz0 hz1 hz2 rfl (by decide) _ _ _ rfl (RX2.out.own.alloc _) ⟨w8.heap.size, 0, none⟩ 1 1 [.int .i64 kk] rfl rfl (row_new w8 [.int .i64 kk] 3) (by intro u hu; simp at hu; subst hu; rfl) (by unfold maxLen; omega) (by omega) (Nat.zero_le _) ?_)
                intro v6 w6 hown hgrow _ hat
                obtain ⟨a6, c6, hv6⟩ := own_shape hown
                subst hv6
                obtain ⟨kq, hrx⟩ := RX2.out.app ((Touch.refl _ _).alloc _) hown hgrow (by
                  rcases hat with e | e
                  · exact .inl e
                  · exact .inr ⟨_, e, by simp⟩)
                have RX3 := hid hrx
                have n3 := cell_four3 kq
                have n4 := free_four (i := 3) kq
                clear hown hgrow hat hrx kq m3 RX2
                go_wp2
                go_roundg (gk - 1)
                case measure => omega
                case rel =>
                  refine ⟨kk + 1, (.slice a6 ((begR (lns d) (fs.take kk) j).length + 1) c6), by omega, by go_num, ?_, ?_⟩
                  · rw [HTH.out, decide_eq_true hA3, decide_eq_true hB, Bool.and_self, Bool.or_true]
                  · rw [HTB.out, if_pos hA]
                    exact RX3.out
              · skip
                go_wp2_with (at_builtin; refine wpList_append_own_at _ rfl _ _ 39 rfl 0 3 i0 (.int .i64 0) 1 8 Try.underlying39 hi3 hz0 hz1 hz2 rfl (by decide) _ _ _ rfl (RX2.out.own.alloc _) ⟨w8.heap.size, 0, none⟩ 1 1 [.int .i64 kk] rfl rfl (row_new w8 [.int .i64 kk] 3) (by intro u hu; simp at hu; subst hu; rfl) (by unfold maxLen; omega) (by omega) (Nat.zero_le _) ?_)
                intro v6 w6 hown hgrow _ hat
                obtain ⟨a6, c6, hv6⟩ := own_shape hown
                subst hv6
                obtain ⟨kq, hrx⟩ := RX2.out.app ((Touch.refl _ _).alloc _) hown hgrow (by
                  rcases hat with e | e
                  · exact .inl e
                  · exact .inr ⟨_, e, by simp⟩)
                have RX3 := hid hrx
                have n3 := cell_four3 kq
                have n4 := free_four (i := 3) kq
                clear hown hgrow hat hrx kq m3 RX2
                go_wp2
                go_roundg (gk - 1)
                case measure => omega
                case rel =>
                  refine ⟨kk + 1, (.slice a6 ((begR (lns d) (fs.take kk) j).length + 1) c6), by omega, by go_num, ?_, ?_⟩
                  · rw [HTH.out, decide_eq_false (show ¬ (j : Int) ≤ g0 by omega), Bool.and_false, Bool.or_false]
                  · rw [HTB.out, if_pos hA]
                    exact RX3.out
            · have hA2 : (f0 == (j : Int)) = false := by simpa using hA
              by_cases hC : f0 ≤ (j : Int)
              · by_cases hB : (j : Int) ≤ g0
                · skip
                  go_wp2
                  go_roundg (gk - 1)
                  case measure => omega
                  case rel =>
                    refine ⟨kk + 1, (.slice af (begR (lns d) (fs.take kk) j).length cf), by omega, by go_num, ?_, ?_⟩
                    · rw [HTH.out, decide_eq_true hC, decide_eq_true hB, Bool.and_self, Bool.or_true]
                    · rw [HTB.out, if_neg hA, List.append_nil]
                      exact RX2.out
                · skip
                  go_wp2
                  go_roundg (gk - 1)
                  case measure => omega
                  case rel =>
                    refine ⟨kk + 1, (.slice af (begR (lns d) (fs.take kk) j).length cf), by omega, by go_num, ?_, ?_⟩
                    · rw [HTH.out, decide_eq_false (show ¬ (j : Int) ≤ g0 by omega), Bool.and_false, Bool.or_false]
                    · rw [HTB.out, if_neg hA, List.append_nil]
                      exact RX2.out
              · skip
                go_wp2
                go_roundg (gk - 1)
                case measure => omega
                case rel =>
                  refine ⟨kk + 1, (.slice af (begR (lns d) (fs.take kk) j).length cf), by omega, by go_num, ?_, ?_⟩
                  · rw [HTH.out, decide_eq_false (show ¬ f0 ≤ (j : Int) by omega), Bool.false_and, Bool.or_false]
                  · rw [HTB.out, if_neg hA, List.append_nil]
                    exact RX2.out
        · obtain rfl : kk = fs.length := by omega
          rw [List.take_length] at RX1
          rw [List.take_length]
          have RO2 := hid (RO1.out.still RX1.out.touch)
          obtain ⟨m0, m1, m2, m3⟩ := cell_four RX1.out.blk
          have m4 := free_four (i := 3) RX1.out.blk
          have RS := hid (RO1.out.still (RX1.out.touch.setCell (p := ⟨q, 3, none⟩) (fun hp => absurd hp (Nat.not_lt.2 RX1.out.new.1)) (.slice none 0 0)))
          have BS := hid (block_set RX1.out.blk 3 (.slice none 0 0))
          have FN := hid (fnd_own RX1.out.own)
          obtain ⟨hh, hhh⟩ : ∃ hh, hh = hitR (lns d) fs j := ⟨_, rfl⟩
          have HHH := hid hhh
          rw [← hhh]
          clear hhh
          cases inv with
          | false =>
            cases hh with
            | true =>
              have HSEL := hid (show (hitR (lns d) fs j != false) = true from by rw [← HHH.out]; rfl)
              go_wp2_with (at_builtin; refine wpList_append_own_at _ rfl _ _ 44 rfl 0 56 j0 (.agg #[.int .i64 0, .int .i64 0, .int .i64 0, .slice none 0 0]) 4 48 Try.underlying44 hi56 hy0 hy1 hy2 rfl (by decide) _ _ _ rfl (RO2.out.own.alloc _) ⟨wr.heap.size, 0, none⟩ 1 1 [.int .i64 ((j : Int) + 1), .int .i64 y, .int .i64 z, .slice af (begR (lns d) fs j).length cf] rfl rfl (row_new wr [.int .i64 ((j : Int) + 1), .int .i64 y, .int .i64 z, .slice af (begR (lns d) fs j).length cf] 56) (by intro u hu; simp at hu; rcases hu with rfl | rfl | rfl | rfl <;> rfl) (by unfold maxLen; omega) (by omega) (Nat.zero_le _) ?_)
              intro v6 w6 hown hgrow _ hat
              have RN := hid (RO2.out.more hlt HSEL.out (by unfold BL; rw [if_neg (by decide)]; exact FN.out) ((Touch.refl _ _).alloc _) (by rw [← HY.out, ← HZ.out]; exact hown) hgrow (by
                rcases hat with e | e
                · exact .inl e
                · exact .inr ⟨_, e, by simp⟩))
              clear hown hgrow hat
              go_wp2
              go_roundg (G - 1)
              case measure => have := HG.out; omega
              case rel => exact ⟨j + 1, _, by have := HG.out; omega, by go_num, RN.out⟩
            | false =>
              have HSEL := hid (show ¬ (hitR (lns d) fs j != false) = true from by rw [← HHH.out]; decide)
              have RN := hid (RO2.out.skip hlt HSEL.out)
              go_wp2
              go_roundg (G - 1)
              case measure => have := HG.out; omega
              case rel => exact ⟨j + 1, _, by have := HG.out; omega, by go_num, RN.out⟩
          | true =>
            cases hh with
            | true =>
              have HSEL := hid (show ¬ (hitR (lns d) fs j != true) = true from by rw [← HHH.out]; decide)
              have RN := hid (RS.out.skip hlt HSEL.out)
              go_wp2
              go_roundg (G - 1)
              case measure => have := HG.out; omega
              case rel => exact ⟨j + 1, _, by have := HG.out; omega, by go_num, RN.out⟩
            | false =>
              have HSEL := hid (show (hitR (lns d) fs j != true) = true from by rw [← HHH.out]; rfl)
              go_upto_region 22 with fail
              have bs : (wr.setCell ⟨q, 3, none⟩ (.slice none 0 0)).heap[q]? = some (.cells #[.int .i64 ((j : Int) + 1), .int .i64 y, .int .i64 z, .slice none 0 0] 56 (0, 0)) := BS.out
              generalize wr.setCell ⟨q, 3, none⟩ (.slice none 0 0) = w8 at *
              clear m0 m1 m2 m3 m4
              obtain ⟨m0, m1, m2, m3⟩ := cell_four bs
              go_wp2_with (at_builtin; refine wpList_append_own_at _ rfl _ _ 44 rfl 0 56 j0 (.agg #[.int .i64 0, .int .i64 0, .int .i64 0, .slice none 0 0]) 4 48 Try.underlying44 hi56 hy0 hy1 hy2 rfl (by decide) _ _ _ rfl (RS.out.own.alloc _) ⟨w8.heap.size, 0, none⟩ 1 1 [.int .i64 ((j : Int) + 1), .int .i64 y, .int .i64 z, .slice none 0 0] rfl rfl (row_new w8 [.int .i64 ((j : Int) + 1), .int .i64 y, .int .i64 z, .slice none 0 0] 56) (by intro u hu; simp at hu; rcases hu with rfl | rfl | rfl | rfl <;> rfl) (by unfold maxLen; omega) (by omega) (Nat.zero_le _) ?_)
              intro v6 w6 hown hgrow _ hat
              have RN := hid (RS.out.more hlt HSEL.out (by unfold BL; rw [if_pos rfl]; exact fnd_nil _) ((Touch.refl _ _).alloc _) (by rw [← HY.out, ← HZ.out]; exact hown) hgrow (by
                rcases hat with e | e
                · exact .inl e
                · exact .inr ⟨_, e, by simp⟩))
              clear hown hgrow hat
              go_wp2
              go_roundg (G - 1)
              case measure => have := HG.out; omega
              case rel => exact ⟨j + 1, _, by have := HG.out; omega, by go_num, RN.out⟩
    · obtain rfl : j = (lns d).length := by omega
      go_wp2
      go_ret
      obtain ⟨a, c, he, hlg⟩ := own_lg2 RO1.out.own RO1.out.fnd
      exact ⟨a, c, congrArg Ending.returned he, hlg, T1.out.trans RO1.out.touch (fun _ _ e => e)⟩
end Go.Proofs.Ytaidcapflcobiaa

/- same: two lists of lines that tell the same are the same; condition: they fit into memory. -/
namespace Go.Proofs.Ytaidcapflcobiaa
open Go.RowKit

set_option maxRecDepth 100000 in
set_option maxHeartbeats 8000000 in
theorem same_any (a1 a2 : Option Addr) (c1 c2 : Nat) (l : List R2) (B : Nat → List Int) (s : List (Fin l.length)) (w : World) (h1 : Lg w a1 l B s) (h2 : Lg w a2 l B s) (hb : s.length ≤ 2097152) (hB : ∀ i, (B i).length ≤ 2097152) :
    Calls Try.prog 14 #[.slice a1 s.length c1, .slice a2 s.length c2] w fun e w' => e = .returned (.bool true) ∧ Touch (fun _ => False) w w' := by
  have H1 := hid h1
  have H2 := hid h2
  have HB := hid hB
  clear h1 h2 hB
  go_enter Try.func14, Try.ntmps14
  go_wp2_with fail
  go_loopg [5] s.length (fun gk i wr => ∃ j : Nat, j + gk = s.length ∧ i = .int .i64 (j : Nat) ∧ Touch (fun _ => False) w wr)
  case atStart => exact ⟨0, by omega, rfl, Touch.refl _ _⟩
  case round =>
    obtain ⟨j, hj, rfl, ht⟩ := hrel
    have TR := hid ht
    clear ht
    by_cases hlt : j < s.length
    · obtain ⟨G, hG⟩ : ∃ G, G = gk := ⟨_, rfl⟩
      have HG := hid hG
      clear hG
      obtain ⟨b, ak, ck, ha, hbl, d0, d1, d2, d3, hi1⟩ := (H1.out.new TR.out) j hlt
      obtain ⟨b', ak', ck', ha', hbl', e0, e1, e2, e3, hi2⟩ := (H2.out.new TR.out) j hlt
      subst ha ha'
      have hq := HB.out s[j].1
      have I1 := hid hi1
      have I2 := hid hi2
      obtain ⟨e, he⟩ : ∃ e, e = B s[j].1 := ⟨_, rfl⟩
      rw [← he] at d3 e3 hq I1 I2
      obtain ⟨n, hn⟩ : ∃ n, n = ((s[j].1 : Nat) : Int) := ⟨_, rfl⟩
      rw [← hn] at d0 e0
      obtain ⟨y, hy⟩ : ∃ y, y = (l[s[j].1]).1 := ⟨_, rfl⟩
      rw [← hy] at d1 e1
      obtain ⟨z, hz⟩ : ∃ z, z = (l[s[j].1]).2 := ⟨_, rfl⟩
      rw [← hz] at d2 e2
      clear he hn hy hz hi1 hi2
      have hjI : (j : Int) < (s.length : Int) := by omega
      have E3 := hid e3
      have D3 := hid d3
      have HBL := hid (show b < wr.heap.size ∧ b' < wr.heap.size from ⟨hbl, hbl'⟩)
      clear hbl hbl'
      go_wp2_with fail
      go_quiet (fail)
      go_wp2_with fail
      obtain ⟨wo, hwo⟩ : ∃ wo, wo = wr := ⟨wr, rfl⟩
      subst hwo
      clear d0 d1 d2 d3 e0 e1 e2 e3
      go_loopg [6] e.length (fun gk2 k wq => ∃ kk : Nat, kk + gk2 = e.length ∧ k = .int .i64 (kk : Nat) ∧ Touch (fun _ => False) wo wq)
      case atStart => exact ⟨0, by omega, rfl, (Touch.refl _ _).drewN _⟩
      case round =>
        obtain ⟨kk, hk, rfl, ht⟩ := hrel
        have TQ := hid ht
        have d3 := (ht.cell (p := ⟨b, _, none⟩) HBL.out.1 id).trans D3.out
        have e3 := (ht.cell (p := ⟨b', _, none⟩) HBL.out.2 id).trans E3.out
        clear ht
        by_cases hlk : kk < e.length
        · obtain ⟨b1, hb1, _, x1⟩ := (I1.out.new TQ.out) kk hlk
          obtain ⟨b2, hb2, _, x2⟩ := (I2.out.new TQ.out) kk hlk
          subst hb1 hb2
          obtain ⟨x, hx⟩ : ∃ x, x = e[kk] := ⟨_, rfl⟩
          rw [← hx] at x1 x2
          have hkI : (kk : Int) < (e.length : Int) := by omega
          clear hx
          go_wp2_with fail
          go_quiet (fail)
          go_wp2
          go_roundg (gk - 1)
          case measure => omega
          case rel => exact ⟨kk + 1, by omega, by go_num, TQ.out.drewN _⟩
        · obtain rfl : kk = e.length := by omega
          go_wp2
          go_roundg (G - 1)
          case measure => have := HG.out; omega
          case rel => exact ⟨j + 1, by have := HG.out; omega, by go_num, TR.out.trans TQ.out (fun _ _ e => e)⟩
    · obtain rfl : j = s.length := by omega
      go_wp2
      go_ret
      exact ⟨rfl, TR.out⟩
end Go.Proofs.Ytaidcapflcobiaa
