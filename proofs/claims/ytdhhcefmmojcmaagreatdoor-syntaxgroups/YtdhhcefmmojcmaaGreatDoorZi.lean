/- SyntaxGroups' walk of a tree; conditions: as told. -/
import Derived.Test.YtdhhcefmmojcmaaGreatDoorZg
import Derived.Test.YtdhhcefmmojcmaaGreatDoorGp
namespace Go.Proofs.YtdhhcefmmojcmaaGreatDoor
open Go.RowKit
open Go.Lib

/-- Groups that are numbered from a number on, by their names. -/
def Nok (ns : List ByteArray) (n : Nat) (g : List (Int × ByteArray)) : Prop := ∀ i p, g[i]? = some p → p.1 = ((n + i + 1 : Nat) : Int) ∧ ns[n + i + 1]? = some p.2
theorem Nok.left {ns : List ByteArray} {n : Nat} {a b : List (Int × ByteArray)} (h : Nok ns n (a ++ b)) : Nok ns n a := fun i p e => h i p (by rw [List.getElem?_append_left (List.getElem?_eq_some_iff.1 e).1]; exact e)
theorem Nok.right {ns : List ByteArray} {n : Nat} {a b : List (Int × ByteArray)} (h : Nok ns n (a ++ b)) : Nok ns (n + a.length) b := fun i p e => by
  have := h (a.length + i) p (by rw [List.getElem?_append_right (by omega), Nat.add_sub_cancel_left]; exact e)
  rw [← Nat.add_assoc] at this
  exact this
theorem Nok.le {ns : List ByteArray} {n : Nat} {g : List (Int × ByteArray)} (h : Nok ns n g) (hn : n ≤ ns.length) : n + g.length ≤ ns.length := by
  by_cases h0 : g.length = 0
  · omega
  · have := h (g.length - 1) _ (List.getElem?_eq_getElem (by omega))
    have := (List.getElem?_eq_some_iff.1 this.2).1
    omega
theorem nok_numd (pre : List ByteArray) : ∀ (nw : List ByteArray) (n : Nat), pre.length = n + 1 → Nok (pre ++ nw) n (numd (n + 1) nw) := by
  intro nw n hp i p e
  have key : ∀ (nw : List ByteArray) (m i : Nat) (p : Int × ByteArray), (numd m nw)[i]? = some p → p.1 = ((m + i : Nat) : Int) ∧ nw[i]? = some p.2 := by
    intro nw
    induction nw with
    | nil => intro m i p e; simp [numd] at e
    | cons a l ih =>
      intro m i p e
      rw [numd] at e
      match i, e with
      | 0, e => cases e; exact ⟨rfl, rfl⟩
      | i + 1, e =>
        have := ih (m + 1) i p e
        exact ⟨by rw [this.1]; congr 1; omega, this.2⟩
  have := key nw (n + 1) i p e
  refine ⟨by rw [this.1]; congr 1; omega, ?_⟩
  rw [List.getElem?_append_right (by omega), show n + i + 1 - pre.length = i by omega]
  exact this.2
theorem gsL_take (l : List Nd) (i : Nat) (h : i < l.length) : gsL (l.take (i + 1)) = gsL (l.take i) ++ gsN l[i] := by
  rw [List.take_succ_eq_append_getElem h, gsL_app, gsL, gsL, List.append_nil]
theorem gsL_drop (l : List Nd) (i : Nat) : gsL l = gsL (l.take i) ++ gsL (l.drop i) := by
  rw [← gsL_app, List.take_append_drop]
/-- The two cells that the walk counts in. -/
structure Cnt (w : World) (cb ob : Nat) (n : Nat) : Prop where
  count : w.heap[cb]? = some (.cells #[.int .i64 (n : Nat)] 3 (0, 0))
  ok : w.heap[ob]? = some (.cells #[.bool true] 4 (0, 0))
theorem Cnt.still {w w' : World} {cb ob n : Nat} (h : Cnt w cb ob n) (t : Touch (fun _ => False) w w') : Cnt w' cb ob n := ⟨(t.block _ (lt_of_block h.count) id).trans h.count, (t.block _ (lt_of_block h.ok) id).trans h.ok⟩
theorem nt_cnt {w : World} {cb ob n : Nat} (h : Cnt w cb ob n) (g : Nat) (hg : g = cb ∨ g = ob) : NT w g := fun cs t fr e => by
  rcases hg with rfl | rfl
  · rw [h.count] at e; cases e; decide
  · rw [h.ok] at e; cases e; decide
theorem SL.at {w : World} {an : Option Addr} {n cn : Nat} {ns : List ByteArray} (h : SL w (.slice an n cn) ns) {i : Nat} {s : ByteArray} (hi : ns[i]? = some s) : ∃ g, an = some ⟨g, 0, none⟩ ∧ g < w.heap.size ∧ w.cell? ⟨g, i, none⟩ = some (.string s) := by
  rcases h.2 with ⟨_, k⟩ | ⟨g, cap, cur, hv, hg, hh, rest⟩
  · have := (List.getElem?_eq_some_iff.1 hi).1
    omega
  · have ha : an = some ⟨g, 0, none⟩ := by cases hv; rfl
    refine ⟨g, ha, lt_of_block hh, ?_⟩
    have := h.cells (g := g) (by rw [ha]; rfl) i (.string s) (by rw [List.getElem?_map, hi]; rfl)
    rwa [add_gK] at this
theorem sl_cnt {w : World} {cb ob n : Nat} (h : Cnt w cb ob n) {v : Value} {ns : List ByteArray} (hs : SL w v ns) (g : Nat) (e : v.ownBlock = some g) : ¬ (g = cb ∨ g = ob) := fun hg => by
  obtain ⟨cs, fr, hh⟩ := own_type hs g e
  rcases hg with rfl | rfl
  · rw [h.count] at hh; cases hh
  · rw [h.ok] at hh; cases hh
theorem cl_cnt {w : World} {cb ob n : Nat} (h : Cnt w cb ob n) {v : Value} {cs : List Cel} (hs : CL w v cs) (g : Nat) (e : v.ownBlock = some g) : ¬ (g = cb ∨ g = ob) := fun hg => by
  obtain ⟨cs, fr, hh⟩ := own_type hs g e
  rcases hg with rfl | rfl
  · rw [h.count] at hh; cases hh
  · rw [h.ok] at hh; cases hh
set_option maxRecDepth 100000 in
set_option maxHeartbeats 8000000 in
theorem walk_any : ∀ (N : Nat) (x : Nd), SizeOf.sizeOf x ≤ N → ∀ (c : Cel) (B : Nat → Prop) (w : World) (an : Option Addr) (cn : Nat) (ns : List ByteArray) (cb ob n : Nat), TN w B c x → SL w (.slice an ns.length cn) ns → Cnt w cb ob n → Nok ns n (gsN x) → ns.length ≤ 4194304 → n ≤ ns.length →
    Calls Tryz.prog 18 #[.agg c.arr, .slice an ns.length cn, .pointer (some ⟨cb, 0, none⟩), .pointer (some ⟨ob, 0, none⟩)] w fun e w' => e = .returned (.tuple #[]) ∧ Cnt w' cb ob (n + (gsN x).length) ∧ Touch (fun g => g = cb ∨ g = ob) w w'
  | 0, .mk _ _ _ _ _ _ _ _ _, h => by simp at h
  | N + 1, .mk k mi ma ca fo la set nm kids, hN => by
    intro c B w an cn ns cb ob n ht hs hc hg hl hn
    have IH := hid (fun y (hy : y ∈ kids) => walk_any N y (by
      have h1 := List.sizeOf_lt_of_mem hy
      simp only [Nd.mk.sizeOf_spec] at hN
      omega))
    obtain ⟨⟨e1, e2, e3, e4, e5, e6, e7⟩, _, _, _, cs, hcl, hlen, hkid⟩ := ht.inv
    obtain ⟨ck, sa, sn, sc, fo2, mi2, ma2, la2, ca2, nm2, ka, kn, kc⟩ := c
    simp only at e1 e2 e3 e4 e5 e6 e7 hcl
    subst e1 e2 e3 e4 e5 e6 e7
    unfold Cel.arr
    have TA := (Touch.refl (fun _ => False) w).alloc (.cells #[.int .i64 ck, .slice sa sn sc, .bool fo2, .int .i64 mi2, .int .i64 ma2, .bool la2, .int .i64 ca2, .string nm2, .slice ka kn kc] 28)
    have BN := hid (block_new w #[.int .i64 ck, .slice sa sn sc, .bool fo2, .int .i64 mi2, .int .i64 ma2, .bool la2, .int .i64 ca2, .string nm2, .slice ka kn kc] 28)
    have HC := hid (hc.still TA)
    have HS := hid (rowKept hs TA (fun _ _ e => e))
    have HCL := hid (rowKept hcl TA (fun _ _ e => e))
    have HK := hid (fun i c' x' e1 e2 => (hkid i c' x' e1 e2).new TA)
    have HLT := hid (show cb < w.heap.size ∧ ob < w.heap.size ∧ cb ≠ ob from ⟨lt_of_block hc.count, lt_of_block hc.ok, fun e => by have h1 := hc.count; rw [e, hc.ok] at h1; cases h1⟩)
    have T1 := hid TA
    have HG := hid hg
    have HLEN := hid hlen
    have HL := hid hl
    have HN := hid hn
    clear hc hs hcl hkid TA ht hg hlen hN hl hn
    go_enter Tryz.func18, Tryz.ntmps18
    go_upto_region 1 with fail
    generalize w.alloc (.cells #[.int .i64 ck, .slice sa sn sc, .bool fo2, .int .i64 mi2, .int .i64 ma2, .bool la2, .int .i64 ca2, .string nm2, .slice ka kn kc] 28) = w1 at *
    obtain ⟨nb, hnb⟩ : ∃ nb, nb = w.heap.size := ⟨_, rfl⟩
    have HNB := hid (show cb ≠ nb ∧ ob ≠ nb ∧ w.heap.size ≤ nb from by have := HLT.out; omega)
    rw [← hnb] at BN ⊢
    clear hnb
    have k0 := cell_of BN.out 0 _ rfl
    go_upto_if 11 with fail
    obtain ⟨m, hm⟩ : ∃ m, m = n + (if ck = 11 then [(ca2, nm2)] else ([] : List (Int × ByteArray))).length := ⟨_, rfl⟩
    have HM := hid hm
    clear k0
    go_cut [] (fun wd => Cnt wd cb ob m ∧ Touch (fun g => g = cb ∨ g = ob) w1 wd)
    case first =>
      by_cases hk : ck = 11
      · subst hk
        have HP := hid (HG.out 0 (ca2, nm2) (by rfl))
        have HCA := hid (show ca2 = ((n + 1 : Nat) : Int) from HP.out.1)
        have HNM := hid (show ns[n + 1]? = some nm2 from HP.out.2)
        obtain ⟨g, han, hgl, hgc⟩ := SL.at (show SL w1 (.slice an ns.length cn) ns from HS.out) HNM.out
        have hlt := (List.getElem?_eq_some_iff.1 HNM.out).1
        obtain ⟨y, hy⟩ : ∃ y : Nat, y = n + 1 := ⟨_, rfl⟩
        have hc0 := cell_of HC.out.count 0 _ rfl
        have T2 := hid (Touch.setCell (S := fun g => g = cb) (Touch.refl _ w1) (p := ⟨cb, 0, none⟩) (fun _ => rfl) (.int .i64 (y : Nat)))
        have C2 := hid (block_set HC.out.count 0 (.int .i64 (y : Nat)))
        have hwr : IntKind.i64.wrap ((n : Int) + 1) = (y : Int) := by
          have h1 := HL.out
          have h2 := HN.out
          rw [show (n : Int) + 1 = (y : Int) by omega, IntKind.wrap_i64]
          omega
        have hf0 : w1.frozen? ⟨cb, 0, none⟩ = false := by simp [World.frozen?, HC.out.count]
        have HY := hid hy
        clear hy
        go_upto_region 3 with fail
        generalize w1.setCell ⟨cb, 0, none⟩ (.int .i64 (y : Nat)) = w2 at *
        clear hwr hf0 hc0
        obtain rfl : ca2 = (y : Int) := by rw [HCA.out, HY.out]
        have c0 : w2.cell? ⟨cb, 0, none⟩ = some (.int .i64 (y : Nat)) := cell_of C2.out 0 _ rfl
        have o0 : w2.cell? ⟨ob, 0, none⟩ = some (.bool true) := ((T2.out.cell (p := ⟨ob, 0, none⟩) (lt_of_block HC.out.ok) (fun e => HLT.out.2.2 e.symm))).trans (cell_of HC.out.ok 0 _ rfl)
        have nb0 := (T2.out.block nb (lt_of_block BN.out) (fun e => by have := HNB.out; omega)).trans BN.out
        have k6 : w2.cell? ⟨nb, 6, none⟩ = some (.int .i64 (y : Nat)) := cell_of nb0 6 _ rfl
        have k7 : w2.cell? ⟨nb, 7, none⟩ = some (.string nm2) := cell_of nb0 7 _ rfl
        have gne : ¬ g = cb := fun e => by
          subst e
          exact sl_cnt HC.out (v := .slice an ns.length cn) HS.out g (by rw [han]; rfl) (.inl rfl)
        have g0 : w2.cell? ⟨g, y, none⟩ = some (.string nm2) := by
          rw [HY.out]
          exact (T2.out.cell (p := ⟨g, n + 1, none⟩) hgl gne).trans hgc
        have fo : w2.frozen? ⟨ob, 0, none⟩ = false := by
          have := (T2.out.block ob (lt_of_block HC.out.ok) (fun e => HLT.out.2.2 e.symm)).trans HC.out.ok
          simp [World.frozen?, this]
        have hyl : (y : Int) < (ns.length : Int) := by have := HY.out; omega
        clear nb0 hlt hgc gne
        go_region
        have C3 : w2.heap[cb]? = some (.cells #[.int .i64 (y : Nat)] 3 (0, 0)) := C2.out
        have O2 : w2.heap[ob]? = some (.cells #[.bool true] 4 (0, 0)) := (T2.out.block ob (lt_of_block HC.out.ok) (fun e => HLT.out.2.2 e.symm)).trans HC.out.ok
        have T3 := Touch.setCell (S := fun g => g = ob) (Touch.refl _ w2) (p := ⟨ob, 0, none⟩) (fun _ => rfl) (.bool true)
        have O3 := block_set O2 0 (.bool true)
        have e : m = y := by rw [HM.out, HY.out]; rfl
        have R3 := hid (show Cnt (w2.setCell ⟨ob, 0, none⟩ (.bool true)) cb ob m from by
          rw [e]
          exact ⟨(T3.block cb (lt_of_block C3) HLT.out.2.2).trans C3, O3⟩)
        have T4 := hid (Touch.trans (S := fun g => g = cb ∨ g = ob) (T2.out.mono (fun _ _ e => .inl e)) T3 (fun _ _ e => .inr e))
        clear e C3 O2 O3 T3 han c0 o0 k6 k7 g0 fo hyl
        go_wp2
        go_meet
        case rel => exact ⟨R3.out.still ((Touch.refl _ _).drew), T4.out.drew⟩
      · have hkB : (ck == 11) = false := by simpa using hk
        have e : m = n := by rw [HM.out, if_neg hk]; simp
        have C0 := hid (show Cnt w1 cb ob m from by rw [e]; exact HC.out)
        go_wp2
        go_meet
        case rel => exact ⟨C0.out, Touch.refl _ _⟩
    obtain ⟨hc2, t2⟩ := hcut
    obtain ⟨K, hK⟩ : ∃ K, K = kids.length := ⟨_, rfl⟩
    obtain rfl : kn = K := by
      obtain ⟨_, _, hv⟩ := own_shape HCL.out
      cases hv
      rw [hK]
      exact HLEN.out
    have HKL := hid hK
    have HGK := hid (show Nok ns m (gsL kids) from by rw [HM.out]; exact HG.out.right)
    have T5 := hid (Touch.trans (S := fun g => g = cb ∨ g = ob) (T1.out.mono (fun _ _ e => e.elim)) t2 (fun i hi e => e))
    have T6 := hid t2
    have HCT := hid hc2
    clear hc2 t2 hK hm
    have HCN := hid (show cs.length = kn from by rw [HKL.out]; exact HLEN.out)
    have hkb : (kn : Int) ≤ 9223372036854775807 := by
      rcases HCL.out.2 with ⟨_, h0⟩ | ⟨_, cap, cur, _, _, _, h1, h2, _⟩
      · have := HCN.out; omega
      · have := HCN.out; unfold maxLen at h2; omega
    go_wp2_with fail
    go_loopg [8] kn (fun gk v8 wq => ∃ i : Nat, i + gk = kn ∧ v8 = .int .i64 (i : Nat) ∧ Hid (Cnt wq cb ob (m + (gsL (kids.take i)).length)) ∧ Hid (Touch (fun g => g = cb ∨ g = ob) w1 wq))
    case atStart => exact ⟨0, Nat.zero_add _, rfl, hid (by simpa [gsL] using HCT.out), T6⟩
    case round =>
      clear HCT
      obtain ⟨i, hgk, rfl, HCT, HT⟩ := hrel
      have b8 : wr.cell? ⟨nb, 8, none⟩ = some (.slice ka kn kc) := cell_of ((HT.out.block nb (lt_of_block BN.out) (fun e => by have := HNB.out; omega)).trans BN.out) 8 _ rfl
      by_cases hlt : i < kn
      · have hltI : (i : Int) < (kn : Int) := by omega
        obtain ⟨g, hka, hgl, hx9, hat⟩ := CL.at (show CL w1 (.slice ka kn kc) cs from HCL.out) (by have := HCN.out; omega)
        subst hka
        clear hx9
        have hil : i < cs.length := by have := HCN.out; omega
        obtain ⟨⟨fk, fa, fn, fc, ff, fi, fx, fl, fp, fm, ga, gn, gc⟩, hci⟩ : ∃ c, c = cs[i] := ⟨_, rfl⟩
        have hik : i < kids.length := by have := HKL.out; omega
        have HX := hid (HK.out i _ _ (by rw [List.getElem?_eq_getElem hil, ← hci]) (List.getElem?_eq_getElem hik))
        have kk : ∀ j u, (Cel.list ⟨fk, fa, fn, fc, ff, fi, fx, fl, fp, fm, ga, gn, gc⟩)[j]? = some u → wr.cell? ⟨g, i * 9 + j, none⟩ = some u := fun j u hj => by
          exact (HT.out.cell (p := ⟨g, i * 9 + j, none⟩) hgl (cl_cnt HC.out (show CL w1 (.slice (some ⟨g, 0, none⟩) kn kc) cs from HCL.out) g rfl)).trans (hat i hil j u (by rw [← hci]; exact hj))
        have d0 : wr.cell? ⟨g, i * 9, none⟩ = some (.int .i64 fk) := kk 0 _ rfl
        have d1 : wr.cell? ⟨g, i * 9 + 1, none⟩ = some (.slice fa fn fc) := kk 1 _ rfl
        have d2 : wr.cell? ⟨g, i * 9 + 2, none⟩ = some (.bool ff) := kk 2 _ rfl
        have d3 : wr.cell? ⟨g, i * 9 + 3, none⟩ = some (.int .i64 fi) := kk 3 _ rfl
        have d4 : wr.cell? ⟨g, i * 9 + 4, none⟩ = some (.int .i64 fx) := kk 4 _ rfl
        have d5 : wr.cell? ⟨g, i * 9 + 5, none⟩ = some (.bool fl) := kk 5 _ rfl
        have d6 : wr.cell? ⟨g, i * 9 + 6, none⟩ = some (.int .i64 fp) := kk 6 _ rfl
        have d7 : wr.cell? ⟨g, i * 9 + 7, none⟩ = some (.string fm) := kk 7 _ rfl
        have d8 : wr.cell? ⟨g, i * 9 + 8, none⟩ = some (.slice ga gn gc) := kk 8 _ rfl
        clear kk hci hat hgl hil
        have HE := hid (gsL_take kids i hik)
        have HNK := hid (show Nok ns (m + (gsL (kids.take i)).length) (gsN kids[i]) from by
          have h := HGK.out
          rw [gsL_drop kids (i + 1), HE.out, List.append_assoc] at h
          exact h.right.left)
        have HLE := hid (show m + (gsL (kids.take i)).length ≤ ns.length from by
          have h := HGK.out
          rw [gsL_drop kids i] at h
          exact h.left.le (by
            have h1 := HG.out.left.le HN.out
            rw [HM.out]
            exact h1))
        have KW := hid (IH.out _ (List.getElem_mem hik) _ _ wr an cn ns cb ob _ (HX.out.kept HT.out (fun g _ s => nt_cnt HC.out g s)) (rowKept HS.out HT.out (fun g e => sl_cnt HC.out HS.out g e)) HCT.out HNK.out HL.out HLE.out)
        unfold Cel.arr at KW
        obtain ⟨L, hL⟩ : ∃ L, L = m + (gsL (kids.take i)).length := ⟨_, rfl⟩
        have HLL := hid (show L + (gsN kids[i]).length = m + (gsL (kids.take (i + 1))).length from by rw [HE.out, List.length_append, hL]; omega)
        rw [← hL] at KW
        clear hL HNK HLE HE HCT
        go_wp2_with fail
        refine KW.out.mono ?_
        rintro e w5 ⟨rfl, hc5, t5⟩
        rw [HLL.out] at hc5
        have R5 := hid hc5
        have T7 := hid (HT.out.trans t5 (fun _ _ e => e))
        clear hc5 t5 KW d0 d1 d2 d3 d4 d5 d6 d7 d8 b8
        go_wp2
        go_roundg (gk - 1)
        case measure => omega
        case rel => exact ⟨i + 1, by omega, by simp, R5, T7⟩
      · have hltI : ¬ (i : Int) < (kn : Int) := by omega
        obtain rfl : i = kn := by omega
        have RC := hid (show Cnt wr cb ob (n + (gsN (.mk ck mi2 ma2 ca2 fo2 la2 set nm2 kids)).length) from by
          have h := HCT.out
          rw [List.take_of_length_le (by have := HKL.out; omega), HM.out] at h
          rw [gsN, List.length_append, ← Nat.add_assoc]
          exact h)
        have RT := hid (Touch.trans (S := fun g => g = cb ∨ g = ob) (T1.out.mono (fun _ _ e => e.elim)) HT.out (fun _ _ e => e))
        go_wp2
        go_end0
        exact ⟨rfl, RC.out, RT.out⟩
end Go.Proofs.YtdhhcefmmojcmaaGreatDoor
