/- A parser of patterns: an atom with the quantifier behind it, and nodes put together; conditions: as told. -/
import Derived.Test.YtdhhcefmmojcmaaGreatDoorXi
import Derived.Laws.Rows
namespace Go.Proofs.YtdhhcefmmojcmaaGreatDoor
open Go.RowKit
open Go.Lib

/-- What a part of the parser answers that makes a tree. -/
def NodP (b : Nat) (X : Px) (vn : Value) (op : Nat) (B : Nat → Prop) (w : World) : PR (Nd × St) → Ending → World → Prop
  | .error (c, j), e, w' => e = thrown c (lkR X.P j) ∧ Touch (fun g => g = b ∨ vn.ownBlock = some g) w w'
  | .ok (x, st), e, w' => ∃ c vn', e = .returned (.agg (Cel.arr c)) ∧ TN w' (fun g => B g ∨ (w.heap.size ≤ g ∧ g < w'.heap.size)) c x ∧ PS w' b X st.k st.f vn' st.ns op ∧ (vn'.ownBlock = vn.ownBlock ∨ ∃ g, vn'.ownBlock = some g ∧ w.heap.size ≤ g) ∧ Touch (fun g => g = b ∨ vn.ownBlock = some g) w w'
theorem cl_one (w : World) (c : Cel) : CL (w.alloc (.cells c.arr 28)) (.slice (some ⟨w.heap.size, 0, none⟩) 1 1) [c] := by
  refine ⟨rfl, .inr ⟨w.heap.size, 1, c.arr, rfl, Nat.zero_le _, block_new w _ _, Nat.le_refl _, by unfold maxLen; omega, rfl, rfl⟩⟩
theorem TN.one {w : World} {B : Nat → Prop} {c : Cel} {x : Nd} (h : TN w B c x) (kind a z cap : Int) (fold lazy : Bool) (name : ByteArray) (v : Addr) (hk : CL w (.slice (some v) 1 1) [c]) (hb : ∀ g, (Value.slice (some v) 1 1).ownBlock = some g → B g) :
    TN w B ⟨kind, none, 0, 0, fold, a, z, lazy, cap, name, some v, 1, 1⟩ (.mk kind a z cap fold lazy [] name [x]) := by
  refine TN.mk ⟨kind, none, 0, 0, fold, a, z, lazy, cap, name, some v, 1, 1⟩ [] [x] [c] (sr_nil w) (fun g e => by cases e) hk hb rfl (fun i c' x' e1 e2 => ?_)
  match i with
  | 0 => cases e1; cases e2; exact h
  | i + 1 => cases e1
set_option maxRecDepth 100000 in
set_option maxHeartbeats 8000000 in
theorem repeat_any (b : Nat) (X : Px) (k : Nat) (f : Fl) (vn : Value) (ns : List ByteArray) (op : Nat) (c : Cel) (x : Nd) (B : Nat → Prop) (w : World) (h : PS w b X k f vn ns op) (hX : X.Good) (hk : k ≤ X.R.length) (ht : TN w B c x) (hB : ∀ g, B g → g < w.heap.size) :
    Calls Tryz.prog 96 #[.pointer (some ⟨b, 0, none⟩), .agg c.arr] w fun e w' => NodP b X vn op B w (repF X.R x ⟨k, f, ns⟩) e w' := by
  obtain ⟨ck, sa, sn, sc, fo, mi, ma, la, ca, nm, ka, kn, kc⟩ := c
  change Calls Tryz.prog 96 #[.pointer (some ⟨b, 0, none⟩), .agg #[.int .i64 ck, .slice sa sn sc, .bool fo, .int .i64 mi, .int .i64 ma, .bool la, .int .i64 ca, .string nm, .slice ka kn kc]] _ _
  obtain ⟨A, hA⟩ : ∃ A, A = repF X.R x ⟨k, f, ns⟩ := ⟨_, rfl⟩
  have HA := hid hA.symm
  rw [← hA]
  unfold repF at HA
  simp only at HA
  clear hA
  have T0 := hid ((Touch.refl (fun _ => False) w).alloc (.cells #[.int .i64 ck, .slice sa sn sc, .bool fo, .int .i64 mi, .int .i64 ma, .bool la, .int .i64 ca, .string nm, .slice ka kn kc] 28))
  have B0 := hid (block_new w #[.int .i64 ck, .slice sa sn sc, .bool fo, .int .i64 mi, .int .i64 ma, .bool la, .int .i64 ca, .string nm, .slice ka kn kc] 28)
  have S0 : (w.alloc (.cells #[.int .i64 ck, .slice sa sn sc, .bool fo, .int .i64 mi, .int .i64 ma, .bool la, .int .i64 ca, .string nm, .slice ka kn kc] 28)).heap.size = w.heap.size + 1 := by simp
  have T1 := hid ((Touch.refl (fun _ => False) (w.alloc (.cells #[.int .i64 ck, .slice sa sn sc, .bool fo, .int .i64 mi, .int .i64 ma, .bool la, .int .i64 ca, .string nm, .slice ka kn kc] 28))).alloc (.cells #[.int .i64 0, .slice none 0 0, .bool false, .int .i64 0, .int .i64 0, .bool false, .int .i64 0, .string ⟨#[]⟩, .slice none 0 0] 28))
  have Q1 := hid (block_new (w.alloc (.cells #[.int .i64 ck, .slice sa sn sc, .bool fo, .int .i64 mi, .int .i64 ma, .bool la, .int .i64 ca, .string nm, .slice ka kn kc] 28)) #[.int .i64 0, .slice none 0 0, .bool false, .int .i64 0, .int .i64 0, .bool false, .int .i64 0, .string ⟨#[]⟩, .slice none 0 0] 28)
  have B1 := hid ((T1.out.block w.heap.size (by rw [S0]; omega) id).trans B0.out)
  have T2 := hid (T0.out.trans T1.out (fun _ _ e => e))
  have HP := hid (h.new T2.out)
  have HT := hid (ht.new T2.out)
  have KQ := hid (fun w' hp => quant_any b X k f vn ns op w' hp hX hk)
  have hlt := h.lt
  rw [S0] at Q1
  clear h ht hX hk T0 T1 B0 S0
  generalize quantF X.R f.u k = Q at *
  go_enter Tryz.func96, Tryz.ntmps96
  go_upto_region 1 with fail
  have HSZ := hid (show ((w.alloc (.cells #[.int .i64 ck, .slice sa sn sc, .bool fo, .int .i64 mi, .int .i64 ma, .bool la, .int .i64 ca, .string nm, .slice ka kn kc] 28)).alloc (.cells #[.int .i64 0, .slice none 0 0, .bool false, .int .i64 0, .int .i64 0, .bool false, .int .i64 0, .string ⟨#[]⟩, .slice none 0 0] 28)).heap.size = w.heap.size + 2 by simp)
  generalize (w.alloc (.cells #[.int .i64 ck, .slice sa sn sc, .bool fo, .int .i64 mi, .int .i64 ma, .bool la, .int .i64 ca, .string nm, .slice ka kn kc] 28)).alloc (.cells #[.int .i64 0, .slice none 0 0, .bool false, .int .i64 0, .int .i64 0, .bool false, .int .i64 0, .string ⟨#[]⟩, .slice none 0 0] 28) = w1 at *
  obtain ⟨qb, hqb⟩ : ∃ q, q = w.heap.size := ⟨_, rfl⟩
  obtain ⟨qr, hqr⟩ : ∃ q, q = w.heap.size + 1 := ⟨_, rfl⟩
  have HQ := hid (show w.heap.size ≤ qb ∧ qb < qr ∧ b < qb ∧ qr < w1.heap.size from ⟨by omega, by omega, by omega, by rw [HSZ.out]; omega⟩)
  rw [← hqr] at Q1
  rw [← hqb] at B1
  have e1 : qb + 1 = qr := by omega
  rw [← hqb]
  simp only [e1]
  clear hqb hqr e1 hlt HSZ
  match Q with
  | .error (ec, ej) =>
    have KE := hid (KQ.out _ HP.out)
    unfold QntP thrown at KE
    go_wp2_with fail
    refine KE.out.mono ?_
    rintro e w2 ⟨rfl, tt⟩
    have T3 := hid ((T2.out.mono (S' := fun g => g = b) (fun _ _ e => e.elim)).trans tt (fun _ _ e => e))
    clear tt KQ KE
    go_wp2
    refine ⟨rfl, ?_⟩
    rw [← HA.out]
    exact ⟨rfl, T3.out.mono (fun _ _ e => .inl e)⟩
  | .ok none =>
    go_wp2_with fail
    refine (KQ.out _ HP.out).mono ?_
    rintro e w2 ⟨rfl, hp, tt⟩
    have H2 := hid hp
    have X2 := hid (HT.out.kept tt (fun g _ e => HP.out.nt (.inl e)))
    have T3 := hid ((T2.out.mono (S' := fun g => g = b) (fun _ _ e => e.elim)).trans tt (fun _ _ e => e))
    have B2 := hid ((tt.block qb (lt_of_block B1.out) (fun e => by have := HQ.out; omega)).trans B1.out)
    have Q2 := hid ((tt.block qr (lt_of_block Q1.out) (fun e => by have := HQ.out; omega)).trans Q1.out)
    have HS2 := hid (show qr < w2.heap.size from by have := HQ.out; have := tt.size; omega)
    clear hp tt KQ HP HT B1 Q1 T2
    go_upto_region 2 with (first | refine wpList_store_row rfl 28 _ _ rfl w2.heap.size _ rfl rfl 28 _ (block_new w2 _ 28) info28 (by rfl) (Cel.one Cel.zero) ?_ | fail)
    have TA := hid (((Touch.refl (fun _ => False) w2).alloc (.cells #[.int .i64 0, .slice none 0 0, .bool false, .int .i64 0, .int .i64 0, .bool false, .int .i64 0, .string ⟨#[]⟩, .slice none 0 0] 28)).trans (touch_row (w2.alloc (.cells #[.int .i64 0, .slice none 0 0, .bool false, .int .i64 0, .int .i64 0, .bool false, .int .i64 0, .string ⟨#[]⟩, .slice none 0 0] 28)) w2.heap.size Cel.zero.arr) (fun i hi e => by omega))
    generalize (w2.alloc (.cells #[.int .i64 0, .slice none 0 0, .bool false, .int .i64 0, .int .i64 0, .bool false, .int .i64 0, .string ⟨#[]⟩, .slice none 0 0] 28)).setRow w2.heap.size Cel.zero.arr = w3 at *
    replace H2 := hid (H2.out.new TA.out)
    replace X2 := hid (X2.out.new TA.out)
    replace T3 := hid (T3.out.trans TA.out (fun _ _ e => e.elim))
    replace B2 := hid ((TA.out.block qb (lt_of_block B2.out) id).trans B2.out)
    replace Q2 := hid ((TA.out.block qr (lt_of_block Q2.out) id).trans Q2.out)
    clear TA
    go_wp2_with (first | refine wpList_load_row rfl 28 _ rfl qb rfl 28 _ (0, 0) _ B2.out Tryz.underlying28 rfl info28 ?_ | refine wpList_store_row rfl 28 _ _ rfl qr _ rfl rfl 28 _ Q2.out info28 (by rfl) (Cel.one ⟨ck, sa, sn, sc, fo, mi, ma, la, ca, nm, ka, kn, kc⟩) ?_ | fail)
    refine bodyPost_ret (results_c rfl _ _ qr 28 _ (0, 0) _ rfl (setRow_heap _ qr _ _ 28 (0, 0) Q2.out) Tryz.underlying28 rfl (by kernel_rfl)) rfl ?_
    rw [← HA.out]
    have TR := touch_row w3 qr #[.int .i64 ck, .slice sa sn sc, .bool fo, .int .i64 mi, .int .i64 ma, .bool la, .int .i64 ca, .string nm, .slice ka kn kc]
    refine ⟨⟨ck, sa, sn, sc, fo, mi, ma, la, ca, nm, ka, kn, kc⟩, vn, rfl, ?_, H2.out.row (by have := HQ.out; omega) Q2.out, .inl rfl, (T3.out.trans TR (fun i hi e => by have := HQ.out; omega)).mono (fun _ _ e => .inl e)⟩
    exact ((X2.out.kept TR (fun g hg e => by have := hB g hg; have := HQ.out; omega))).more (fun g e => .inl e)
  | .ok (some (a, z, y, k1)) =>
    go_wp2_with fail
    refine (KQ.out _ HP.out).mono ?_
    rintro e w2 ⟨rfl, hp, tt⟩
    have H2 := hid hp
    have X2 := hid (HT.out.kept tt (fun g _ e => HP.out.nt (.inl e)))
    have T3 := hid ((T2.out.mono (S' := fun g => g = b) (fun _ _ e => e.elim)).trans tt (fun _ _ e => e))
    have B2 := hid ((tt.block qb (lt_of_block B1.out) (fun e => by have := HQ.out; omega)).trans B1.out)
    have Q2 := hid ((tt.block qr (lt_of_block Q1.out) (fun e => by have := HQ.out; omega)).trans Q1.out)
    have HS2 := hid (show qr < w2.heap.size from by have := HQ.out; have := tt.size; omega)
    clear hp tt KQ HP HT B1 Q1 T2
    go_upto_region 2 with (first | refine wpList_store_row rfl 28 _ _ rfl w2.heap.size _ rfl rfl 28 _ (block_new w2 _ 28) info28 (by rfl) (Cel.one (repC a z y)) ?_ | fail)
    have TA := hid (((Touch.refl (fun _ => False) w2).alloc (.cells #[.int .i64 0, .slice none 0 0, .bool false, .int .i64 0, .int .i64 0, .bool false, .int .i64 0, .string ⟨#[]⟩, .slice none 0 0] 28)).trans (touch_row (w2.alloc (.cells #[.int .i64 0, .slice none 0 0, .bool false, .int .i64 0, .int .i64 0, .bool false, .int .i64 0, .string ⟨#[]⟩, .slice none 0 0] 28)) w2.heap.size (repC a z y).arr) (fun i hi e => by omega))
    have RA := hid (setRow_heap (w2.alloc (.cells #[.int .i64 0, .slice none 0 0, .bool false, .int .i64 0, .int .i64 0, .bool false, .int .i64 0, .string ⟨#[]⟩, .slice none 0 0] 28)) w2.heap.size _ (repC a z y).arr 28 (0, 0) (block_new w2 _ 28))
    generalize (w2.alloc (.cells #[.int .i64 0, .slice none 0 0, .bool false, .int .i64 0, .int .i64 0, .bool false, .int .i64 0, .string ⟨#[]⟩, .slice none 0 0] 28)).setRow w2.heap.size (repC a z y).arr = w3 at *
    obtain ⟨q5, hq5⟩ : ∃ q, q = w2.heap.size := ⟨_, rfl⟩
    have HQ5 := hid (show qr < q5 by have := HS2.out; omega)
    rw [← hq5] at RA ⊢
    replace H2 := hid (H2.out.new TA.out)
    replace X2 := hid (X2.out.new TA.out)
    replace T3 := hid (T3.out.trans TA.out (fun _ _ e => e.elim))
    replace B2 := hid ((TA.out.block qb (lt_of_block B2.out) id).trans B2.out)
    replace Q2 := hid ((TA.out.block qr (lt_of_block Q2.out) id).trans Q2.out)
    clear TA hq5 HS2
    have RB := hid ((Below.heap_alloc w3 (.cells #[.int .i64 ck, .slice sa sn sc, .bool fo, .int .i64 mi, .int .i64 ma, .bool la, .int .i64 ca, .string nm, .slice ka kn kc] 28) q5 (lt_of_block RA.out)).trans RA.out)
    have d8 : (w3.alloc (.cells #[.int .i64 ck, .slice sa sn sc, .bool fo, .int .i64 mi, .int .i64 ma, .bool la, .int .i64 ca, .string nm, .slice ka kn kc] 28)).cell? ⟨q5, 8, none⟩ = some (.slice none 0 0) := by unfold World.cell?; rw [RB.out]; rfl
    have f8 : (w3.alloc (.cells #[.int .i64 ck, .slice sa sn sc, .bool fo, .int .i64 mi, .int .i64 ma, .bool la, .int .i64 ca, .string nm, .slice ka kn kc] 28)).frozen? ⟨q5, 8, none⟩ = false := by unfold World.frozen?; rw [RB.out]; rfl
    go_upto_region 5 with (first | refine wpList_load_row rfl 28 _ rfl qb rfl 28 _ (0, 0) _ B2.out Tryz.underlying28 rfl info28 ?_ | fail)
    obtain ⟨qk, hqk⟩ : ∃ q, q = w3.heap.size := ⟨_, rfl⟩
    have HQK := hid (show q5 < qk by rw [hqk]; exact lt_of_block RA.out)
    have K4 := hid (cl_one w3 ⟨ck, sa, sn, sc, fo, mi, ma, la, ca, nm, ka, kn, kc⟩)
    change Hid (CL (w3.alloc (.cells #[.int .i64 ck, .slice sa sn sc, .bool fo, .int .i64 mi, .int .i64 ma, .bool la, .int .i64 ca, .string nm, .slice ka kn kc] 28)) _ _) at K4
    have TA := hid ((Touch.refl (fun _ => False) w3).alloc (.cells #[.int .i64 ck, .slice sa sn sc, .bool fo, .int .i64 mi, .int .i64 ma, .bool la, .int .i64 ca, .string nm, .slice ka kn kc] 28))
    have HS4 := hid (show qk < (w3.alloc (.cells #[.int .i64 ck, .slice sa sn sc, .bool fo, .int .i64 mi, .int .i64 ma, .bool la, .int .i64 ca, .string nm, .slice ka kn kc] 28)).heap.size by rw [hqk]; simp)
    rw [← hqk] at K4 ⊢
    clear hqk d8 f8
    replace H2 := hid (H2.out.new TA.out)
    replace X2 := hid (X2.out.new TA.out)
    replace T3 := hid (T3.out.trans TA.out (fun _ _ e => e.elim))
    replace Q2 := hid ((TA.out.block qr (lt_of_block Q2.out) id).trans Q2.out)
    clear TA B2 RA
    generalize w3.alloc (.cells #[.int .i64 ck, .slice sa sn sc, .bool fo, .int .i64 mi, .int .i64 ma, .bool la, .int .i64 ca, .string nm, .slice ka kn kc] 28) = w4 at *
    have TS := touch_one w4 q5 8 (.slice (some ⟨qk, 0, none⟩) 1 1)
    have R5 := hid (show (w4.setCell ⟨q5, 8, none⟩ (.slice (some ⟨qk, 0, none⟩) 1 1)).heap[q5]? = some (.cells (Cel.arr ⟨10, none, 0, 0, false, a, z, y, 0, ⟨#[]⟩, some ⟨qk, 0, none⟩, 1, 1⟩) 28 (0, 0)) from block_set RB.out 8 _)
    have K5 := hid (rowKept K4.out TS (fun g e s => by obtain rfl : qk = g := Option.some.inj e; have := HQK.out; omega))
    have X5 := hid (X2.out.kept TS (fun g hg s => by have := hB g hg; have := HQ.out; have := HQ5.out; omega))
    have H5 := hid (H2.out.far TS (fun g s => by subst s; exact ⟨by have := HQ.out; have := HQ5.out; omega, fun cs fr e => by rw [RB.out] at e; cases e⟩))
    have Q5 := hid ((TS.block qr (lt_of_block Q2.out) (fun s => by have := HQ5.out; omega)).trans Q2.out)
    have T5 := hid (T3.out.trans TS (fun i hi s => by have := HQ.out; have := HQ5.out; omega))
    have HS5 := hid (show qk < (w4.setCell ⟨q5, 8, none⟩ (.slice (some ⟨qk, 0, none⟩) 1 1)).heap.size from Nat.lt_of_lt_of_le HS4.out TS.size)
    clear TS K4 X2 H2 Q2 T3 RB HS4
    generalize w4.setCell ⟨q5, 8, none⟩ (.slice (some ⟨qk, 0, none⟩) 1 1) = w5 at *
    go_wp2_with (first | refine wpList_load_row rfl 28 _ rfl q5 rfl 28 _ (0, 0) _ R5.out Tryz.underlying28 rfl info28 ?_ | refine wpList_store_row rfl 28 _ _ rfl qr _ rfl rfl 28 _ Q5.out info28 (by rfl) (Cel.one ⟨10, none, 0, 0, false, a, z, y, 0, ⟨#[]⟩, some ⟨qk, 0, none⟩, 1, 1⟩) ?_ | fail)
    refine bodyPost_ret (results_c rfl _ _ qr 28 _ (0, 0) _ rfl (setRow_heap _ qr _ _ 28 (0, 0) Q5.out) Tryz.underlying28 rfl (by kernel_rfl)) rfl ?_
    rw [← HA.out]
    have TR := touch_row w5 qr (Cel.arr ⟨10, none, 0, 0, false, a, z, y, 0, ⟨#[]⟩, some ⟨qk, 0, none⟩, 1, 1⟩)
    refine ⟨_, vn, rfl, ?_, H5.out.row (by have := HQ.out; omega) Q5.out, .inl rfl, (T5.out.trans TR (fun i hi e => by have := HQ.out; omega)).mono (fun _ _ e => .inl e)⟩
    refine TN.one (((X5.out.kept TR (fun g hg e => by have := hB g hg; have := HQ.out; omega))).more (fun g e => .inl e)) 10 a z 0 false y ⟨#[]⟩ ⟨qk, 0, none⟩ (rowKept K5.out TR (fun g e s => by obtain rfl : qk = g := Option.some.inj e; have := HQK.out; have := HQ5.out; omega)) (fun g e => ?_)
    obtain rfl : qk = g := Option.some.inj e
    exact .inr ⟨by have := HQ.out; have := HQ5.out; have := HQK.out; omega, Nat.lt_of_lt_of_le HS5.out TR.size⟩
end Go.Proofs.YtdhhcefmmojcmaaGreatDoor
