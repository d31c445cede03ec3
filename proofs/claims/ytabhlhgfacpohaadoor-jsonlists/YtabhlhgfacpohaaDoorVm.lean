/- A parser of JSON: Parse, of a text that is UTF-8; conditions: as told. -/
import Derived.Test.YtabhlhgfacpohaaDoorVl
import Derived.Test.YtabhlhgfacpohaaDoorM19
namespace Go.Proofs.YtabhlhgfacpohaaDoor
open Go.RowKit
open Go.Lib

def ParP (w : World) : JR JV → Ending → World → Prop
  | .ok x, e, w' => ∃ k t a2 n2 c2 a3 n3 c3 B, e = .returned (.tuple #[.agg #[.int .i64 k, .string t, .slice a2 n2 c2, .slice a3 n3 c3], .agg #[.int .i64 0, .int .i64 0]]) ∧ TV w' B ⟨k, t, .slice a2 n2 c2, .slice a3 n3 c3⟩ x ∧ (∀ g, B g → w.heap.size ≤ g ∧ g < w'.heap.size) ∧ Touch (fun _ => False) w w'
  | .error (c, k), e, w' => e = .returned (.tuple #[zV, fV c k]) ∧ Touch (fun _ => False) w w'
set_option maxRecDepth 100000 in
set_option maxHeartbeats 4000000 in
theorem parse_good (s : ByteArray) (w : World) (ht : Tabs w) (hs : s.size ≤ 1048576)
    (KD : ∀ w, Tabs w → Calls Tryd.prog 13 #[.string (xs s), .int .i64 1, .bool true] w fun e w' => ∃ a1 n1 c1 a2 n2 c2 bd, e = .returned (.tuple #[.agg #[.int .i64 1, .slice a1 n1 c1, .slice a2 n2 c2, .int .i64 bd], .agg #[.int .i64 0, .int .i64 0]]) ∧ Touch (fun _ => False) w w') :
    Calls Tryd.prog 9 #[.string s] w fun e w' => ParP w (wholeE s) e w' := by
  have hsI : ¬ (1048576 : Int) < (s.size : Int) := by omega
  have K1 := hid KD
  have K2 := hid (fun b w' (hp : Ps w' b s 0 0) (hb2 : 2 ≤ b) (ht' : Tabs w') => whole_any b s w' hp hs hb2 ht')
  obtain ⟨X, hX⟩ : ∃ X, X = wholeE s := ⟨_, rfl⟩
  have HX := hid hX.symm
  rw [← hX]
  clear KD hX
  unfold xs at K1
  have B := hid (begin2 (w := w) (b := 0) (by have := ht.two; omega))
  have HT := hid (ht.new B.out.2.2.1)
  clear ht
  go_enter Tryd.func9, Tryd.ntmps9
  go_upto_region 1 with fail
  generalize (w.alloc (.cells #[.int .i64 0, .string ⟨#[]⟩, .slice none 0 0, .slice none 0 0] 26)).alloc (.cells #[.int .i64 0, .int .i64 0] 29) = w1 at *
  obtain ⟨BA, BB, T1, L⟩ := B.out
  clear B
  replace BA := hid BA
  replace BB := hid BB
  replace T1 := hid T1
  obtain ⟨p, hp⟩ : ∃ p, p = w.heap.size := ⟨_, rfl⟩
  obtain ⟨q, hq⟩ : ∃ q, q = w.heap.size + 1 := ⟨_, rfl⟩
  have HL := hid (show w.heap.size ≤ p ∧ w.heap.size ≤ q ∧ p < q from by rw [hp, hq]; exact ⟨Nat.le_refl _, by omega, by omega⟩)
  clear L
  rw [← hq] at BB ⊢
  rw [← hp] at BA ⊢
  clear hp hq
  go_wp2_with fail
  refine (K1.out w1 HT.out).mono ?_
  rintro e w2 ⟨b1, m1, d1, b2, m2, d2, bd, rfl, tt⟩
  have P2 := hid ((tt.block p (lt_of_block BA.out) id).trans BA.out)
  have Q2 := hid ((tt.block q (lt_of_block BB.out) id).trans BB.out)
  have T2 := hid (T1.out.trans tt (fun _ _ e => e))
  have HT2 := hid (HT.out.new tt)
  clear tt K1 BA BB T1 HT
  go_upto_region 4 with fail
  have TA := (Touch.refl (fun _ => False) w2).alloc (.cells #[.int .i64 1, .slice b1 m1 d1, .slice b2 m2 d2, .int .i64 bd] 37) |>.alloc (.cells #[.int .i64 0, .int .i64 0] 29)
  have BR := hid (jtwo_new (w := w2.alloc (.cells #[.int .i64 1, .slice b1 m1 d1, .slice b2 m2 d2, .int .i64 bd] 37)) (.int .i64 0) (.int .i64 0) 29)
  rw [size_alloc1] at BR
  have HT3 := hid (HT2.out.new TA)
  have P3 := hid ((TA.block p (lt_of_block P2.out) id).trans P2.out)
  have Q3 := hid ((TA.block q (lt_of_block Q2.out) id).trans Q2.out)
  have T3 := hid (T2.out.trans TA (fun _ _ e => e))
  clear TA P2 Q2 T2
  generalize (w2.alloc (.cells #[.int .i64 1, .slice b1 m1 d1, .slice b2 m2 d2, .int .i64 bd] 37)).alloc (.cells #[.int .i64 0, .int .i64 0] 29) = w3 at *
  generalize w2.heap.size + 1 = r at *
  obtain ⟨⟨r0, r1⟩, _⟩ := cells2 BR.out
  clear BR
  go_upto_region 7 with fail
  have TA := (Touch.refl (fun _ => False) w3).alloc (.cells #[.string s, .int .i64 0, .int .i64 0] 51)
  have H4 := hid (show Ps (w3.alloc (.cells #[.string s, .int .i64 0, .int .i64 0] 51)) w3.heap.size s 0 0 from by
    show (w3.heap.push _)[_]? = _
    simp)
  have HT4 := hid (HT3.out.new TA)
  have HB2 := hid HT3.out.two
  have P4 := hid ((TA.block p (lt_of_block P3.out) id).trans P3.out)
  have Q4 := hid ((TA.block q (lt_of_block Q3.out) id).trans Q3.out)
  have T4 := hid (T3.out.trans TA (fun _ _ e => e))
  have HB := hid (show p < w3.heap.size ∧ q < w3.heap.size ∧ w.heap.size ≤ w3.heap.size from ⟨lt_of_block P3.out, lt_of_block Q3.out, T3.out.size⟩)
  clear TA P3 Q3 T3 r0 r1
  generalize w3.alloc (.cells #[.string s, .int .i64 0, .int .i64 0] 51) = w4 at *
  generalize w3.heap.size = b at *
  match hR : wholeE s with
  | .error (fc, fk) =>
  rw [hR] at K2 HX
  clear hR
  unfold WholeP zV fV at K2
  go_wp2_with fail
  refine (K2.out b w4 H4.out HB2.out HT4.out).mono ?_
  rintro e w5 ⟨rfl, tt⟩
  have P5 := hid ((tt.block p (lt_of_block P4.out) (fun e => by have := HB.out; omega)).trans P4.out)
  have Q5 := hid ((tt.block q (lt_of_block Q4.out) (fun e => by have := HB.out; omega)).trans Q4.out)
  have T5 := hid (Touch.trans (S := fun _ => False) T4.out tt (fun i hi e => by have := HB.out; omega))
  have HPQ := hid (show p < w4.heap.size ∧ q < w4.heap.size from ⟨lt_of_block P4.out, lt_of_block Q4.out⟩)
  have TS4 := hid T4.out.size
  clear tt K2 P4 Q4 T4 H4
  obtain ⟨⟨a0, a1, a2, a3⟩, ⟨e0, e1, e2, e3⟩⟩ := cells4 P5.out
  obtain ⟨⟨g0, g1⟩, ⟨f0, f1⟩⟩ := cells2 Q5.out
  have n5 : ¬ p = q := by have := HL.out; omega
  have n6 : ¬ q = p := by have := HL.out; omega
  go_wp2
  rw [← HX.out]
  have R := both_set P5.out Q5.out n5 (.int .i64 0) (.string ⟨#[]⟩) (.slice none 0 0) (.slice none 0 0) (.int .i64 (fc : Nat)) (.int .i64 (fk : Nat))
  have T := both_touch T5.out HL.out.1 HL.out.2.1 (.int .i64 0) (.string ⟨#[]⟩) (.slice none 0 0) (.slice none 0 0) (.int .i64 (fc : Nat)) (.int .i64 (fk : Nat))
  exact bodyPost_ret (results_cc rfl _ _ p q 26 29 _ _ (0, 0) (0, 0) _ _ rfl R.1 Tryd.underlying26 rfl (by kernel_rfl) rfl R.2 Tryd.underlying29 rfl (by kernel_rfl)) rfl ⟨rfl, T⟩
  | .ok x =>
  rw [hR] at K2 HX
  clear hR
  unfold WholeP fV at K2
  go_wp2_with fail
  refine (K2.out b w4 H4.out HB2.out HT4.out).mono ?_
  rintro e w5 ⟨vk, vt, a2', n2, c2, a3', n3, c3, BS, rfl, tv, hB, tt⟩
  have TV5 := hid tv
  have HBB := hid hB
  clear tv hB
  have P5 := hid ((tt.block p (lt_of_block P4.out) (fun e => by have := HB.out; omega)).trans P4.out)
  have Q5 := hid ((tt.block q (lt_of_block Q4.out) (fun e => by have := HB.out; omega)).trans Q4.out)
  have T5 := hid (Touch.trans (S := fun _ => False) T4.out tt (fun i hi e => by have := HB.out; omega))
  have HPQ := hid (show p < w4.heap.size ∧ q < w4.heap.size from ⟨lt_of_block P4.out, lt_of_block Q4.out⟩)
  have TS4 := hid T4.out.size
  clear tt K2 P4 Q4 T4 H4
  obtain ⟨⟨a0, a1, a2, a3⟩, ⟨e0, e1, e2, e3⟩⟩ := cells4 P5.out
  obtain ⟨⟨g0, g1⟩, ⟨f0, f1⟩⟩ := cells2 Q5.out
  have n5 : ¬ p = q := by have := HL.out; omega
  have n6 : ¬ q = p := by have := HL.out; omega
  go_wp2
  rw [← HX.out]
  have TF := (((touch_four (S := fun k => k = p ∨ k = q) (g := p) (Touch.refl _ w5) (fun _ => .inl rfl) 0 1 2 3 (.int .i64 vk) (.string vt) (.slice a2' n2 c2) (.slice a3' n3 c3)).setCell (p := ⟨q, 0, none⟩) (fun _ => .inr rfl) (.int .i64 0)).setCell (p := ⟨q, 1, none⟩) (fun _ => .inr rfl) (.int .i64 0))
  have TVF := TV5.out.kept TF (fun g e e2 => by have := HBB.out g e; have := HPQ.out; omega)
  have R := both_set P5.out Q5.out n5 (.int .i64 vk) (.string vt) (.slice a2' n2 c2) (.slice a3' n3 c3) (.int .i64 0) (.int .i64 0)
  have T := both_touch T5.out HL.out.1 HL.out.2.1 (.int .i64 vk) (.string vt) (.slice a2' n2 c2) (.slice a3' n3 c3) (.int .i64 0) (.int .i64 0)
  exact bodyPost_ret (results_cc rfl _ _ p q 26 29 _ _ (0, 0) (0, 0) _ _ rfl R.1 Tryd.underlying26 rfl (by kernel_rfl) rfl R.2 Tryd.underlying29 rfl (by kernel_rfl)) rfl ⟨vk, vt, a2', n2, c2, a3', n3, c3, BS, rfl, TVF, fun g e => by have := HBB.out g e; have := TS4.out; have := TF.size; exact ⟨by omega, by omega⟩, T⟩
end Go.Proofs.YtabhlhgfacpohaaDoor
