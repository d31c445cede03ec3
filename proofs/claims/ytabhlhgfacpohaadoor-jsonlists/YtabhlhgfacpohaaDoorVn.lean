/- A parser of JSON: Parse, of a text that is no UTF-8; conditions: as told. -/
import Derived.Test.YtabhlhgfacpohaaDoorVl
import Derived.Test.YtabhlhgfacpohaaDoorM19
namespace Go.Proofs.YtabhlhgfacpohaaDoor
open Go.RowKit
open Go.Lib

set_option maxRecDepth 100000 in
set_option maxHeartbeats 1000000 in
theorem parse_bad (s : ByteArray) (i : Nat) (w : World) (ht : Tabs w) (hs : s.size ≤ 1048576) (hi : 1 ≤ i) (hi2 : i ≤ 1048577)
    (KD : ∀ w, Tabs w → Calls Tryd.prog 13 #[.string (xs s), .int .i64 1, .bool true] w fun e w' => e = .returned (.tuple #[.agg #[.int .i64 0, .slice none 0 0, .slice none 0 0, .int .i64 0], .agg #[.int .i64 17, .int .i64 (i : Nat)]]) ∧ Touch (fun _ => False) w w') :
    Calls Tryd.prog 9 #[.string s] w fun e w' => e = .returned (.tuple #[zV, fV 17 (i - 1)]) ∧ Touch (fun _ => False) w w' := by
  have hsI : ¬ (1048576 : Int) < (s.size : Int) := by omega
  have K1 := hid KD
  clear KD
  unfold xs at K1
  have B := hid (begin2 (w := w) (b := 0) (by have := ht.two; omega))
  have HT := hid (ht.new B.out.2.2.1)
  clear ht
  go_enter Tryd.func9, Tryd.ntmps9
  go_upto_region 1 with fail
  generalize (w.alloc (.cells #[.int .i64 0, .string ⟨#[]⟩, .slice none 0 0, .slice none 0 0] 26)).alloc (.cells #[.int .i64 0, .int .i64 0] 29) = w1 at *
  obtain ⟨BA, BB, T1, L⟩ := B.out
  clear B
  replace BA := hid BA
  replace BB := hid BB
  replace T1 := hid T1
  obtain ⟨p, hp⟩ : ∃ p, p = w.heap.size := ⟨_, rfl⟩
  obtain ⟨q, hq⟩ : ∃ q, q = w.heap.size + 1 := ⟨_, rfl⟩
  have HL := hid (show w.heap.size ≤ p ∧ w.heap.size ≤ q ∧ p < q from by rw [hp, hq]; exact ⟨Nat.le_refl _, by omega, by omega⟩)
  clear L
  rw [← hq] at BB ⊢
  rw [← hp] at BA ⊢
  clear hp hq
  go_wp2_with fail
  refine (K1.out w1 HT.out).mono ?_
  rintro e w2 ⟨rfl, tt⟩
  have P2 := hid ((tt.block p (lt_of_block BA.out) id).trans BA.out)
  have Q2 := hid ((tt.block q (lt_of_block BB.out) id).trans BB.out)
  have T2 := hid (T1.out.trans tt (fun _ _ e => e))
  have HT2 := hid (HT.out.new tt)
  clear tt K1 BA BB T1 HT
  go_upto_region 4 with fail
  have TA := (Touch.refl (fun _ => False) w2).alloc (.cells #[.int .i64 0, .slice none 0 0, .slice none 0 0, .int .i64 0] 37) |>.alloc (.cells #[.int .i64 17, .int .i64 (i : Nat)] 29)
  have BR := hid (jtwo_new (w := w2.alloc (.cells #[.int .i64 0, .slice none 0 0, .slice none 0 0, .int .i64 0] 37)) (.int .i64 17) (.int .i64 (i : Nat)) 29)
  rw [size_alloc1] at BR
  have HT3 := hid (HT2.out.new TA)
  have P3 := hid ((TA.block p (lt_of_block P2.out) id).trans P2.out)
  have Q3 := hid ((TA.block q (lt_of_block Q2.out) id).trans Q2.out)
  have T3 := hid (T2.out.trans TA (fun _ _ e => e))
  have HPR := hid (show p < w2.heap.size + 1 ∧ q < w2.heap.size + 1 from ⟨Nat.lt_succ_of_lt (lt_of_block P2.out), Nat.lt_succ_of_lt (lt_of_block Q2.out)⟩)
  clear TA P2 Q2 T2
  generalize (w2.alloc (.cells #[.int .i64 0, .slice none 0 0, .slice none 0 0, .int .i64 0] 37)).alloc (.cells #[.int .i64 17, .int .i64 (i : Nat)] 29) = w3 at *
  generalize w2.heap.size + 1 = r at *
  obtain ⟨⟨r0, r1⟩, _⟩ := cells2 BR.out
  clear BR
  obtain ⟨⟨a0, a1, a2, a3⟩, ⟨e0, e1, e2, e3⟩⟩ := cells4 P3.out
  obtain ⟨⟨g0, g1⟩, ⟨f0, f1⟩⟩ := cells2 Q3.out
  have n5 : ¬ p = q := by have := HL.out; omega
  have n6 : ¬ q = p := by have := HL.out; omega
  have n7 : ¬ p = r := by have := HPR.out; omega
  have n8 : ¬ r = p := by have := HPR.out; omega
  have n9 : ¬ q = r := by have := HPR.out; omega
  have n10 : ¬ r = q := by have := HPR.out; omega
  have hwr : IntKind.i64.wrap ((i : Int) - 1) = (i : Int) - 1 := wrap_small _ (by omega) (by omega)
  have hI : ((i - 1 : Nat) : Int) = (i : Int) - 1 := by omega
  go_upto_region 5 with fail
  go_region
  all_goals
    clear a0 a1 a2 a3 e0 e1 e2 e3 g0 g1 f0 f1 r0 r1
    go_wp2
    have R := both_set P3.out Q3.out n5 (.int .i64 0) (.string ⟨#[]⟩) (.slice none 0 0) (.slice none 0 0) (.int .i64 17) (.int .i64 ((i : Int) - 1))
    have T := both_touch T3.out HL.out.1 HL.out.2.1 (.int .i64 0) (.string ⟨#[]⟩) (.slice none 0 0) (.slice none 0 0) (.int .i64 17) (.int .i64 ((i : Int) - 1))
    generalize (((((w3.setCell ⟨p, 0, none⟩ (.int .i64 0)).setCell ⟨p, 1, none⟩ (.string ⟨#[]⟩)).setCell ⟨p, 2, none⟩ (.slice none 0 0)).setCell ⟨p, 3, none⟩ (.slice none 0 0)).setCell ⟨q, 0, none⟩ (.int .i64 17)).setCell ⟨q, 1, none⟩ (.int .i64 ((i : Int) - 1)) = w6 at *
    have R1 : w6.drew.heap[p]? = some (.cells #[.int .i64 0, .string ⟨#[]⟩, .slice none 0 0, .slice none 0 0] 26 (0, 0)) := R.1
    have R2 : w6.drew.heap[q]? = some (.cells #[.int .i64 17, .int .i64 ((i : Int) - 1)] 29 (0, 0)) := R.2
    exact bodyPost_ret (results_cc rfl _ _ p q 26 29 _ _ (0, 0) (0, 0) _ _ rfl R1 Tryd.underlying26 rfl (by kernel_rfl) rfl R2 Tryd.underlying29 rfl (by kernel_rfl)) rfl ⟨by unfold zV fV; rw [hI]; rfl, T.drew⟩
end Go.Proofs.YtabhlhgfacpohaaDoor
