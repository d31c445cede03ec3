/- Texts of this proof, one behind the other: what each says stands ahead of it. -/
import Derived.Test.YtmokfheckngfiaaDoorM3
import Derived.Test.YtmokfheckngfiaaDoorM0
/- cutAt; conditions: the range lies among the scalars. -/
namespace Go.Proofs.YtmokfheckngfiaaDoor
open Go.RowKit
open Go.Lib

theorem andNot_lowest (r k : Nat) (h : r < 4194304) (hk : k ≤ 20) : bits .andNot .i64 (r : Int) ((2 ^ k - 1 : Nat) : Int) = ((r / 2 ^ k * 2 ^ k : Nat) : Int) := by
  have hp : 2 ^ k ≤ 2 ^ 20 := Nat.pow_le_pow_right (by decide) hk
  have hp1 : 0 < 2 ^ k := Nat.two_pow_pos k
  have e1 : (BitVec.ofInt 64 (r : Int)).toNat = r := by
    rw [BitVec.toNat_ofInt]
    omega
  have e2 : (BitVec.ofInt 64 ((2 ^ k - 1 : Nat) : Int)).toNat = 2 ^ k - 1 := by
    rw [BitVec.toNat_ofInt]
    omega
  have key : (BitVec.ofInt 64 (r : Int) &&& ~~~ (BitVec.ofInt 64 ((2 ^ k - 1 : Nat) : Int))).toNat = r / 2 ^ k * 2 ^ k := by
    apply Nat.eq_of_testBit_eq
    intro i
    rw [BitVec.testBit_toNat, BitVec.getLsbD_and, BitVec.getLsbD_not, ← BitVec.testBit_toNat, ← BitVec.testBit_toNat, e1, e2, Nat.testBit_two_pow_sub_one, Nat.testBit_mul_two_pow, Nat.testBit_div_two_pow]
    by_cases hi : i < k
    · simp [hi]
      omega
    · by_cases h64 : i < 64
      · simp [hi, h64]
        rw [show i - k + k = i by omega, decide_eq_true (show k ≤ i by omega), Bool.true_and]
      · have : r.testBit i = false := Nat.testBit_lt_two_pow (Nat.lt_of_lt_of_le (show r < 2 ^ 22 by omega) (Nat.pow_le_pow_right (by decide) (by omega)))
        simp [hi, this]
        rw [show i - k + k = i by omega, this]
        simp
  show IntKind.i64.wrap ((BitVec.ofInt 64 (r : Int) &&& ~~~ (BitVec.ofInt 64 ((2 ^ k - 1 : Nat) : Int))).toNat : Nat) = _
  rw [key, IntKind.wrap_i64]
  have : r / 2 ^ k * 2 ^ k ≤ r := Nat.div_mul_le_self r (2 ^ k)
  omega
set_option maxRecDepth 100000 in
set_option maxHeartbeats 4000000 in
theorem cutAt_6 (f t : Nat) (hft : f ≤ t) (ht : t ≤ 1114111) (w : World) : Calls Tryd.prog 66 #[.agg #[.int .i64 (f : Nat), .int .i64 (t : Nat)], .int .i64 6] w fun e w' => e = .returned (cutV (cutL f t 6)) ∧ Touch (fun _ => False) w w' := by
  have B := hid (block_new w #[.int .i64 (f : Nat), .int .i64 (t : Nat)] 38)
  have TA := hid ((Touch.refl (fun _ => False) w).alloc (.cells #[.int .i64 (f : Nat), .int .i64 (t : Nat)] 38))
  have HA1 := hid (show bits .and .i64 (f : Int) 63 = ((f % 64 : Nat) : Int) from and_lowest f 6 (by omega) (by decide))
  have HA2 := hid (show bits .and .i64 (t : Int) 63 = ((t % 64 : Nat) : Int) from and_lowest t 6 (by omega) (by decide))
  have HO := hid (show bits .or .i64 (f : Int) 63 = (((f / 64 + 1) * 64 - 1 : Nat) : Int) from or_lowest f 6 (by omega) (by decide))
  have hf0 : (0 : Int) ≤ (f : Int) := by omega
  have ht0 : (0 : Int) ≤ (t : Int) := by omega
  go_enter Tryd.func66, Tryd.ntmps66
  go_upto_region 2 with fail
  generalize (w.alloc (.cells #[.int .i64 (f : Nat), .int .i64 (t : Nat)] 38)) = w1 at *
  obtain ⟨q, hq⟩ : ∃ q, q = w.heap.size := ⟨_, rfl⟩
  rw [← hq] at B ⊢
  clear hq
  have c0 : w1.cell? ⟨q, 0, none⟩ = some (.int .i64 (f : Nat)) := by simp [World.cell?, B.out]
  have c1 : w1.cell? ⟨q, 1, none⟩ = some (.int .i64 (t : Nat)) := by simp [World.cell?, B.out]
  go_cut [10] (fun v wd => v = .bool (decide (f / 64 = t / 64)) ∧ ∃ n, wd = w1.drewN n)
  case first =>
    go_quiet (fail)
    go_wp2
    go_meet
    case rel => exact ⟨congrArg Value.bool (by rw [Bool.eq_iff_iff, beq_iff_eq, decide_eq_true_eq]; omega), _, rfl⟩
  obtain ⟨rfl, n, rfl⟩ := hcut
  have d0 : (w1.drewN n).cell? ⟨q, 0, none⟩ = some (.int .i64 (f : Nat)) := c0
  have d1 : (w1.drewN n).cell? ⟨q, 1, none⟩ = some (.int .i64 (t : Nat)) := c1
  have T2 := hid (TA.out.drewN n)
  clear c0 c1 B TA
  generalize w1.drewN n = w2 at *
  by_cases hA : f / 64 = t / 64
  · have HR := hid (show cutL f t 6 = none by unfold cutL; exact if_pos hA)
    rw [decide_eq_true hA]
    clear HA1 HA2 HO
    go_wp2
    refine bodyPost_ret (results_tmp2 rfl _ _ _) rfl ?_
    exact ⟨by rw [HR.out]; rfl, T2.out⟩
  rw [decide_eq_false hA]
  by_cases hB : f % 64 ≠ 0
  · have HR := hid (show cutL f t 6 = some ((f / 64 + 1) * 64) by unfold cutL; rw [if_neg hA]; exact if_pos hB)
    have h1 := HA1.out
    have h2 : ¬ (((f % 64 : Nat) : Int) = 0) := by omega
    have h3 := HO.out
    have HE := hid (show (((f / 64 + 1) * 64 - 1 : Nat) : Int) + 1 = (((f / 64 + 1) * 64 : Nat) : Int) by omega)
    have hsm : (f / 64 + 1) * 64 - 1 ≤ 4194304 := by omega
    generalize (f / 64 + 1) * 64 - 1 = y at *
    generalize f % 64 = z at *
    clear HA1 HA2 HO
    go_wp2
    refine bodyPost_ret (results_tmp2 rfl _ _ _) rfl ?_
    exact ⟨by rw [HR.out]; unfold cutV; dsimp only; rw [← HE.out]; rfl, T2.out⟩
  have hB0 : f % 64 = 0 := by omega
  by_cases hC : t % 64 ≠ 63
  · have HR := hid (show cutL f t 6 = some (t / 64 * 64) by unfold cutL; rw [if_neg hA, if_neg hB]; exact if_pos hC)
    have h1 := HA1.out
    rw [hB0] at h1
    have h2 := HA2.out
    have h3 : ¬ (((t % 64 : Nat) : Int) = 63) := by omega
    clear HA1 HA2 HO hB
    have h4 : bits .andNot .i64 (t : Int) 63 = ((t / 64 * 64 : Nat) : Int) := andNot_lowest t 6 (by omega) (by decide)
    generalize t / 64 * 64 = y at *
    generalize t % 64 = z at *
    go_wp2
    refine bodyPost_ret (results_tmp2 rfl _ _ _) rfl ?_
    exact ⟨by rw [HR.out]; rfl, T2.out⟩
  · have HR := hid (show cutL f t 6 = none by unfold cutL; rw [if_neg hA, if_neg hB]; exact if_neg hC)
    have h1 := HA1.out
    rw [hB0] at h1
    have h2 := HA2.out
    have hC0 : t % 64 = 63 := by omega
    rw [hC0] at h2
    clear HA1 HA2 HO hB hC
    go_wp2
    refine bodyPost_ret (results_tmp2 rfl _ _ _) rfl ?_
    exact ⟨by rw [HR.out]; rfl, T2.out⟩
set_option maxRecDepth 100000 in
set_option maxHeartbeats 4000000 in
theorem cutAt_12 (f t : Nat) (hft : f ≤ t) (ht : t ≤ 1114111) (w : World) : Calls Tryd.prog 66 #[.agg #[.int .i64 (f : Nat), .int .i64 (t : Nat)], .int .i64 12] w fun e w' => e = .returned (cutV (cutL f t 12)) ∧ Touch (fun _ => False) w w' := by
  have B := hid (block_new w #[.int .i64 (f : Nat), .int .i64 (t : Nat)] 38)
  have TA := hid ((Touch.refl (fun _ => False) w).alloc (.cells #[.int .i64 (f : Nat), .int .i64 (t : Nat)] 38))
  have HA1 := hid (show bits .and .i64 (f : Int) 4095 = ((f % 4096 : Nat) : Int) from and_lowest f 12 (by omega) (by decide))
  have HA2 := hid (show bits .and .i64 (t : Int) 4095 = ((t % 4096 : Nat) : Int) from and_lowest t 12 (by omega) (by decide))
  have HO := hid (show bits .or .i64 (f : Int) 4095 = (((f / 4096 + 1) * 4096 - 1 : Nat) : Int) from or_lowest f 12 (by omega) (by decide))
  have hf0 : (0 : Int) ≤ (f : Int) := by omega
  have ht0 : (0 : Int) ≤ (t : Int) := by omega
  go_enter Tryd.func66, Tryd.ntmps66
  go_upto_region 2 with fail
  generalize (w.alloc (.cells #[.int .i64 (f : Nat), .int .i64 (t : Nat)] 38)) = w1 at *
  obtain ⟨q, hq⟩ : ∃ q, q = w.heap.size := ⟨_, rfl⟩
  rw [← hq] at B ⊢
  clear hq
  have c0 : w1.cell? ⟨q, 0, none⟩ = some (.int .i64 (f : Nat)) := by simp [World.cell?, B.out]
  have c1 : w1.cell? ⟨q, 1, none⟩ = some (.int .i64 (t : Nat)) := by simp [World.cell?, B.out]
  go_cut [10] (fun v wd => v = .bool (decide (f / 4096 = t / 4096)) ∧ ∃ n, wd = w1.drewN n)
  case first =>
    go_quiet (fail)
    go_wp2
    go_meet
    case rel => exact ⟨congrArg Value.bool (by rw [Bool.eq_iff_iff, beq_iff_eq, decide_eq_true_eq]; omega), _, rfl⟩
  obtain ⟨rfl, n, rfl⟩ := hcut
  have d0 : (w1.drewN n).cell? ⟨q, 0, none⟩ = some (.int .i64 (f : Nat)) := c0
  have d1 : (w1.drewN n).cell? ⟨q, 1, none⟩ = some (.int .i64 (t : Nat)) := c1
  have T2 := hid (TA.out.drewN n)
  clear c0 c1 B TA
  generalize w1.drewN n = w2 at *
  by_cases hA : f / 4096 = t / 4096
  · have HR := hid (show cutL f t 12 = none by unfold cutL; exact if_pos hA)
    rw [decide_eq_true hA]
    clear HA1 HA2 HO
    go_wp2
    refine bodyPost_ret (results_tmp2 rfl _ _ _) rfl ?_
    exact ⟨by rw [HR.out]; rfl, T2.out⟩
  rw [decide_eq_false hA]
  by_cases hB : f % 4096 ≠ 0
  · have HR := hid (show cutL f t 12 = some ((f / 4096 + 1) * 4096) by unfold cutL; rw [if_neg hA]; exact if_pos hB)
    have h1 := HA1.out
    have h2 : ¬ (((f % 4096 : Nat) : Int) = 0) := by omega
    have h3 := HO.out
    have HE := hid (show (((f / 4096 + 1) * 4096 - 1 : Nat) : Int) + 1 = (((f / 4096 + 1) * 4096 : Nat) : Int) by omega)
    have hsm : (f / 4096 + 1) * 4096 - 1 ≤ 4194304 := by omega
    generalize (f / 4096 + 1) * 4096 - 1 = y at *
    generalize f % 4096 = z at *
    clear HA1 HA2 HO
    go_wp2
    refine bodyPost_ret (results_tmp2 rfl _ _ _) rfl ?_
    exact ⟨by rw [HR.out]; unfold cutV; dsimp only; rw [← HE.out]; rfl, T2.out⟩
  have hB0 : f % 4096 = 0 := by omega
  by_cases hC : t % 4096 ≠ 4095
  · have HR := hid (show cutL f t 12 = some (t / 4096 * 4096) by unfold cutL; rw [if_neg hA, if_neg hB]; exact if_pos hC)
    have h1 := HA1.out
    rw [hB0] at h1
    have h2 := HA2.out
    have h3 : ¬ (((t % 4096 : Nat) : Int) = 4095) := by omega
    clear HA1 HA2 HO hB
    have h4 : bits .andNot .i64 (t : Int) 4095 = ((t / 4096 * 4096 : Nat) : Int) := andNot_lowest t 12 (by omega) (by decide)
    generalize t / 4096 * 4096 = y at *
    generalize t % 4096 = z at *
    go_wp2
    refine bodyPost_ret (results_tmp2 rfl _ _ _) rfl ?_
    exact ⟨by rw [HR.out]; rfl, T2.out⟩
  · have HR := hid (show cutL f t 12 = none by unfold cutL; rw [if_neg hA, if_neg hB]; exact if_neg hC)
    have h1 := HA1.out
    rw [hB0] at h1
    have h2 := HA2.out
    have hC0 : t % 4096 = 4095 := by omega
    rw [hC0] at h2
    clear HA1 HA2 HO hB hC
    go_wp2
    refine bodyPost_ret (results_tmp2 rfl _ _ _) rfl ?_
    exact ⟨by rw [HR.out]; rfl, T2.out⟩
set_option maxRecDepth 100000 in
set_option maxHeartbeats 4000000 in
theorem cutAt_18 (f t : Nat) (hft : f ≤ t) (ht : t ≤ 1114111) (w : World) : Calls Tryd.prog 66 #[.agg #[.int .i64 (f : Nat), .int .i64 (t : Nat)], .int .i64 18] w fun e w' => e = .returned (cutV (cutL f t 18)) ∧ Touch (fun _ => False) w w' := by
  have B := hid (block_new w #[.int .i64 (f : Nat), .int .i64 (t : Nat)] 38)
  have TA := hid ((Touch.refl (fun _ => False) w).alloc (.cells #[.int .i64 (f : Nat), .int .i64 (t : Nat)] 38))
  have HA1 := hid (show bits .and .i64 (f : Int) 262143 = ((f % 262144 : Nat) : Int) from and_lowest f 18 (by omega) (by decide))
  have HA2 := hid (show bits .and .i64 (t : Int) 262143 = ((t % 262144 : Nat) : Int) from and_lowest t 18 (by omega) (by decide))
  have HO := hid (show bits .or .i64 (f : Int) 262143 = (((f / 262144 + 1) * 262144 - 1 : Nat) : Int) from or_lowest f 18 (by omega) (by decide))
  have hf0 : (0 : Int) ≤ (f : Int) := by omega
  have ht0 : (0 : Int) ≤ (t : Int) := by omega
  go_enter Tryd.func66, Tryd.ntmps66
  go_upto_region 2 with fail
  generalize (w.alloc (.cells #[.int .i64 (f : Nat), .int .i64 (t : Nat)] 38)) = w1 at *
  obtain ⟨q, hq⟩ : ∃ q, q = w.heap.size := ⟨_, rfl⟩
  rw [← hq] at B ⊢
  clear hq
  have c0 : w1.cell? ⟨q, 0, none⟩ = some (.int .i64 (f : Nat)) := by simp [World.cell?, B.out]
  have c1 : w1.cell? ⟨q, 1, none⟩ = some (.int .i64 (t : Nat)) := by simp [World.cell?, B.out]
  go_cut [10] (fun v wd => v = .bool (decide (f / 262144 = t / 262144)) ∧ ∃ n, wd = w1.drewN n)
  case first =>
    go_quiet (fail)
    go_wp2
    go_meet
    case rel => exact ⟨congrArg Value.bool (by rw [Bool.eq_iff_iff, beq_iff_eq, decide_eq_true_eq]; omega), _, rfl⟩
  obtain ⟨rfl, n, rfl⟩ := hcut
  have d0 : (w1.drewN n).cell? ⟨q, 0, none⟩ = some (.int .i64 (f : Nat)) := c0
  have d1 : (w1.drewN n).cell? ⟨q, 1, none⟩ = some (.int .i64 (t : Nat)) := c1
  have T2 := hid (TA.out.drewN n)
  clear c0 c1 B TA
  generalize w1.drewN n = w2 at *
  by_cases hA : f / 262144 = t / 262144
  · have HR := hid (show cutL f t 18 = none by unfold cutL; exact if_pos hA)
    rw [decide_eq_true hA]
    clear HA1 HA2 HO
    go_wp2
    refine bodyPost_ret (results_tmp2 rfl _ _ _) rfl ?_
    exact ⟨by rw [HR.out]; rfl, T2.out⟩
  rw [decide_eq_false hA]
  by_cases hB : f % 262144 ≠ 0
  · have HR := hid (show cutL f t 18 = some ((f / 262144 + 1) * 262144) by unfold cutL; rw [if_neg hA]; exact if_pos hB)
    have h1 := HA1.out
    have h2 : ¬ (((f % 262144 : Nat) : Int) = 0) := by omega
    have h3 := HO.out
    have HE := hid (show (((f / 262144 + 1) * 262144 - 1 : Nat) : Int) + 1 = (((f / 262144 + 1) * 262144 : Nat) : Int) by omega)
    have hsm : (f / 262144 + 1) * 262144 - 1 ≤ 4194304 := by omega
    generalize (f / 262144 + 1) * 262144 - 1 = y at *
    generalize f % 262144 = z at *
    clear HA1 HA2 HO
    go_wp2
    refine bodyPost_ret (results_tmp2 rfl _ _ _) rfl ?_
    exact ⟨by rw [HR.out]; unfold cutV; dsimp only; rw [← HE.out]; rfl, T2.out⟩
  have hB0 : f % 262144 = 0 := by omega
  by_cases hC : t % 262144 ≠ 262143
  · have HR := hid (show cutL f t 18 = some (t / 262144 * 262144) by unfold cutL; rw [if_neg hA, if_neg hB]; exact if_pos hC)
    have h1 := HA1.out
    rw [hB0] at h1
    have h2 := HA2.out
    have h3 : ¬ (((t % 262144 : Nat) : Int) = 262143) := by omega
    clear HA1 HA2 HO hB
    have h4 : bits .andNot .i64 (t : Int) 262143 = ((t / 262144 * 262144 : Nat) : Int) := andNot_lowest t 18 (by omega) (by decide)
    generalize t / 262144 * 262144 = y at *
    generalize t % 262144 = z at *
    go_wp2
    refine bodyPost_ret (results_tmp2 rfl _ _ _) rfl ?_
    exact ⟨by rw [HR.out]; rfl, T2.out⟩
  · have HR := hid (show cutL f t 18 = none by unfold cutL; rw [if_neg hA, if_neg hB]; exact if_neg hC)
    have h1 := HA1.out
    rw [hB0] at h1
    have h2 := HA2.out
    have hC0 : t % 262144 = 262143 := by omega
    rw [hC0] at h2
    clear HA1 HA2 HO hB hC
    go_wp2
    refine bodyPost_ret (results_tmp2 rfl _ _ _) rfl ?_
    exact ⟨by rw [HR.out]; rfl, T2.out⟩
theorem cutAt_any (f t k : Nat) (hk : k = 6 ∨ k = 12 ∨ k = 18) (hft : f ≤ t) (ht : t ≤ 1114111) (w : World) : Calls Tryd.prog 66 #[.agg #[.int .i64 (f : Nat), .int .i64 (t : Nat)], .int .i64 (k : Nat)] w fun e w' => e = .returned (cutV (cutL f t k)) ∧ Touch (fun _ => False) w w' := by
  rcases hk with rfl | rfl | rfl
  · exact cutAt_6 f t hft ht w
  · exact cutAt_12 f t hft ht w
  · exact cutAt_18 f t hft ht w
end Go.Proofs.YtmokfheckngfiaaDoor

/- common of two ranges; no condition. -/
namespace Go.Proofs.YtmokfheckngfiaaDoor.S
open Go.RowKit

theorem info33 : (Tryd.prog.info? 38).map (fun i => (i.zero, i.size, i.bytes)) = some (some (.agg #[.int .i64 0, .int .i64 0]), 2, 16) := by kernel_rfl

theorem ret_two {a b c d : Int} (h : a = c) (k : b = d) : Ending.returned (.agg #[.int .i64 a, .int .i64 b]) = .returned (.agg #[.int .i64 c, .int .i64 d]) := by rw [h, k]
theorem third_new (w : World) (o1 o2 o3 : Obj) : (((w.alloc o1).alloc o2).alloc o3).heap[w.heap.size + 1 + 1]? = some o3 := by
  show (((w.heap.push _).push _).push _)[_]? = _
  rw [Array.getElem?_push]
  simp
theorem three_new {w : World} (x y : Value) (t : TypeId) : (w.alloc (.cells #[x, y] t)).heap[w.heap.size]? = some (.cells #[x, y] t (0, 0)) := by
  show (w.heap.push _)[_]? = _
  simp

set_option maxRecDepth 100000 in
theorem common_any (a b c d : Int) (w : World) : Calls Tryd.prog 36 #[.agg #[.int .i64 a, .int .i64 b], .agg #[.int .i64 c, .int .i64 d]] w fun e w' => e = .returned (.agg #[.int .i64 (max a c), .int .i64 (min b d)]) ∧ Touch (fun _ => False) w w' := by
  go_enter Tryd.func36, Tryd.ntmps36
  go_wp2
  all_goals
    refine bodyPost_ret (results_c rfl _ _ (w.heap.size + 1 + 1) 38 _ (0, 0) _ rfl (third_new w _ _ _) Tryd.underlying38 rfl (by kernel_rfl)) rfl ⟨?_, (((Touch.refl _ w).alloc _).alloc _).alloc _⟩
    exact ret_two (by omega) (by omega)
end Go.Proofs.YtmokfheckngfiaaDoor.S

/- Rows of ranges in memory; no condition. -/
namespace Go.Proofs.YtmokfheckngfiaaDoor.S
open Go.RowKit

abbrev R2 := Int × Int
def encR (x : R2) : List Value := [.int .i64 x.1, .int .i64 x.2]
def flatR (l : List R2) : List Value := l.flatMap encR
theorem flatR_append (l m : List R2) : flatR (l ++ m) = flatR l ++ flatR m := by simp [flatR]
theorem length_flatR (l : List R2) : (flatR l).length = l.length * 2 := by
  induction l with
  | nil => rfl
  | cons x r ih => simp only [flatR, List.flatMap_cons, List.length_append, List.length_cons] at ih ⊢; rw [ih]; simp [encR]; omega
theorem flatR_get0 : ∀ (l : List R2) (i : Nat) (h : i < l.length), (flatR l)[2 * i]? = some (.int .i64 (l[i]).1)
  | x :: r, 0, _ => rfl
  | x :: r, i + 1, h => by
    have := flatR_get0 r i (by simpa using h)
    show (encR x ++ flatR r)[2 * (i + 1)]? = _
    rw [List.getElem?_append_right (by simp [encR]; omega)]
    simpa [encR, show 2 * (i + 1) - 2 = 2 * i by omega] using this
theorem flatR_get1 : ∀ (l : List R2) (i : Nat) (h : i < l.length), (flatR l)[2 * i + 1]? = some (.int .i64 (l[i]).2)
  | x :: r, 0, _ => rfl
  | x :: r, i + 1, h => by
    have := flatR_get1 r i (by simpa using h)
    show (encR x ++ flatR r)[2 * (i + 1) + 1]? = _
    rw [List.getElem?_append_right (by simp [encR]; omega)]
    simpa [encR, show 2 * (i + 1) + 1 - 2 = 2 * i + 1 by omega] using this
theorem flatR_one (l : List R2) : ∀ u ∈ flatR l, u.oneCell' = true := by
  intro u hu
  simp only [flatR, List.mem_flatMap, encR] at hu
  obtain ⟨x, _, hx⟩ := hu
  simp at hx
  rcases hx with rfl | rfl <;> rfl

theorem add_g (g j : Nat) : (⟨g, 0, none⟩ : Addr).add j = ⟨g, j, none⟩ := by
  unfold Addr.add
  split
  · rename_i h; rw [h]
  · rw [Nat.zero_add]

/-- A list of ranges in memory, as a walk is told of it. -/
def Rg (w : World) (a : Option Addr) (l : List R2) : Prop :=
  l = [] ∨ ∃ b o, a = some ⟨b, o, none⟩ ∧ b < w.heap.size ∧ ∀ i (h : i < l.length), w.cell? ⟨b, o + i * 2, none⟩ = some (.int .i64 (l[i]).1) ∧ w.cell? ⟨b, o + i * 2 + 1, none⟩ = some (.int .i64 (l[i]).2)

theorem Rg.kept {w w' : World} {S : Nat → Prop} {a : Option Addr} {l : List R2} (h : Rg w a l) (t : Touch S w w') (hs : ∀ b o, a = some ⟨b, o, none⟩ → b < w.heap.size → ¬ S b) : Rg w' a l := by
  rcases h with h | ⟨b, o, rfl, hb, hc⟩
  · exact .inl h
  · refine .inr ⟨b, o, rfl, Nat.lt_of_lt_of_le hb t.size, fun i hi => ?_⟩
    rw [t.cell (p := ⟨b, o + i * 2, none⟩) hb (hs b o rfl hb), t.cell (p := ⟨b, o + i * 2 + 1, none⟩) hb (hs b o rfl hb)]
    exact hc i hi
theorem Rg.new {w w' : World} {a : Option Addr} {l : List R2} (h : Rg w a l) (t : Touch (fun _ => False) w w') : Rg w' a l := h.kept t (fun _ _ _ _ e => e)
theorem own_rg {w : World} {base e : Nat} {v : Value} {l : List R2} (h : w.ownsRow base e 2 v l.length (flatR l)) : ∃ a c, v = .slice a l.length c ∧ Rg w a l := by
  rcases h.2 with ⟨rfl, h0⟩ | ⟨g, cap, cur, rfl, hg, hh, rest⟩
  · exact ⟨none, 0, by rw [h0], .inl (List.eq_nil_of_length_eq_zero h0)⟩
  · refine ⟨_, cap, rfl, .inr ⟨g, 0, rfl, lt_of_block hh, fun i hi => ?_⟩⟩
    have h1 := h.cells (g := g) rfl (2 * i) _ (flatR_get0 l i hi)
    have h2 := h.cells (g := g) rfl (2 * i + 1) _ (flatR_get1 l i hi)
    rw [add_g] at h1 h2
    rw [show 0 + i * 2 = 2 * i by omega]
    exact ⟨h1, h2⟩
end Go.Proofs.YtmokfheckngfiaaDoor.S
