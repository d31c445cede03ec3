/- turned: a code with its highest bit the lowest. -/
import Derived.Test.YtokelpnmeknncabPeek
namespace Go.Proofs.Ytokelpnmeknncab
open Go.RowKit

/-- The k lowest bits of x, the other way round. -/
def rev (x : Nat) : Nat → Nat
  | 0 => 0
  | k + 1 => 2 * rev x k + x / 2 ^ k % 2

theorem rev_lt (x : Nat) : ∀ k, rev x k < 2 ^ k
  | 0 => by simp [rev]
  | k + 1 => by have := rev_lt x k; rw [rev, Nat.pow_succ]; omega

theorem turn_step (x k : Nat) (hk : k < 15) : bits .or .i64 ((rev x k : Int) * 2) (bits .and .i64 ((x : Int) / 2 ^ k) 1) = ((rev x (k + 1) : Nat) : Int) := by
  have h := rev_lt x k
  have hp : 2 ^ k ≤ 2 ^ 15 := Nat.pow_le_pow_right (by decide) (by omega)
  have e1 : bits .and .i64 ((x : Int) / 2 ^ k) 1 = ((x / 2 ^ k % 2 : Nat) : Int) := by rw [i64_and1]; simp
  have e2 : (rev x k : Int) * 2 = ((rev x k * 2 : Nat) : Int) := by simp
  have hm := Nat.mod_lt (x / 2 ^ k) (show 2 > 0 by decide)
  rw [e1, e2, i64_or_nat _ _ (by omega) (by omega), nat_join 1 _ _ (by omega) (by omega), rev, Nat.mul_comm]

set_option maxHeartbeats 400000 in
theorem turned_any (x n : Nat) (w : World) (hn : n ≤ 15) :
    Calls Try.prog 40 #[.int .i64 x, .int .i64 n] w fun e w' => e = .returned (.int .i64 (rev x n : Nat)) ∧ w' = w := by
  go_enter Try.func40, Try.ntmps40
  go_wp2_with fail
  go_loop [5, 8] (fun b i => ∃ k : Nat, k ≤ n ∧ i = .int .i64 k ∧ b = .int .i64 (rev x k : Nat)) (fun _ i => n - (intOf i).toNat)
  case atStart => exact ⟨0, Nat.zero_le _, rfl, rfl⟩
  case round =>
    obtain ⟨k, hk, rfl, rfl⟩ := hrel
    by_cases hlt : k < n
    · have hst := turn_step x k (by omega)
      have hr := rev_lt x k
      have hp : 2 ^ k ≤ 2 ^ 15 := Nat.pow_le_pow_right (by decide) (by omega)
      have hrb : rev x k ≤ 32768 := by omega
      clear hr hp
      go_wp2
      go_round
      case rel => exact ⟨k + 1, by omega, by go_num, rfl⟩
      case measure => simp [intOf]; omega
    · obtain rfl : k = n := by omega
      go_wp2
      go_ret
      exact ⟨rfl, rfl⟩
end Go.Proofs.Ytokelpnmeknncab
