/- Put and Code of a writer. -/
import Derived.Test.YtcpjbagljpohnaaBitB
import Derived.BigQuiet
namespace Go.Proofs.Ytcpjbagljpohnaa
open Go.RowKit

def fitsB (n : Int) : Bool := decide (0 ≤ n) && decide (n ≤ 32)

theorem fits_yes (n : Int) (w : World) (h0 : 0 ≤ n) (h1 : n ≤ 32) :
    Calls Try.prog 24 #[.int .i64 n] w fun e w' => e = .returned (.bool true) ∧ w' = w := by
  go_enter Try.func24, Try.ntmps24
  go_wp2
  go_ret
  exact ⟨rfl, rfl⟩

theorem fits_no (n : Int) (w : World) (h : n < 0 ∨ 32 < n) :
    Calls Try.prog 24 #[.int .i64 n] w fun e w' => e = .returned (.bool false) ∧ w' = w := by
  rcases h with h | h
  · go_enter Try.func24, Try.ntmps24
    go_wp2
    go_ret
    exact ⟨rfl, rfl⟩
  · have h' : 0 ≤ n := by omega
    have hd : decide (n ≤ 32) = false := by simp; omega
    go_enter Try.func24, Try.ntmps24
    go_wp2
    go_ret
    exact ⟨by rw [← hd]; rfl, rfl⟩

theorem i64_and_mask (n : Int) (m : Nat) (hm : m ≤ 62) : bits .and .i64 n (2 ^ m - 1) = n % 2 ^ m := by
  have hp : (2 ^ m : Nat) ≤ 2 ^ 62 := Nat.pow_le_pow_right (by decide) hm
  have hp0 : 0 < (2 ^ m : Nat) := Nat.pow_pos (by decide)
  have hc : (2 : Int) ^ m = ((2 ^ m : Nat) : Int) := by simp
  have hd : (2 ^ m : Nat) ∣ 2 ^ 64 := Nat.pow_dvd_pow 2 (by omega)
  rw [hc]
  have h1 : (BitVec.ofInt 64 (((2 ^ m : Nat) : Int) - 1)).toNat = 2 ^ m - 1 := by
    rw [BitVec.toNat_ofInt]
    omega
  have key : (BitVec.ofInt 64 n &&& BitVec.ofInt 64 (((2 ^ m : Nat) : Int) - 1)).toNat = (n % ((2 ^ 64 : Nat) : Int)).toNat % 2 ^ m := by
    rw [BitVec.toNat_and, BitVec.toNat_ofInt, h1, Nat.and_two_pow_sub_one_eq_mod]
  show IntKind.i64.wrap ((BitVec.ofInt 64 n &&& BitVec.ofInt 64 (((2 ^ m : Nat) : Int) - 1)).toNat : Nat) = _
  have hlt : (n % ((2 ^ 64 : Nat) : Int)).toNat % 2 ^ m < 2 ^ m := Nat.mod_lt _ hp0
  have e1 : (((n % ((2 ^ 64 : Nat) : Int)).toNat % 2 ^ m : Nat) : Int) = n % ((2 ^ m : Nat) : Int) := by
    rw [Int.natCast_emod, Int.toNat_of_nonneg (Int.emod_nonneg _ (by decide)), Int.emod_emod_of_dvd _ (by exact_mod_cast hd)]
  rw [key, e1, IntKind.wrap_i64]
  have h2 := Int.emod_nonneg n (b := ((2 ^ m : Nat) : Int)) (by omega)
  have h3 := Int.emod_lt_of_pos n (b := ((2 ^ m : Nat) : Int)) (by omega)
  omega

theorem i64_and1 (n : Int) : bits .and .i64 n 1 = n % 2 := i64_and_mask n 1 (by decide)

set_option maxHeartbeats 400000 in
theorem put_yes (b : Nat) (bs : List Bool) (v : Int) (n : Nat) (w : World) (h : Wr w b bs) (hlen : bs.length + n < 1125899906842624) (hn : n ≤ 32) :
    Calls Try.prog 21 #[.pointer (some ⟨b, 0, none⟩), .int .i64 v, .int .i64 n] w fun e w' => e = .returned (.tuple #[]) ∧ WStep w w' b (bs ++ (List.range n).map (ibit v)) := by
  go_enter Try.func21, Try.ntmps21
  go_wp2_with (go_at_call 24; refine (fits_yes _ _ (by omega) (by omega)).mono ?_; rintro e w ⟨rfl, rfl⟩)
  go_loopw [15] (fun i wr => ∃ k : Nat, k ≤ n ∧ i = .int .i64 k ∧ WStep w wr b (bs ++ (List.range k).map (ibit v))) (fun i _ => n - (intOf i).toNat)
  case atStart => exact ⟨0, Nat.zero_le _, rfl, by simpa using WStep.refl h⟩
  case round =>
    obtain ⟨k, hk, rfl, hst⟩ := hrel
    by_cases hlt : k < n
    · go_wp2_with fail
      rw [i64_and1]
      have hm := Int.emod_nonneg (v / 2 ^ k) (b := 2) (by decide)
      have hm' := Int.emod_lt_of_pos (v / 2 ^ k) (b := 2) (by decide)
      refine (bit_any b _ (v / 2 ^ k % 2) _ hst.wr (by simp; omega) hm (by omega)).mono ?_
      rintro e w1 ⟨rfl, hst1⟩
      have H : Hid _ := hst.trans hst1
      clear hst hst1 hm hm'
      go_wp2
      go_roundw
      case rel => exact ⟨k + 1, by omega, by go_num, by have := H.out; rw [List.append_assoc] at this; rw [List.range_succ, List.map_append]; exact this⟩
      case measure => simp [intOf]; omega
    · obtain rfl : k = n := by omega
      go_wp2
      go_end0
      exact ⟨rfl, hst⟩
end Go.Proofs.Ytcpjbagljpohnaa
