/- Peek of a reader. -/
import Derived.Test.YtokelpnmeknncabRd
namespace Go.Proofs.Ytokelpnmeknncab
open Go.RowKit

theorem ret_two {i j : IntKind} {a b c d : Int} (h : a = c) (k : b = d) : Ending.returned (.tuple #[.int i a, .int j b]) = .returned (.tuple #[.int i c, .int j d]) := by rw [h, k]

theorem wraps_i64 (n : Int) (h₀ : 0 ≤ n) (h₁ : n < 2 ^ 62) : IntKind.i64.wrap n = n := by rw [IntKind.wrap_i64]; omega

theorem i64_or_nat (a b : Nat) (ha : a < 2 ^ 62) (hb : b < 2 ^ 62) : bits .or .i64 (a : Int) (b : Int) = ((a ||| b : Nat) : Int) :=
  (bits_nat .i64 62 (by decide) wraps_i64 a b ha hb).2

theorem byte_get (s : ByteArray) (i : Nat) (h : i < s.size) : s[i].toNat = Bt.byteN s i := by
  unfold Bt.byteN
  have : i < s.data.size := h
  unfold Array.getD
  rw [dif_pos this]
  rfl

theorem peek_or (s : ByteArray) (f k : Nat) (hk : k ≤ 4) (h : f + k < s.size) :
    bits .or .i64 (Bt.rval s (8 * f) (8 * k) : Nat) (wrap64 (wrap64 ((s[f + k].toNat : Nat) : Int) * 2 ^ (8 * k))) = ((Bt.rval s (8 * f) (8 * (k + 1)) : Nat) : Int) := by
  have hv := Bt.rval_lt s (8 * f) (8 * k)
  have hb := Bt.byteN_lt s (f + k)
  have hp : 2 ^ (8 * k) ≤ 2 ^ 32 := Nat.pow_le_pow_right (by decide) (by omega)
  have hm : Bt.byteN s (f + k) * 2 ^ (8 * k) < 2 ^ 40 := by
    calc Bt.byteN s (f + k) * 2 ^ (8 * k) ≤ 255 * 2 ^ 32 := Nat.mul_le_mul (by omega) hp
      _ < 2 ^ 40 := by decide
  rw [byte_get s _ h]
  have e1 : wrap64 ((Bt.byteN s (f + k) : Nat) : Int) = ((Bt.byteN s (f + k) : Nat) : Int) := by unfold wrap64; omega
  have e2 : wrap64 (((Bt.byteN s (f + k) : Nat) : Int) * 2 ^ (8 * k)) = ((Bt.byteN s (f + k) * 2 ^ (8 * k) : Nat) : Int) := by
    have : ((Bt.byteN s (f + k) * 2 ^ (8 * k) : Nat) : Int) = ((Bt.byteN s (f + k) : Nat) : Int) * 2 ^ (8 * k) := by simp
    rw [← this]
    unfold wrap64
    omega
  rw [e1, e2, i64_or_nat _ _ (by omega) (by omega), Nat.or_comm, nat_join (8 * k) _ _ (by simp) hv]
  rw [show 8 * (k + 1) = 8 * k + 8 by omega, Bt.rval_add, show 8 * f + 8 * k = 8 * (f + k) by omega, Bt.rval_byte, Nat.mul_comm, Nat.add_comm]

theorem peek_and (v d m : Nat) (hm : m ≤ 32) : bits .and .i64 (((v : Nat) : Int) / 2 ^ d) (wrap64 (wrap64 (2 ^ m) - 1)) = ((v / 2 ^ d % 2 ^ m : Nat) : Int) := by
  have hp : 2 ^ m ≤ 2 ^ 32 := Nat.pow_le_pow_right (by decide) hm
  have hp0 : 0 < 2 ^ m := Nat.pow_pos (by decide)
  have hc : (2 : Int) ^ m = ((2 ^ m : Nat) : Int) := by simp
  have e : wrap64 (wrap64 (2 ^ m) - 1) = 2 ^ m - 1 := by rw [hc]; unfold wrap64; omega
  rw [e, i64_and_mask _ m (by omega)]
  simp

set_option maxHeartbeats 1000000 in
theorem peek_yes (b : Nat) (s : ByteArray) (t n : Nat) (w : World) (r : Rd w b s t) (hs : s.size ≤ 140737488355328) (ht : t ≤ 8 * s.size) (hn : n ≤ 32) :
    Calls Try.prog 28 #[.pointer (some ⟨b, 0, none⟩), .int .i64 n] w fun e w' => e = .returned (.tuple #[.int .i64 (Bt.rval s t (min n (8 * s.size - t))), .int .i64 (min n (8 * s.size - t) : Nat)]) ∧ Still w w' := by
  obtain ⟨m, hm⟩ : ∃ m, min n (8 * s.size - t) = m := ⟨_, rfl⟩
  have hml : m ≤ 32 ∧ m ≤ 8 * s.size - t := by omega
  have HM : Hid _ := hm
  rw [hm]
  clear hm
  go_enter Try.func28, Try.ntmps28
  go_wp2_with (first | (go_at_call 26; refine (fits_yes _ _ (by omega) (by omega)).mono ?_; rintro e w ⟨rfl, rfl⟩))
  refine (left_any b s t _ r hs ht).mono ?_
  rintro e w1 ⟨rfl, hw1⟩
  have HS : Hid _ := hw1
  have r1 := hw1.rd r
  have c0 := r1.c0
  have c1 := r1.c1
  clear r r1 hw1
  by_cases hle : (n : Int) ≤ 8 * (s.size : Int) - t
  all_goals
    go_wp2_with fail
    first
      | (have hmn : m = n := by have := HM.out; omega
         subst hmn)
      | rw [show 8 * (s.size : Int) - (t : Int) = (m : Int) by have := HM.out; omega]
    clear hle
    go_region
    all_goals go_wp2_with fail
    refine (whole_any _ _ (by omega) (by omega)).mono ?_
    rintro e w2 ⟨rfl, rfl⟩
    obtain ⟨c, hc⟩ : ∃ c : Nat, (t % 8 + m + 7) / 8 = c := ⟨_, rfl⟩
    rw [show ((t : Int) % 8 + (m : Int) + 7) / 8 = (c : Int) by omega]
    have HC : Hid _ := hc
    have hcs : t / 8 + c ≤ s.size := by omega
    have hc5 : c ≤ 5 := by omega
    clear hc
    go_wp2_with fail
    go_loop [9, 36] (fun v i => ∃ k : Nat, k ≤ c ∧ i = .int .i64 k ∧ v = .int .i64 (Bt.rval s (8 * (t / 8)) (8 * k))) (fun _ i => c - (intOf i).toNat)
    case atStart => exact ⟨0, Nat.zero_le _, rfl, rfl⟩
    case round =>
      obtain ⟨k, hk, rfl, rfl⟩ := hrel
      by_cases hlt : k < c
      · have hix : t / 8 + k < s.size := by omega
        go_wp2
        go_round
        case rel => exact ⟨k + 1, by omega, by go_num, by rw [peek_or s (t / 8) k (by omega) hix]⟩
        case measure => simp [intOf]; omega
      · obtain rfl : k = c := by omega
        go_wp2
        go_region
        all_goals go_wp2
        all_goals go_ret2
        all_goals exact ⟨ret_two (by rw [peek_and _ _ _ hml.1, Bt.rval_peek s t m k (by have := HC.out; omega)]) rfl, HS.out.drew.drew⟩
end Go.Proofs.Ytokelpnmeknncab
