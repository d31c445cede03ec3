/- The document's answer: Bit and Value. -/
import Derived.Test.YtcpjbagljpohnaaPeek
namespace Go.Proofs.Ytcpjbagljpohnaa
open Go.RowKit

theorem ret_int {k : IntKind} {a b : Int} (h : a = b) : Ending.returned (.int k a) = .returned (.int k b) := by rw [h]

theorem bitAt_past (s : ByteArray) (k : Nat) (h : s.size ≤ k / 8) : Bt.bitAt s k = false := by
  have : ¬ k / 8 < s.data.size := by have : s.data.size = s.size := rfl; omega
  unfold Bt.bitAt Bt.byteN Array.getD
  rw [dif_neg this]
  simp

theorem bit_here (s : ByteArray) (k : Nat) (h : k / 8 < s.size) : bits .and .i64 (wrap64 ((s[k / 8].toNat : Nat) : Int) / 2 ^ (k % 8)) 1 = (((Bt.bitAt s k).toNat : Nat) : Int) := by
  have hb := Bt.byteN_lt s (k / 8)
  rw [byte_get s _ h, i64_and1, show wrap64 ((Bt.byteN s (k / 8) : Nat) : Int) = ((Bt.byteN s (k / 8) : Nat) : Int) by unfold wrap64; omega]
  unfold Bt.bitAt
  rw [Bt.bit_toNat]
  simp

set_option maxHeartbeats 400000 in
theorem rbit_any (s : ByteArray) (k : Nat) (w : World) (hk : k < 1125899906842624) (hs : s.size ≤ 140737488355328) :
    Calls Try.prog 20 #[.string s, .int .i64 k] w fun e w' => e = .returned (.int .i64 ((Bt.bitAt s k).toNat : Nat)) ∧ w' = w := by
  by_cases h : k / 8 < s.size
  · have hb := bit_here s k h
    go_enter Try.func20, Try.ntmps20
    go_wp2
    go_ret
    exact ⟨rfl, rfl⟩
  · rw [bitAt_past s k (by omega)]
    go_enter Try.func20, Try.ntmps20
    go_wp2
    go_ret
    exact ⟨rfl, rfl⟩

set_option maxHeartbeats 400000 in
theorem rvalue_any (s : ByteArray) (k n : Nat) (w : World) (hn : n ≤ 32) (hk : k + n ≤ 1125899906842624) (hs : s.size ≤ 140737488355328) :
    Calls Try.prog 13 #[.string s, .int .i64 k, .int .i64 n] w fun e w' => e = .returned (.int .i64 (Bt.rval s k n : Nat)) ∧ w' = w := by
  go_enter Try.func13, Try.ntmps13
  go_wp2
  go_loop [7, 8] (fun v i => ∃ j : Nat, j ≤ n ∧ i = .int .i64 (j - 1) ∧ v = .int .i64 (Bt.rval s (k + j) (n - j) : Nat)) (fun _ i => (intOf i + 1).toNat)
  case atStart => exact ⟨n, Nat.le_refl _, rfl, by rw [Nat.sub_self]; rfl⟩
  case round =>
    obtain ⟨j, hj, rfl, rfl⟩ := hrel
    by_cases h0 : j = 0
    · subst h0
      go_wp2
      go_ret
      exact ⟨rfl, rfl⟩
    · obtain ⟨i, rfl⟩ : ∃ i, j = i + 1 := ⟨j - 1, by omega⟩
      have hge : (0 : Int) ≤ ((i + 1 : Nat) : Int) - 1 := by omega
      have hr := Bt.rval_lt s (k + (i + 1)) (n - (i + 1))
      have hp : 2 ^ (n - (i + 1)) ≤ 2 ^ 32 := Nat.pow_le_pow_right (by decide) (by omega)
      have hrb : Bt.rval s (k + (i + 1)) (n - (i + 1)) ≤ 4294967296 := by omega
      have hc := Bt.rval_cons s (k + i) (n - (i + 1))
      rw [show n - (i + 1) + 1 = n - i by omega, show k + i + 1 = k + (i + 1) by omega] at hc
      have HC : Hid _ := hc
      generalize Bt.rval s (k + (i + 1)) (n - (i + 1)) = r at *
      have hbb := Bool.toNat_le (Bt.bitAt s (k + i))
      clear hr hp hc h0
      go_wp2_with fail
      rw [show (k : Int) + (i : Int) = ((k + i : Nat) : Int) by omega]
      refine (rbit_any s (k + i) _ (by omega) hs).mono ?_
      rintro e w1 ⟨rfl, rfl⟩
      go_wp2
      go_round
      case rel => exact ⟨i, by omega, by go_num, by rw [HC.out]; go_num⟩
      case measure => simp [intOf]
end Go.Proofs.Ytcpjbagljpohnaa
