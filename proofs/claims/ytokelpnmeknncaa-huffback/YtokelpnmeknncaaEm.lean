/- Even's lengths make a table; condition: at most 1024 symbols are used. -/
import Derived.Test.YtokelpnmeknncaaEv
namespace Go.Proofs.Ytokelpnmeknncaa
open Go.RowKit

theorem even_rm (u : Nat → Bool) (m k sh P : Nat) (hk : 1 ≤ k) (hk14 : k ≤ 14) (hsh : sh = 2 ^ (k + 1) - m) (hP : P = 2 ^ (14 - k)) : ∀ n, rm (evenLen u m k) n = min (cntb u n) sh * (2 * P) + (cntb u n - sh) * P ∧ usedTo (evenLen u m k) n = cntb u n
  | 0 => by simp [rm, usedTo, cntb]
  | n + 1 => by
    obtain ⟨h1, h2⟩ := even_rm u m k sh P hk hk14 hsh hP n
    rw [rm, usedTo, cntb, h1, h2]
    cases hu : u n
    · simp [evenLen, hu]
    · have hmax : max k 1 = k := by omega
      by_cases hs : cntb u n < sh
      · have hf : evenLen u m k n = k := by rw [evenLen, if_neg (by simp [hu]), ← hsh, if_pos hs, hmax]
        have e1 : 2 ^ (15 - k) = 2 * P := by rw [hP, show 15 - k = 14 - k + 1 by omega, Nat.pow_succ, Nat.mul_comm]
        have e2 : min (cntb u n + 1) sh = cntb u n + 1 := by omega
        have e3 : min (cntb u n) sh = cntb u n := by omega
        have e4 : cntb u n + 1 - sh = 0 := by omega
        have e5 : cntb u n - sh = 0 := by omega
        rw [hf, if_neg (by omega), if_neg (by omega), e1, Bool.toNat_true, e2, e3, e4, e5, Nat.add_mul]
        omega
      · have hf : evenLen u m k n = k + 1 := by rw [evenLen, if_neg (by simp [hu]), ← hsh, if_neg hs]
        have e1 : 2 ^ (15 - (k + 1)) = P := by rw [hP, show 15 - (k + 1) = 14 - k by omega]
        have e2 : min (cntb u n + 1) sh = sh := by omega
        have e3 : min (cntb u n) sh = sh := by omega
        have e4 : cntb u n + 1 - sh = cntb u n - sh + 1 := by omega
        rw [hf, if_neg (by omega), if_neg (by omega), e1, Bool.toNat_true, e2, e3, e4, Nat.add_mul]
        omega

/-- One symbol alone. -/
theorem even_one (u : Nat → Bool) : ∀ n, cntb u n ≤ 1 → rm (evenLen u 1 0) n = cntb u n * 16384 ∧ usedTo (evenLen u 1 0) n = cntb u n
  | 0, _ => by simp [rm, usedTo, cntb]
  | n + 1, h => by
    rw [cntb] at h
    obtain ⟨h1, h2⟩ := even_one u n (by omega)
    rw [rm, usedTo, cntb, h1, h2]
    cases hu : u n
    · simp [evenLen, hu]
    · rw [hu] at h
      simp at h
      simp [evenLen, hu, h]

theorem even_err (u : Nat → Bool) (m k len : Nat) (hm : cntb u len = m) (h1 : 1 ≤ m) (h2 : m ≤ 1024) (hk : 2 ^ k ≤ m) (hk2 : m < 2 ^ (k + 1)) : errOf (evenLen u m k) len = 0 := by
  rcases Nat.eq_zero_or_pos k with rfl | hk0
  · obtain rfl : m = 1 := by simp at hk2; omega
    obtain ⟨a1, a2⟩ := even_one u len (by omega)
    rw [hm] at a1 a2
    unfold errOf
    rw [a1, a2]
    decide
  · have hk10 : k ≤ 10 := by
      rcases Nat.lt_or_ge 10 k with h | h
      · have : 2 ^ 11 ≤ 2 ^ k := Nat.pow_le_pow_right (by decide) h
        omega
      · exact h
    obtain ⟨a1, a2⟩ := even_rm u m k _ _ hk0 (by omega) rfl rfl len
    have hp : 2 ^ (k + 1) = 2 * 2 ^ k := by rw [Nat.pow_succ, Nat.mul_comm]
    have e : rm (evenLen u m k) len = 32768 := by
      rw [a1, hm, show min m (2 ^ (k + 1) - m) = 2 ^ (k + 1) - m by omega, ← Nat.mul_assoc, ← Nat.add_mul, show (2 ^ (k + 1) - m) * 2 + (m - (2 ^ (k + 1) - m)) = 2 ^ (k + 1) by omega, ← Nat.pow_add, show k + 1 + (14 - k) = 15 by omega]
    unfold errOf
    rw [e, if_neg (by omega), if_neg (by omega)]

theorem even_le (u : Nat → Bool) (m k i : Nat) (hk : k ≤ 14) : evenLen u m k i ≤ 15 := by
  unfold evenLen
  split
  · omega
  · split <;> omega

theorem none_err (len : Nat) : errOf (fun _ => 0) len = 0 := by
  have h : ∀ n, rm (fun _ => 0) n = 0 ∧ usedTo (fun _ => 0) n = 0 := by
    intro n
    induction n with
    | zero => exact ⟨rfl, rfl⟩
    | succ n ih => simp [rm, usedTo, ih.1, ih.2]
  unfold errOf
  rw [(h len).1, (h len).2]
  decide
end Go.Proofs.Ytokelpnmeknncaa
