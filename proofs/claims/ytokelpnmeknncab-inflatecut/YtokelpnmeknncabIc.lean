/- Each length and each distance is told by just one symbol: plain counts; no condition. -/
import Derived.Test.YtokelpnmeknncabLd
namespace Go.Proofs.Ytokelpnmeknncab

def pl (L s : Nat) : Bool := decide (257 ≤ s ∧ s ≤ 285 ∧ lenN s ≤ L ∧ L < lenN s + 2 ^ lb s ∧ (s ≠ 284 ∨ L ≠ 258))
def pd (D s : Nat) : Bool := decide (s ≤ 29 ∧ dl s ≤ D ∧ D < dl s + 2 ^ db s)
def cnt (p : Nat → Bool) : Nat → Nat
  | 0 => 0
  | k + 1 => cnt p k + (p k).toNat
theorem cnt_le (p : Nat → Bool) : ∀ k, cnt p k ≤ k
  | 0 => Nat.le_refl _
  | k + 1 => by have := cnt_le p k; have := Bool.toNat_le (p k); simp only [cnt]; omega

theorem one_len : ∀ L, L < 259 → 3 ≤ L → cnt (pl L) 300 = 1 := by decide +kernel

theorem dl_pos : ∀ k, 1 ≤ dl k
  | 0 => Nat.le_refl _
  | k + 1 => by have := dl_pos k; rw [dl]; exact Nat.le_trans this (Nat.le_add_right _ _)

theorem cnt_dist (D : Nat) : ∀ k, k ≤ 30 → cnt (pd D) k = if 1 ≤ D ∧ D < dl k then 1 else 0
  | 0, _ => by
    rw [if_neg (by simp [dl]; omega)]
    rfl
  | k + 1, h => by
    have hp := dl_pos k
    have hs : dl (k + 1) = dl k + 2 ^ db k := rfl
    have hpw : 0 < 2 ^ db k := Nat.pow_pos (by decide)
    rw [cnt, cnt_dist D k (by omega)]
    by_cases h1 : 1 ≤ D ∧ D < dl k
    · rw [if_pos h1, if_pos (by omega)]
      have : pd D k = false := decide_eq_false (by omega)
      rw [this]
      rfl
    · rw [if_neg h1]
      by_cases h2 : dl k ≤ D ∧ D < dl k + 2 ^ db k
      · have : pd D k = true := decide_eq_true ⟨by omega, h2⟩
        rw [this, if_pos (by omega)]
        rfl
      · have : pd D k = false := decide_eq_false (by omega)
        rw [this, if_neg (by omega)]
        rfl

theorem cnt_past (D : Nat) : ∀ k, cnt (pd D) (30 + k) = cnt (pd D) 30
  | 0 => rfl
  | k + 1 => by
    have : pd D (30 + k) = false := decide_eq_false (by omega)
    rw [← Nat.add_assoc, cnt, cnt_past D k, this]
    rfl

theorem one_dist (D : Nat) (h1 : 1 ≤ D) (h2 : D ≤ 32768) : cnt (pd D) 300 = 1 := by
  have h := cnt_past D 270
  rw [show 30 + 270 = 300 by rfl] at h
  rw [h, cnt_dist D 30 (by omega)]
  have : dl 30 = 32769 := by decide
  rw [this, if_pos (by omega)]
end Go.Proofs.Ytokelpnmeknncab
