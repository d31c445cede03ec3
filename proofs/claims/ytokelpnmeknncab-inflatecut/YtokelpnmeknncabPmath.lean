/- Plain facts: what is packed is read again; no condition. -/
import Derived.Test.YtokelpnmeknncabRmath
namespace Go.Proofs.Ytokelpnmeknncab

namespace Bt

theorem val_bit (l : List Bool) : ∀ j, val l / 2 ^ j % 2 = (l.getD j false).toNat := by
  induction l with
  | nil => intro j; simp [val]
  | cons c cs ih =>
    intro j
    cases j with
    | zero =>
      have := Bool.toNat_le c
      simp [val]
      omega
    | succ j =>
      have h := ih j
      have hc := Bool.toNat_le c
      rw [Nat.pow_succ, Nat.mul_comm, ← Nat.div_div_eq_div_mul]
      simp only [val, List.getD_cons_succ]
      rw [show (c.toNat + 2 * val cs) / 2 = val cs by omega]
      exact h

theorem byteN_pack (bs : List Bool) (j : Nat) (h : j < (bs.length + 7) / 8) : byteN (strOf (pack bs)) j = byteAt bs j := by
  have hl : j < (pack bs).length := by rw [length_pack]; exact h
  have hlt := byteAt_lt bs j
  unfold byteN strOf
  simp only [Array.getD_eq_getD_getElem?, List.getElem?_toArray, List.getElem?_map, List.getElem?_eq_getElem hl, Option.map_some, Option.getD_some]
  rw [UInt8.toNat_ofNat', show (pack bs)[j] = byteAt bs j by simp [pack]]
  exact Nat.mod_eq_of_lt hlt

theorem bitAt_pack (bs : List Bool) (i : Nat) (h : i < bs.length) : bitAt (strOf (pack bs)) i = bs.getD i false := by
  unfold bitAt
  rw [byteN_pack bs _ (by omega)]
  unfold byteAt
  rw [val_bit]
  have : (((bs.drop (8 * (i / 8))).take 8).getD (i % 8) false) = bs.getD i false := by
    simp only [List.getD_eq_getElem?_getD]
    rw [List.getElem?_take_of_lt (by omega), List.getElem?_drop]
    congr 2
    omega
  rw [this]
  cases bs.getD i false <;> rfl

theorem rval_pack (bs : List Bool) (t k : Nat) (h : t + k ≤ bs.length) : rval (strOf (pack bs)) t k = val ((bs.drop t).take k) := by
  unfold rval
  congr 1
  apply List.ext_getElem
  · simp; omega
  · intro i h1 h2
    simp at h1
    simp only [List.getElem_map, List.getElem_range, List.getElem_take, List.getElem_drop]
    rw [bitAt_pack bs _ (by omega)]
    simp [List.getD_eq_getElem?_getD, List.getElem?_eq_getElem (show t + i < bs.length by omega)]

theorem val_ibit (v : Int) : ∀ k, ((val ((List.range k).map (ibit v)) : Nat) : Int) = v % 2 ^ k := by
  intro k
  induction k with
  | zero => simp [val, Int.emod_one]
  | succ k ih =>
    rw [List.range_succ, List.map_append, val_append]
    simp only [List.map_cons, List.map_nil, val_single, List.length_map, List.length_range]
    have hp : (0 : Int) < 2 ^ k := by
      have : ((2 ^ k : Nat) : Int) = (2 : Int) ^ k := by simp
      rw [← this]
      exact_mod_cast Nat.pow_pos (by decide)
    have hb : (((ibit v k).toNat : Nat) : Int) = v / 2 ^ k % 2 := by
      unfold ibit
      rcases Int.emod_two_eq (v / 2 ^ k) with h | h <;> simp [h]
    rw [Int.natCast_add, ih, Int.natCast_mul, hb]
    simp only [Int.natCast_pow, Int.cast_ofNat_Int]
    rw [Int.pow_succ]
    have h1 := Int.mul_ediv_add_emod v (2 ^ k)
    have h2 := Int.mul_ediv_add_emod (v / 2 ^ k) 2
    have h3 := Int.mul_ediv_add_emod v (2 ^ k * 2)
    rw [← Int.ediv_ediv_of_nonneg (by omega)] at h3
    have h4 : 2 ^ k * (v / 2 ^ k) = 2 ^ k * (2 * (v / 2 ^ k / 2)) + 2 ^ k * (v / 2 ^ k % 2) := by rw [← Int.mul_add, h2]
    have h5 : 2 ^ k * 2 * (v / 2 ^ k / 2) = 2 ^ k * (2 * (v / 2 ^ k / 2)) := by rw [Int.mul_assoc]
    omega

end Bt
end Go.Proofs.Ytokelpnmeknncab
