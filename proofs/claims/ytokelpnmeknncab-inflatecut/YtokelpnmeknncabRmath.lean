/- Plain facts on the bits of a string: the number of some of them; no condition. -/
import Derived.Test.YtokelpnmeknncabMath
namespace Go.Proofs.Ytokelpnmeknncab
namespace Bt

def byteN (s : ByteArray) (j : Nat) : Nat := (s.data.getD j 0).toNat
def bitAt (s : ByteArray) (k : Nat) : Bool := byteN s (k / 8) / 2 ^ (k % 8) % 2 == 1
def rval (s : ByteArray) (k n : Nat) : Nat := val ((List.range n).map fun i => bitAt s (k + i))

theorem byteN_lt (s : ByteArray) (j : Nat) : byteN s j < 256 := by
  unfold byteN
  exact UInt8.toNat_lt _

theorem rval_zero (s : ByteArray) (k : Nat) : rval s k 0 = 0 := rfl

theorem rval_lt (s : ByteArray) (k n : Nat) : rval s k n < 2 ^ n := by
  have := val_lt ((List.range n).map fun i => bitAt s (k + i))
  simpa [rval] using this

theorem rval_add (s : ByteArray) (k m n : Nat) : rval s k (m + n) = rval s k m + 2 ^ m * rval s (k + m) n := by
  unfold rval
  rw [List.range_add, List.map_append, val_append]
  simp [Function.comp_def, Nat.add_assoc]

theorem rval_one (s : ByteArray) (k : Nat) : rval s k 1 = (bitAt s k).toNat := by simp [rval, val]

theorem rval_cons (s : ByteArray) (k n : Nat) : rval s k (n + 1) = (bitAt s k).toNat + 2 * rval s (k + 1) n := by
  rw [Nat.add_comm n 1, rval_add, rval_one, Nat.pow_one]

theorem rval_div (s : ByteArray) (k m n : Nat) : rval s k (m + n) / 2 ^ m = rval s (k + m) n := by
  rw [rval_add, Nat.add_mul_div_left _ _ (Nat.pow_pos (by decide)), Nat.div_eq_of_lt (rval_lt s k m), Nat.zero_add]

theorem rval_mod (s : ByteArray) (k m n : Nat) : rval s k (m + n) % 2 ^ m = rval s k m := by
  rw [rval_add, Nat.add_mul_mod_self_left, Nat.mod_eq_of_lt (rval_lt s k m)]

theorem bit_toNat (x : Nat) : (x % 2 == 1).toNat = x % 2 := by
  rcases Nat.mod_two_eq_zero_or_one x with h | h <;> simp [h]

theorem bits8 : ∀ x : Fin 256, x.val / 1 % 2 + 2 * (x.val / 2 % 2 + 2 * (x.val / 4 % 2 + 2 * (x.val / 8 % 2 + 2 * (x.val / 16 % 2 + 2 * (x.val / 32 % 2 + 2 * (x.val / 64 % 2 + 2 * (x.val / 128 % 2 + 2 * 0))))))) = x.val := by decide +kernel

theorem rval_byte (s : ByteArray) (j : Nat) : rval s (8 * j) 8 = byteN s j := by
  have hb := byteN_lt s j
  have e : ∀ i, i < 8 → (bitAt s (8 * j + i)).toNat = byteN s j / 2 ^ i % 2 := by
    intro i hi
    unfold bitAt
    rw [show (8 * j + i) / 8 = j by omega, show (8 * j + i) % 8 = i by omega, bit_toNat]
  have h0 := e 0 (by decide)
  have h1 := e 1 (by decide)
  have h2 := e 2 (by decide)
  have h3 := e 3 (by decide)
  have h4 := e 4 (by decide)
  have h5 := e 5 (by decide)
  have h6 := e 6 (by decide)
  have h7 := e 7 (by decide)
  simp only [Nat.reducePow] at h0 h1 h2 h3 h4 h5 h6 h7
  simp only [rval, show List.range 8 = [0, 1, 2, 3, 4, 5, 6, 7] from rfl, List.map_cons, List.map_nil, val, h0, h1, h2, h3, h4, h5, h6, h7]
  exact bits8 ⟨byteN s j, hb⟩

/-- What Peek gathers: the bytes from one on, shifted, and the lowest bits of that. -/
theorem rval_peek (s : ByteArray) (t n c : Nat) (h : t % 8 + n ≤ 8 * c) : rval s (8 * (t / 8)) (8 * c) / 2 ^ (t % 8) % 2 ^ n = rval s t n := by
  obtain ⟨r, hr⟩ : ∃ r, 8 * c = t % 8 + (n + r) := ⟨8 * c - t % 8 - n, by omega⟩
  rw [hr, rval_div, rval_mod, show 8 * (t / 8) + t % 8 = t by omega]

end Bt
end Go.Proofs.Ytokelpnmeknncab
