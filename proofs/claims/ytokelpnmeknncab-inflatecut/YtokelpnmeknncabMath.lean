/- Plain facts on rows of bits: their value as a number, and how they are packed into bytes, eight a byte, the lowest first; no condition. -/
namespace Go.Proofs.Ytokelpnmeknncab

def strOf (l : List Nat) : ByteArray := ⟨(l.map UInt8.ofNat).toArray⟩

theorem size_strOf (l : List Nat) : (strOf l).size = l.length := by simp [strOf, ByteArray.size]

def ibit (v : Int) (i : Nat) : Bool := v / 2 ^ i % 2 == 1

namespace Bt

def val : List Bool → Nat
  | [] => 0
  | c :: cs => c.toNat + 2 * val cs

theorem val_lt (l : List Bool) : val l < 2 ^ l.length := by
  induction l with
  | nil => simp [val]
  | cons c cs ih =>
    simp only [val, List.length_cons, Nat.pow_succ]
    have := Bool.toNat_le c
    omega

theorem val_append (l m : List Bool) : val (l ++ m) = val l + 2 ^ l.length * val m := by
  induction l with
  | nil => simp [val]
  | cons c cs ih =>
    simp only [List.cons_append, val, List.length_cons, Nat.pow_succ, ih]
    rw [Nat.mul_add, Nat.mul_comm (2 ^ cs.length) 2, Nat.mul_assoc]
    omega

theorem val_single (c : Bool) : val [c] = c.toNat := by simp [val]

theorem val_zeros (n : Nat) : val (List.replicate n false) = 0 := by
  induction n with
  | zero => rfl
  | succ n ih => simp [List.replicate_succ, val, ih]

def byteAt (bs : List Bool) (i : Nat) : Nat := val ((bs.drop (8 * i)).take 8)
def pack (bs : List Bool) : List Nat := (List.range ((bs.length + 7) / 8)).map (byteAt bs)

theorem byteAt_lt (bs : List Bool) (i : Nat) : byteAt bs i < 256 := by
  have h := val_lt ((bs.drop (8 * i)).take 8)
  have h2 : ((bs.drop (8 * i)).take 8).length ≤ 8 := by simp; omega
  have h3 : 2 ^ ((bs.drop (8 * i)).take 8).length ≤ 2 ^ 8 := Nat.pow_le_pow_right (by decide) h2
  unfold byteAt
  omega

theorem byteAt_last_lt (bs : List Bool) : byteAt bs (bs.length / 8) < 2 ^ (bs.length % 8) := by
  have h := val_lt ((bs.drop (8 * (bs.length / 8))).take 8)
  have h2 : ((bs.drop (8 * (bs.length / 8))).take 8).length = bs.length % 8 := by simp; omega
  rw [h2] at h
  exact h

theorem byteAt_snoc_low (bs : List Bool) (c : Bool) (i : Nat) (h : i < bs.length / 8) : byteAt (bs ++ [c]) i = byteAt bs i := by
  unfold byteAt
  rw [List.drop_append_of_le_length (by omega), List.take_append_of_le_length (by simp; omega)]

theorem byteAt_snoc_last (bs : List Bool) (c : Bool) : byteAt (bs ++ [c]) (bs.length / 8) = byteAt bs (bs.length / 8) + c.toNat * 2 ^ (bs.length % 8) := by
  unfold byteAt
  have hd : (bs.drop (8 * (bs.length / 8))).length = bs.length % 8 := by simp; omega
  rw [List.drop_append_of_le_length (by omega), List.take_of_length_le (by simp; omega), List.take_of_length_le (by omega), val_append, hd, val_single, Nat.mul_comm c.toNat]

theorem length_pack (bs : List Bool) : (pack bs).length = (bs.length + 7) / 8 := by simp [pack]

theorem pack_new (bs : List Bool) (c : Bool) (h : bs.length % 8 = 0) : pack (bs ++ [c]) = pack bs ++ [c.toNat] := by
  have e1 : (bs.length + 7) / 8 = bs.length / 8 := by omega
  have e2 : (bs.length + 1 + 7) / 8 = bs.length / 8 + 1 := by omega
  have hl := byteAt_snoc_last bs c
  have hz := byteAt_last_lt bs
  rw [h] at hl hz
  unfold pack
  simp only [List.length_append, List.length_cons, List.length_nil, Nat.zero_add, e1, e2, List.range_succ, List.map_append, List.map_cons, List.map_nil]
  rw [hl]
  congr 1
  · apply List.map_congr_left
    intro i hi
    exact byteAt_snoc_low bs c i (by simpa using hi)
  · simp only [List.cons.injEq, and_true]
    simp at hz ⊢
    omega

theorem pack_mid (bs : List Bool) (c : Bool) (h : bs.length % 8 ≠ 0) : pack (bs ++ [c]) = (pack bs).set (bs.length / 8) (byteAt bs (bs.length / 8) + c.toNat * 2 ^ (bs.length % 8)) := by
  have e1 : (bs.length + 7) / 8 = bs.length / 8 + 1 := by omega
  have e2 : (bs.length + 1 + 7) / 8 = bs.length / 8 + 1 := by omega
  have hl := byteAt_snoc_last bs c
  unfold pack
  simp only [List.length_append, List.length_cons, List.length_nil, Nat.zero_add, e1, e2, List.range_succ, List.map_append, List.map_cons, List.map_nil]
  rw [List.set_append_right _ _ (by simp), hl]
  congr 1
  · apply List.map_congr_left
    intro i hi
    exact byteAt_snoc_low bs c i (by simpa using hi)
  · simp

theorem pack_getD (bs : List Bool) (i : Nat) (h : i < (bs.length + 7) / 8) : (pack bs).getD i 0 = byteAt bs i := by
  simp [pack, h]

theorem pack_lt (bs : List Bool) : ∀ x ∈ pack bs, x < 256 := by
  intro x hx
  simp only [pack, List.mem_map] at hx
  obtain ⟨i, _, rfl⟩ := hx
  exact byteAt_lt bs i

theorem pack_nil : pack [] = [] := by simp [pack]

end Bt
end Go.Proofs.Ytokelpnmeknncab
