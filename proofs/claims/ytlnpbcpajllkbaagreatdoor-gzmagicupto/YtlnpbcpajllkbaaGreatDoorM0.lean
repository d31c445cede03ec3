/- Texts of this proof, one behind the other: what each says stands ahead of it. -/
/- Plain facts on rows of bits: their value as a number, and how they are packed into bytes, eight a byte, the lowest first; no condition. -/
namespace Go.Proofs.YtlnpbcpajllkbaaGreatDoor

def strOf (l : List Nat) : ByteArray := ⟨(l.map UInt8.ofNat).toArray⟩

theorem size_strOf (l : List Nat) : (strOf l).size = l.length := by simp [strOf, ByteArray.size]

def ibit (v : Int) (i : Nat) : Bool := v / 2 ^ i % 2 == 1

namespace Bt

def val : List Bool → Nat
  | [] => 0
  | c :: cs => c.toNat + 2 * val cs

theorem val_lt (l : List Bool) : val l < 2 ^ l.length := by
  induction l with
  | nil => simp [val]
  | cons c cs ih =>
    simp only [val, List.length_cons, Nat.pow_succ]
    have := Bool.toNat_le c
    omega

theorem val_append (l m : List Bool) : val (l ++ m) = val l + 2 ^ l.length * val m := by
  induction l with
  | nil => simp [val]
  | cons c cs ih =>
    simp only [List.cons_append, val, List.length_cons, Nat.pow_succ, ih]
    rw [Nat.mul_add, Nat.mul_comm (2 ^ cs.length) 2, Nat.mul_assoc]
    omega

theorem val_single (c : Bool) : val [c] = c.toNat := by simp [val]

theorem val_zeros (n : Nat) : val (List.replicate n false) = 0 := by
  induction n with
  | zero => rfl
  | succ n ih => simp [List.replicate_succ, val, ih]

def byteAt (bs : List Bool) (i : Nat) : Nat := val ((bs.drop (8 * i)).take 8)
def pack (bs : List Bool) : List Nat := (List.range ((bs.length + 7) / 8)).map (byteAt bs)

theorem byteAt_lt (bs : List Bool) (i : Nat) : byteAt bs i < 256 := by
  have h := val_lt ((bs.drop (8 * i)).take 8)
  have h2 : ((bs.drop (8 * i)).take 8).length ≤ 8 := by simp; omega
  have h3 : 2 ^ ((bs.drop (8 * i)).take 8).length ≤ 2 ^ 8 := Nat.pow_le_pow_right (by decide) h2
  unfold byteAt
  omega

theorem byteAt_last_lt (bs : List Bool) : byteAt bs (bs.length / 8) < 2 ^ (bs.length % 8) := by
  have h := val_lt ((bs.drop (8 * (bs.length / 8))).take 8)
  have h2 : ((bs.drop (8 * (bs.length / 8))).take 8).length = bs.length % 8 := by simp; omega
  rw [h2] at h
  exact h

theorem byteAt_snoc_low (bs : List Bool) (c : Bool) (i : Nat) (h : i < bs.length / 8) : byteAt (bs ++ [c]) i = byteAt bs i := by
  unfold byteAt
  rw [List.drop_append_of_le_length (by omega), List.take_append_of_le_length (by simp; omega)]

theorem byteAt_snoc_last (bs : List Bool) (c : Bool) : byteAt (bs ++ [c]) (bs.length / 8) = byteAt bs (bs.length / 8) + c.toNat * 2 ^ (bs.length % 8) := by
  unfold byteAt
  have hd : (bs.drop (8 * (bs.length / 8))).length = bs.length % 8 := by simp; omega
  rw [List.drop_append_of_le_length (by omega), List.take_of_length_le (by simp; omega), List.take_of_length_le (by omega), val_append, hd, val_single, Nat.mul_comm c.toNat]

theorem length_pack (bs : List Bool) : (pack bs).length = (bs.length + 7) / 8 := by simp [pack]

theorem pack_new (bs : List Bool) (c : Bool) (h : bs.length % 8 = 0) : pack (bs ++ [c]) = pack bs ++ [c.toNat] := by
  have e1 : (bs.length + 7) / 8 = bs.length / 8 := by omega
  have e2 : (bs.length + 1 + 7) / 8 = bs.length / 8 + 1 := by omega
  have hl := byteAt_snoc_last bs c
  have hz := byteAt_last_lt bs
  rw [h] at hl hz
  unfold pack
  simp only [List.length_append, List.length_cons, List.length_nil, Nat.zero_add, e1, e2, List.range_succ, List.map_append, List.map_cons, List.map_nil]
  rw [hl]
  congr 1
  · apply List.map_congr_left
    intro i hi
    exact byteAt_snoc_low bs c i (by simpa using hi)
  · simp only [List.cons.injEq, and_true]
    simp at hz ⊢
    omega

theorem pack_mid (bs : List Bool) (c : Bool) (h : bs.length % 8 ≠ 0) : pack (bs ++ [c]) = (pack bs).set (bs.length / 8) (byteAt bs (bs.length / 8) + c.toNat * 2 ^ (bs.length % 8)) := by
  have e1 : (bs.length + 7) / 8 = bs.length / 8 + 1 := by omega
  have e2 : (bs.length + 1 + 7) / 8 = bs.length / 8 + 1 := by omega
  have hl := byteAt_snoc_last bs c
  unfold pack
  simp only [List.length_append, List.length_cons, List.length_nil, Nat.zero_add, e1, e2, List.range_succ, List.map_append, List.map_cons, List.map_nil]
  rw [List.set_append_right _ _ (by simp), hl]
  congr 1
  · apply List.map_congr_left
    intro i hi
    exact byteAt_snoc_low bs c i (by simpa using hi)
  · simp

theorem pack_getD (bs : List Bool) (i : Nat) (h : i < (bs.length + 7) / 8) : (pack bs).getD i 0 = byteAt bs i := by
  simp [pack, h]

theorem pack_lt (bs : List Bool) : ∀ x ∈ pack bs, x < 256 := by
  intro x hx
  simp only [pack, List.mem_map] at hx
  obtain ⟨i, _, rfl⟩ := hx
  exact byteAt_lt bs i

theorem pack_nil : pack [] = [] := by simp [pack]

end Bt
end Go.Proofs.YtlnpbcpajllkbaaGreatDoor

/- Plain facts on the bits of a string: the number of some of them; no condition. -/
namespace Go.Proofs.YtlnpbcpajllkbaaGreatDoor
namespace Bt

def byteN (s : ByteArray) (j : Nat) : Nat := (s.data.getD j 0).toNat
def bitAt (s : ByteArray) (k : Nat) : Bool := byteN s (k / 8) / 2 ^ (k % 8) % 2 == 1
def rval (s : ByteArray) (k n : Nat) : Nat := val ((List.range n).map fun i => bitAt s (k + i))

theorem byteN_lt (s : ByteArray) (j : Nat) : byteN s j < 256 := by
  unfold byteN
  exact UInt8.toNat_lt _

theorem rval_zero (s : ByteArray) (k : Nat) : rval s k 0 = 0 := rfl

theorem rval_lt (s : ByteArray) (k n : Nat) : rval s k n < 2 ^ n := by
  have := val_lt ((List.range n).map fun i => bitAt s (k + i))
  simpa [rval] using this

theorem rval_add (s : ByteArray) (k m n : Nat) : rval s k (m + n) = rval s k m + 2 ^ m * rval s (k + m) n := by
  unfold rval
  rw [List.range_add, List.map_append, val_append]
  simp [Function.comp_def, Nat.add_assoc]

theorem rval_one (s : ByteArray) (k : Nat) : rval s k 1 = (bitAt s k).toNat := by simp [rval, val]

theorem rval_cons (s : ByteArray) (k n : Nat) : rval s k (n + 1) = (bitAt s k).toNat + 2 * rval s (k + 1) n := by
  rw [Nat.add_comm n 1, rval_add, rval_one, Nat.pow_one]

theorem rval_div (s : ByteArray) (k m n : Nat) : rval s k (m + n) / 2 ^ m = rval s (k + m) n := by
  rw [rval_add, Nat.add_mul_div_left _ _ (Nat.pow_pos (by decide)), Nat.div_eq_of_lt (rval_lt s k m), Nat.zero_add]

theorem rval_mod (s : ByteArray) (k m n : Nat) : rval s k (m + n) % 2 ^ m = rval s k m := by
  rw [rval_add, Nat.add_mul_mod_self_left, Nat.mod_eq_of_lt (rval_lt s k m)]

theorem bit_toNat (x : Nat) : (x % 2 == 1).toNat = x % 2 := by
  rcases Nat.mod_two_eq_zero_or_one x with h | h <;> simp [h]

theorem bits8 : ∀ x : Fin 256, x.val / 1 % 2 + 2 * (x.val / 2 % 2 + 2 * (x.val / 4 % 2 + 2 * (x.val / 8 % 2 + 2 * (x.val / 16 % 2 + 2 * (x.val / 32 % 2 + 2 * (x.val / 64 % 2 + 2 * (x.val / 128 % 2 + 2 * 0))))))) = x.val := by decide +kernel

theorem rval_byte (s : ByteArray) (j : Nat) : rval s (8 * j) 8 = byteN s j := by
  have hb := byteN_lt s j
  have e : ∀ i, i < 8 → (bitAt s (8 * j + i)).toNat = byteN s j / 2 ^ i % 2 := by
    intro i hi
    unfold bitAt
    rw [show (8 * j + i) / 8 = j by omega, show (8 * j + i) % 8 = i by omega, bit_toNat]
  have h0 := e 0 (by decide)
  have h1 := e 1 (by decide)
  have h2 := e 2 (by decide)
  have h3 := e 3 (by decide)
  have h4 := e 4 (by decide)
  have h5 := e 5 (by decide)
  have h6 := e 6 (by decide)
  have h7 := e 7 (by decide)
  simp only [Nat.reducePow] at h0 h1 h2 h3 h4 h5 h6 h7
  simp only [rval, show List.range 8 = [0, 1, 2, 3, 4, 5, 6, 7] from rfl, List.map_cons, List.map_nil, val, h0, h1, h2, h3, h4, h5, h6, h7]
  exact bits8 ⟨byteN s j, hb⟩

/-- What Peek gathers: the bytes from one on, shifted, and the lowest bits of that. -/
theorem rval_peek (s : ByteArray) (t n c : Nat) (h : t % 8 + n ≤ 8 * c) : rval s (8 * (t / 8)) (8 * c) / 2 ^ (t % 8) % 2 ^ n = rval s t n := by
  obtain ⟨r, hr⟩ : ∃ r, 8 * c = t % 8 + (n + r) := ⟨8 * c - t % 8 - n, by omega⟩
  rw [hr, rval_div, rval_mod, show 8 * (t / 8) + t % 8 = t by omega]

end Bt
end Go.Proofs.YtlnpbcpajllkbaaGreatDoor

/- Plain facts: what is packed is read again; no condition. -/
namespace Go.Proofs.YtlnpbcpajllkbaaGreatDoor

namespace Bt

theorem val_bit (l : List Bool) : ∀ j, val l / 2 ^ j % 2 = (l.getD j false).toNat := by
  induction l with
  | nil => intro j; simp [val]
  | cons c cs ih =>
    intro j
    cases j with
    | zero =>
      have := Bool.toNat_le c
      simp [val]
      omega
    | succ j =>
      have h := ih j
      have hc := Bool.toNat_le c
      rw [Nat.pow_succ, Nat.mul_comm, ← Nat.div_div_eq_div_mul]
      simp only [val, List.getD_cons_succ]
      rw [show (c.toNat + 2 * val cs) / 2 = val cs by omega]
      exact h

theorem byteN_pack (bs : List Bool) (j : Nat) (h : j < (bs.length + 7) / 8) : byteN (strOf (pack bs)) j = byteAt bs j := by
  have hl : j < (pack bs).length := by rw [length_pack]; exact h
  have hlt := byteAt_lt bs j
  unfold byteN strOf
  simp only [Array.getD_eq_getD_getElem?, List.getElem?_toArray, List.getElem?_map, List.getElem?_eq_getElem hl, Option.map_some, Option.getD_some]
  rw [UInt8.toNat_ofNat', show (pack bs)[j] = byteAt bs j by simp [pack]]
  exact Nat.mod_eq_of_lt hlt

theorem bitAt_pack (bs : List Bool) (i : Nat) (h : i < bs.length) : bitAt (strOf (pack bs)) i = bs.getD i false := by
  unfold bitAt
  rw [byteN_pack bs _ (by omega)]
  unfold byteAt
  rw [val_bit]
  have : (((bs.drop (8 * (i / 8))).take 8).getD (i % 8) false) = bs.getD i false := by
    simp only [List.getD_eq_getElem?_getD]
    rw [List.getElem?_take_of_lt (by omega), List.getElem?_drop]
    congr 2
    omega
  rw [this]
  cases bs.getD i false <;> rfl

theorem rval_pack (bs : List Bool) (t k : Nat) (h : t + k ≤ bs.length) : rval (strOf (pack bs)) t k = val ((bs.drop t).take k) := by
  unfold rval
  congr 1
  apply List.ext_getElem
  · simp; omega
  · intro i h1 h2
    simp at h1
    simp only [List.getElem_map, List.getElem_range, List.getElem_take, List.getElem_drop]
    rw [bitAt_pack bs _ (by omega)]
    simp [List.getD_eq_getElem?_getD, List.getElem?_eq_getElem (show t + i < bs.length by omega)]

theorem val_ibit (v : Int) : ∀ k, ((val ((List.range k).map (ibit v)) : Nat) : Int) = v % 2 ^ k := by
  intro k
  induction k with
  | zero => simp [val, Int.emod_one]
  | succ k ih =>
    rw [List.range_succ, List.map_append, val_append]
    simp only [List.map_cons, List.map_nil, val_single, List.length_map, List.length_range]
    have hp : (0 : Int) < 2 ^ k := by
      have : ((2 ^ k : Nat) : Int) = (2 : Int) ^ k := by simp
      rw [← this]
      exact_mod_cast Nat.pow_pos (by decide)
    have hb : (((ibit v k).toNat : Nat) : Int) = v / 2 ^ k % 2 := by
      unfold ibit
      rcases Int.emod_two_eq (v / 2 ^ k) with h | h <;> simp [h]
    rw [Int.natCast_add, ih, Int.natCast_mul, hb]
    simp only [Int.natCast_pow, Int.cast_ofNat_Int]
    rw [Int.pow_succ]
    have h1 := Int.mul_ediv_add_emod v (2 ^ k)
    have h2 := Int.mul_ediv_add_emod (v / 2 ^ k) 2
    have h3 := Int.mul_ediv_add_emod v (2 ^ k * 2)
    rw [← Int.ediv_ediv_of_nonneg (by omega)] at h3
    have h4 : 2 ^ k * (v / 2 ^ k) = 2 ^ k * (2 * (v / 2 ^ k / 2)) + 2 ^ k * (v / 2 ^ k % 2) := by rw [← Int.mul_add, h2]
    have h5 : 2 ^ k * 2 * (v / 2 ^ k / 2) = 2 ^ k * (2 * (v / 2 ^ k / 2)) := by rw [Int.mul_assoc]
    omega

end Bt
end Go.Proofs.YtlnpbcpajllkbaaGreatDoor

/- Plain facts: whole bytes behind a row of bits; no condition. -/
namespace Go.Proofs.YtlnpbcpajllkbaaGreatDoor
namespace Bt

def pad (bs : List Bool) : List Bool := List.replicate ((8 - bs.length % 8) % 8) false
def strBits (s : ByteArray) : List Bool := (List.range (8 * s.size)).map (bitAt s)
def strNats (s : ByteArray) : List Nat := (List.range s.size).map (byteN s)

theorem length_strBits (s : ByteArray) : (strBits s).length = 8 * s.size := by simp [strBits]

theorem length_padded (bs : List Bool) : (bs ++ pad bs).length % 8 = 0 ∧ (bs ++ pad bs).length = 8 * ((bs.length + 7) / 8) := by
  simp only [pad, List.length_append, List.length_replicate]
  omega

theorem pack_append (l m : List Bool) (h : l.length % 8 = 0) : pack (l ++ m) = pack l ++ pack m := by
  have e1 : ((l ++ m).length + 7) / 8 = (l.length + 7) / 8 + (m.length + 7) / 8 := by rw [List.length_append]; omega
  unfold pack
  rw [e1, List.range_add, List.map_append, List.map_map]
  congr 1
  · apply List.map_congr_left
    intro i hi
    have hi' : i < (l.length + 7) / 8 := by simpa using hi
    unfold byteAt
    rw [List.drop_append_of_le_length (by omega), List.take_append_of_le_length (by simp; omega)]
  · apply List.map_congr_left
    intro i _
    simp only [Function.comp_def]
    unfold byteAt
    rw [show 8 * ((l.length + 7) / 8 + i) = l.length + 8 * i by omega, List.drop_append, List.drop_eq_nil_of_le (by omega), List.nil_append, Nat.add_sub_cancel_left]

theorem pack_pad (bs : List Bool) : pack (bs ++ pad bs) = pack bs := by
  have hl := (length_padded bs).2
  unfold pack
  rw [hl, show (8 * ((bs.length + 7) / 8) + 7) / 8 = (bs.length + 7) / 8 by omega]
  apply List.map_congr_left
  intro i hi
  have hi' : i < (bs.length + 7) / 8 := by simpa using hi
  unfold byteAt
  rw [List.drop_append_of_le_length (by omega), List.take_append, val_append]
  have e : val (List.take (8 - (List.drop (8 * i) bs).length) (pad bs)) = 0 := by
    unfold pad
    rw [List.take_replicate]
    exact val_zeros _
  rw [e]
  omega

theorem pack_strBits (s : ByteArray) : pack (strBits s) = strNats s := by
  unfold pack strNats
  rw [length_strBits, show (8 * s.size + 7) / 8 = s.size by omega]
  apply List.map_congr_left
  intro i hi
  have hi' : i < s.size := by simpa using hi
  rw [← rval_byte]
  unfold byteAt rval
  congr 1
  apply List.ext_getElem
  · simp [length_strBits]; omega
  · intro j h1 h2
    simp [strBits]

/-- What a writer holds behind Bytes. -/
def behind (bs : List Bool) (s : ByteArray) : List Bool := bs ++ pad bs ++ strBits s

theorem pack_behind (bs : List Bool) (s : ByteArray) : pack (behind bs s) = pack bs ++ strNats s := by
  unfold behind
  rw [pack_append _ _ (length_padded bs).1, pack_pad, pack_strBits]

theorem length_behind (bs : List Bool) (s : ByteArray) : (behind bs s).length = 8 * ((bs.length + 7) / 8 + s.size) := by
  unfold behind
  rw [List.length_append, (length_padded bs).2, length_strBits]
  omega

end Bt
end Go.Proofs.YtlnpbcpajllkbaaGreatDoor

/- The checksum, plain: by halves of bytes and bit by bit, and that both are the same; that it tells one byte from another. No condition beside those told. -/
namespace Go.Proofs.YtlnpbcpajllkbaaGreatDoor
namespace Gz

def q16 : List Nat := [0, 498536548, 997073096, 651767980, 1994146192, 1802195444, 1303535960, 1342533948, 3988292384, 4027552580, 3604390888, 3412177804, 2607071920, 2262029012, 2685067896, 3183342108]
def half (c : Nat) : Nat := (c / 16) ^^^ q16.getD (c % 16) 0
def cbyte (c b : Nat) : Nat := half (half (c ^^^ b))
/-- What the sum is behind so many bytes. -/
def crcTo (s : ByteArray) : Nat → Nat
  | 0 => 4294967295
  | i + 1 => cbyte (crcTo s i) (Bt.byteN s i)
def sum (s : ByteArray) : Nat := 4294967295 - crcTo s s.size
/-- One bit. -/
def one (c : Nat) : Nat := (c / 2) ^^^ (if c % 2 = 1 then 3988292384 else 0)
def ones : Nat → Nat → Nat
  | 0, c => c
  | k + 1, c => ones k (one c)

theorem xor_div2 (a b : Nat) : (a ^^^ b) / 2 = (a / 2) ^^^ (b / 2) := by
  have := Nat.shiftRight_xor_distrib (a := a) (b := b) (i := 1)
  simpa [Nat.shiftRight_eq_div_pow] using this
theorem xor_div16 (a b : Nat) : (a ^^^ b) / 16 = (a / 16) ^^^ (b / 16) := by
  have := Nat.shiftRight_xor_distrib (a := a) (b := b) (i := 4)
  simpa [Nat.shiftRight_eq_div_pow] using this
theorem xor_mod2 (a b : Nat) : (a ^^^ b) % 2 = (a % 2 + b % 2) % 2 := by
  have h := Nat.xor_mod_two_eq_one (a := a) (b := b)
  have h2 := Nat.mod_two_eq_zero_or_one (a ^^^ b)
  rcases Nat.mod_two_eq_zero_or_one a with ha | ha <;> rcases Nat.mod_two_eq_zero_or_one b with hb | hb <;> (simp only [ha, hb] at h ⊢; rcases h2 with h2 | h2 <;> simp [h2] at h ⊢)
theorem xr_cancel {a b x : Nat} (h : a ^^^ x = b ^^^ x) : a = b := by
  have h2 := congrArg (· ^^^ x) h
  simpa [Nat.xor_assoc, Nat.xor_self] using h2
theorem xl_cancel {a b x : Nat} (h : x ^^^ a = x ^^^ b) : a = b := xr_cancel (by rw [Nat.xor_comm a x, Nat.xor_comm b x]; exact h)
theorem one_xor (a b : Nat) : one (a ^^^ b) = one a ^^^ one b := by
  unfold one
  rw [xor_div2, xor_mod2]
  rcases Nat.mod_two_eq_zero_or_one a with ha | ha <;> rcases Nat.mod_two_eq_zero_or_one b with hb | hb <;> simp only [ha, hb] <;> simp only [Nat.reduceAdd, Nat.reduceMod, if_true, Nat.zero_ne_one, if_false, Nat.xor_zero]
  · rw [Nat.xor_assoc]
  · rw [Nat.xor_assoc, Nat.xor_assoc, Nat.xor_comm (b / 2)]
  · rw [Nat.xor_assoc, ← Nat.xor_assoc 3988292384, Nat.xor_comm 3988292384 (b / 2), Nat.xor_assoc (b / 2), Nat.xor_self, Nat.xor_zero]
theorem ones_xor : ∀ (k a b : Nat), ones k (a ^^^ b) = ones k a ^^^ ones k b
  | 0, _, _ => rfl
  | k + 1, a, b => by rw [ones, one_xor, ones_xor k, ones, ones]
theorem split16 (c : Nat) : c = (16 * (c / 16)) ^^^ (c % 16) := by
  have h1 : 2 ^ 4 * (c / 16) + c % 16 = 2 ^ 4 * (c / 16) ||| c % 16 := Nat.two_pow_add_eq_or_of_lt (by omega) _
  apply Nat.eq_of_testBit_eq
  intro i
  have h2 : c = 2 ^ 4 * (c / 16) + c % 16 := by omega
  have h16 : (16 : Nat) * (c / 16) = 2 ^ 4 * (c / 16) := by omega
  rw [h16, Nat.testBit_xor]
  conv => lhs; rw [h2]
  rw [Nat.testBit_two_pow_mul_add (c / 16) (show c % 16 < 2 ^ 4 by omega), Nat.testBit_two_pow_mul]
  by_cases hi : i < 4
  · simp [hi, Nat.not_le.2 hi]
  · have h3 : (c % 16).testBit i = false := Nat.testBit_lt_two_pow (Nat.lt_of_lt_of_le (show c % 16 < 2 ^ 4 by omega) (Nat.pow_le_pow_right (by decide) (by omega)))
    simp [hi, h3, Nat.le_of_not_lt hi]
theorem ones4_16 (h : Nat) : ones 4 (16 * h) = h := by
  have e : ∀ x, one (2 * x) = x := fun x => by
    unfold one
    rw [show 2 * x / 2 = x by omega, if_neg (by omega), Nat.xor_zero]
  show one (one (one (one (16 * h)))) = h
  rw [show 16 * h = 2 * (8 * h) by omega, e, show 8 * h = 2 * (4 * h) by omega, e, show 4 * h = 2 * (2 * h) by omega, e, e]
theorem ones4_low : ∀ l : Fin 16, ones 4 l.val = q16.getD l.val 0 := by decide +kernel
theorem half_ones (c : Nat) : half c = ones 4 c := by
  conv => rhs; rw [split16 c]
  rw [ones_xor, ones4_16, ones4_low ⟨c % 16, by omega⟩]
  rfl
theorem ones_add : ∀ (j k c : Nat), ones (j + k) c = ones k (ones j c)
  | 0, k, c => by rw [Nat.zero_add]; rfl
  | j + 1, k, c => by rw [show j + 1 + k = (j + k) + 1 by omega, ones, ones_add j k, ones]
theorem cbyte_ones (c b : Nat) : cbyte c b = ones 8 (c ^^^ b) := by
  unfold cbyte
  rw [half_ones, half_ones, ← ones_add]

theorem q16_lt (i : Nat) : q16.getD i 0 < 2 ^ 32 := by
  by_cases h : i < 16
  · exact (show ∀ l : Fin 16, q16.getD l.val 0 < 2 ^ 32 by decide +kernel) ⟨i, h⟩
  · rw [List.getD_eq_getElem?_getD, List.getElem?_eq_none (by simp [q16]; omega)]
    decide
theorem half_lt {c : Nat} (h : c < 2 ^ 32) : half c < 2 ^ 32 := Nat.xor_lt_two_pow (by omega) (q16_lt _)
theorem cbyte_lt {c b : Nat} (h : c < 2 ^ 32) (hb : b < 256) : cbyte c b < 2 ^ 32 := half_lt (half_lt (Nat.xor_lt_two_pow h (by omega)))
theorem crcTo_lt (s : ByteArray) : ∀ i, crcTo s i < 2 ^ 32
  | 0 => by show 4294967295 < 2 ^ 32; decide
  | i + 1 => cbyte_lt (crcTo_lt s i) (Bt.byteN_lt s i)
theorem sum_lt (s : ByteArray) : sum s < 2 ^ 32 := by unfold sum; omega

/-! ### It tells one byte from another -/
theorem q16_top : ∀ i j : Fin 16, q16.getD i.val 0 / 2 ^ 28 = q16.getD j.val 0 / 2 ^ 28 → i = j := by decide +kernel
theorem half_inj {a b : Nat} (ha : a < 2 ^ 32) (hb : b < 2 ^ 32) (h : half a = half b) : a = b := by
  unfold half at h
  have top : ∀ c, c < 2 ^ 32 → ((c / 16) ^^^ q16.getD (c % 16) 0) / 2 ^ 28 = q16.getD (c % 16) 0 / 2 ^ 28 := fun c hc => by
    have := Nat.shiftRight_xor_distrib (a := c / 16) (b := q16.getD (c % 16) 0) (i := 28)
    simp only [Nat.shiftRight_eq_div_pow] at this
    rw [this, show c / 16 / 2 ^ 28 = 0 by omega, Nat.zero_xor]
  have h1 := top a ha
  have h2 := top b hb
  rw [h] at h1
  have h3 := q16_top ⟨a % 16, by omega⟩ ⟨b % 16, by omega⟩ (h1.symm.trans h2)
  have h4 : a % 16 = b % 16 := congrArg Fin.val h3
  rw [h4] at h
  have h5 : a / 16 = b / 16 := xr_cancel h
  omega
theorem cbyte_inj {a b x : Nat} (ha : a < 2 ^ 32) (hb : b < 2 ^ 32) (hx : x < 256) (h : cbyte a x = cbyte b x) : a = b := by
  unfold cbyte at h
  have hxa : a ^^^ x < 2 ^ 32 := Nat.xor_lt_two_pow ha (by omega)
  have hxb : b ^^^ x < 2 ^ 32 := Nat.xor_lt_two_pow hb (by omega)
  exact xr_cancel (half_inj hxa hxb (half_inj (half_lt hxa) (half_lt hxb) h))
theorem cbyte_byte {a x y : Nat} (ha : a < 2 ^ 32) (hx : x < 256) (hy : y < 256) (h : cbyte a x = cbyte a y) : x = y := by
  unfold cbyte at h
  have hxa : a ^^^ x < 2 ^ 32 := Nat.xor_lt_two_pow ha (by omega)
  have hxb : a ^^^ y < 2 ^ 32 := Nat.xor_lt_two_pow ha (by omega)
  exact xl_cancel (half_inj hxa hxb (half_inj (half_lt hxa) (half_lt hxb) h))
/-- Texts of one length that differ at one place alone have two sums. -/
theorem sum_tells {s t : ByteArray} (hz : s.size = t.size) (k : Nat) (hk : k < s.size) (hne : Bt.byteN s k ≠ Bt.byteN t k) (heq : ∀ i, i ≠ k → Bt.byteN s i = Bt.byteN t i) : sum s ≠ sum t := by
  have pre : ∀ i, i ≤ k → crcTo s i = crcTo t i := by
    intro i
    induction i with
    | zero => intro _; rfl
    | succ i ih =>
      intro hi
      rw [crcTo, crcTo, ih (by omega), heq i (by omega)]
  have post : ∀ i, k < i → crcTo s i ≠ crcTo t i := by
    intro i
    induction i with
    | zero => intro h; omega
    | succ i ih =>
      intro hi e
      rw [crcTo, crcTo] at e
      by_cases hik : i = k
      · subst hik
        rw [pre i (Nat.le_refl _)] at e
        exact hne (cbyte_byte (crcTo_lt t i) (Bt.byteN_lt s i) (Bt.byteN_lt t i) e)
      · rw [heq i hik] at e
        exact ih (by omega) (cbyte_inj (crcTo_lt s i) (crcTo_lt t i) (Bt.byteN_lt t i) e)
  intro e
  unfold sum at e
  have h1 := crcTo_lt s s.size
  have h2 := crcTo_lt t t.size
  have h3 : crcTo s s.size = crcTo t t.size := by omega
  rw [← hz] at h3
  exact post s.size hk h3
end Gz
end Go.Proofs.YtlnpbcpajllkbaaGreatDoor
