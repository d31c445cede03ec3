/- Plain facts: whole bytes behind a row of bits; no condition. -/
import Derived.Test.YtokelpnmeknncabPmath
namespace Go.Proofs.Ytokelpnmeknncab
namespace Bt

def pad (bs : List Bool) : List Bool := List.replicate ((8 - bs.length % 8) % 8) false
def strBits (s : ByteArray) : List Bool := (List.range (8 * s.size)).map (bitAt s)
def strNats (s : ByteArray) : List Nat := (List.range s.size).map (byteN s)

theorem length_strBits (s : ByteArray) : (strBits s).length = 8 * s.size := by simp [strBits]

theorem length_padded (bs : List Bool) : (bs ++ pad bs).length % 8 = 0 ∧ (bs ++ pad bs).length = 8 * ((bs.length + 7) / 8) := by
  simp only [pad, List.length_append, List.length_replicate]
  omega

theorem pack_append (l m : List Bool) (h : l.length % 8 = 0) : pack (l ++ m) = pack l ++ pack m := by
  have e1 : ((l ++ m).length + 7) / 8 = (l.length + 7) / 8 + (m.length + 7) / 8 := by rw [List.length_append]; omega
  unfold pack
  rw [e1, List.range_add, List.map_append, List.map_map]
  congr 1
  · apply List.map_congr_left
    intro i hi
    have hi' : i < (l.length + 7) / 8 := by simpa using hi
    unfold byteAt
    rw [List.drop_append_of_le_length (by omega), List.take_append_of_le_length (by simp; omega)]
  · apply List.map_congr_left
    intro i _
    simp only [Function.comp_def]
    unfold byteAt
    rw [show 8 * ((l.length + 7) / 8 + i) = l.length + 8 * i by omega, List.drop_append, List.drop_eq_nil_of_le (by omega), List.nil_append, Nat.add_sub_cancel_left]

theorem pack_pad (bs : List Bool) : pack (bs ++ pad bs) = pack bs := by
  have hl := (length_padded bs).2
  unfold pack
  rw [hl, show (8 * ((bs.length + 7) / 8) + 7) / 8 = (bs.length + 7) / 8 by omega]
  apply List.map_congr_left
  intro i hi
  have hi' : i < (bs.length + 7) / 8 := by simpa using hi
  unfold byteAt
  rw [List.drop_append_of_le_length (by omega), List.take_append, val_append]
  have e : val (List.take (8 - (List.drop (8 * i) bs).length) (pad bs)) = 0 := by
    unfold pad
    rw [List.take_replicate]
    exact val_zeros _
  rw [e]
  omega

theorem pack_strBits (s : ByteArray) : pack (strBits s) = strNats s := by
  unfold pack strNats
  rw [length_strBits, show (8 * s.size + 7) / 8 = s.size by omega]
  apply List.map_congr_left
  intro i hi
  have hi' : i < s.size := by simpa using hi
  rw [← rval_byte]
  unfold byteAt rval
  congr 1
  apply List.ext_getElem
  · simp [length_strBits]; omega
  · intro j h1 h2
    simp [strBits]

/-- What a writer holds behind Bytes. -/
def behind (bs : List Bool) (s : ByteArray) : List Bool := bs ++ pad bs ++ strBits s

theorem pack_behind (bs : List Bool) (s : ByteArray) : pack (behind bs s) = pack bs ++ strNats s := by
  unfold behind
  rw [pack_append _ _ (length_padded bs).1, pack_pad, pack_strBits]

theorem length_behind (bs : List Bool) (s : ByteArray) : (behind bs s).length = 8 * ((bs.length + 7) / 8 + s.size) := by
  unfold behind
  rw [List.length_append, (length_padded bs).2, length_strBits]
  omega

end Bt
end Go.Proofs.Ytokelpnmeknncab
