/- Plain facts for whole bytes behind bits; no condition. -/
import Derived.Test.YtcpjbagljpohnabWmath
namespace Go.Proofs.Ytcpjbagljpohnab
namespace Bt

theorem strNats_back (s : ByteArray) : (strNats s).map UInt8.ofNat = s.data.toList := by
  apply List.ext_getElem
  · simp [strNats]
  · intro i h1 h2
    have hi : i < s.data.size := by simpa using h2
    simp only [strNats, List.getElem_map, List.getElem_range, byteN, Array.getD, Array.getElem_toList]
    rw [dif_pos hi]
    simp

theorem extract_mid (l r : List Nat) (s : ByteArray) (n : Nat) (hn : l.length = n) : (strOf (l ++ strNats s ++ r)).extract n (n + s.size) = s := by
  subst hn
  apply ByteArray.ext
  simp only [strOf, ByteArray.data_extract, List.map_append, strNats_back]
  apply Array.ext'
  simp only [Array.toList_extract, List.extract_eq_take_drop]
  rw [show l.length + s.size - l.length = s.size by omega]
  have e : (l.map UInt8.ofNat).length = l.length := by simp
  rw [List.append_assoc, ← e, List.drop_left, List.take_left' (by simp)]

end Bt
end Go.Proofs.Ytcpjbagljpohnab
