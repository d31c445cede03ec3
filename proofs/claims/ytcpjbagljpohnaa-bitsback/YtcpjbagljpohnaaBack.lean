/- Plain facts on rows of numbers, each put in its own width; no condition. -/
import Derived.Test.YtcpjbagljpohnaaPmath
namespace Go.Proofs.Ytcpjbagljpohnaa
namespace Bt

def kOf (z : Int) : Nat := (z % 32).toNat
theorem kOf_le (z : Int) : kOf z ≤ 31 := by unfold kOf; omega
theorem kOf_cast (z : Int) : (kOf z : Int) = z % 32 := by unfold kOf; omega
def chunk (v z : Int) : List Bool := (List.range (kOf z)).map (ibit v)
theorem length_chunk (v z : Int) : (chunk v z).length = kOf z := by simp [chunk]
def rows (vs zs : List Int) : Nat → List Bool
  | 0 => []
  | i + 1 => rows vs zs i ++ chunk (vs.getD i 0) (zs.getD i 0)

theorem rows_le (vs zs : List Int) : ∀ i, (rows vs zs i).length ≤ 31 * i
  | 0 => by simp [rows]
  | i + 1 => by
    have := rows_le vs zs i
    have := kOf_le (zs.getD i 0)
    simp only [rows, List.length_append, length_chunk]
    omega

theorem rows_succ_len (vs zs : List Int) (i : Nat) : (rows vs zs (i + 1)).length = (rows vs zs i).length + kOf (zs.getD i 0) := by
  simp [rows, length_chunk]

theorem rows_prefix (vs zs : List Int) (i : Nat) : ∀ d, ∃ r, rows vs zs (i + d) = rows vs zs i ++ r
  | 0 => ⟨[], by simp⟩
  | d + 1 => by
    obtain ⟨r, hr⟩ := rows_prefix vs zs i d
    exact ⟨r ++ chunk (vs.getD (i + d) 0) (zs.getD (i + d) 0), by rw [← Nat.add_assoc, rows, hr, List.append_assoc]⟩

theorem rows_take (vs zs : List Int) (i n : Nat) (h : i < n) :
    (rows vs zs i).length + kOf (zs.getD i 0) ≤ (rows vs zs n).length ∧ (((rows vs zs n).drop (rows vs zs i).length).take (kOf (zs.getD i 0))) = chunk (vs.getD i 0) (zs.getD i 0) := by
  obtain ⟨r, hr⟩ := rows_prefix vs zs (i + 1) (n - (i + 1))
  rw [show i + 1 + (n - (i + 1)) = n by omega] at hr
  rw [hr, rows]
  refine ⟨by simp [length_chunk], ?_⟩
  rw [List.append_assoc, List.drop_left, ← length_chunk (vs.getD i 0), List.take_left]

theorem rows_rval (vs zs : List Int) (i n : Nat) (h : i < n) : ((rval (strOf (pack (rows vs zs n))) (rows vs zs i).length (kOf (zs.getD i 0)) : Nat) : Int) = vs.getD i 0 % 2 ^ kOf (zs.getD i 0) := by
  obtain ⟨h1, h2⟩ := rows_take vs zs i n h
  rw [rval_pack _ _ _ h1, h2, chunk, val_ibit]

end Bt
end Go.Proofs.Ytcpjbagljpohnaa
