/- A parser of JSON: Parse, of any text; conditions: as told. -/
import Derived.Test.YtabhlhgfacpohaaDoorVm
import Derived.Test.YtabhlhgfacpohaaDoorVn
namespace Go.Proofs.YtabhlhgfacpohaaDoor
open Go.RowKit
open Go.Lib

/-- The place of the first byte that is no UTF-8; one more than that. -/
def decB (s : ByteArray) : Option Nat := (dcGo (xs s) 1 true (xs s).size 0 [] [] 0).1
theorem dc_ge (s : ByteArray) (c : Nat) (st : Bool) : ∀ (k i : Nat) (rs ps : List Int) (bad j : Nat), (dcGo s c st k i rs ps bad).1 = some j → i ≤ j ∧ j < s.size
  | 0, i, rs, ps, bad, j, h => by
    unfold dcGo at h
    cases h
  | k + 1, i, rs, ps, bad, j, h => by
    unfold dcGo at h
    split at h
    · rename_i hi
      split at h
      · split at h
        · cases h
          omega
        · have := dc_ge s c st k _ _ _ _ j h
          omega
      · have := dc_ge s c st k _ _ _ _ j h
        omega
    · cases h
theorem dec_pos {s : ByteArray} {j : Nat} (h : decB s = some j) : 1 ≤ j ∧ j ≤ s.size := by
  unfold decB at h
  have h2 := dc_ge _ _ _ _ _ _ _ _ j h
  rw [xs_size] at h2
  refine ⟨?_, by omega⟩
  rw [xs_size, dc_step (by rw [xs_size]; omega), tk_ascii _ 0 (by rw [xs_size]; omega) (by rw [xs_zero]; omega), xs_zero] at h
  rw [if_neg (by decide)] at h
  exact (dc_ge _ _ _ _ _ _ _ _ j h).1
def parE (s : ByteArray) : JR JV := if 1048576 < s.size then .error (2, 0) else match decB s with
  | some i => .error (17, i - 1)
  | none => wholeE s
theorem parse_any (s : ByteArray) (w : World) (ht : Tabs w) : Calls Tryd.prog 9 #[.string s] w fun e w' => ParP w (parE s) e w' := by
  unfold parE
  by_cases hs : 1048576 < s.size
  · rw [if_pos hs]
    exact parse_long s w ht hs
  rw [if_neg hs]
  have hs' : s.size ≤ 1048576 := by omega
  have k := fun w (ht : Tabs w) => decode_any (xs s) 1 true w ht (by rw [xs_size]; omega) (by decide)
  rw [xs_bg] at k
  cases hd : decB s with
  | some i =>
    have hi := dec_pos hd
    refine parse_bad s i w ht hs' hi.1 (by omega) ?_
    intro w ht
    refine (k w ht).mono ?_
    intro e w' h
    rcases h with ⟨j, h1, h2⟩ | ⟨h1, _⟩
    · have e1 : decB s = some j := h1
      rw [hd] at e1
      cases e1
      exact ⟨h2.ret, h2.touch⟩
    · have e1 : decB s = none := h1
      rw [hd] at e1
      cases e1
  | none =>
    refine parse_good s w ht hs' ?_
    intro w ht
    refine (k w ht).mono ?_
    intro e w' h
    rcases h with ⟨j, h1, h2⟩ | ⟨h1, h2⟩
    · have e1 : decB s = some j := h1
      rw [hd] at e1
      cases e1
    · obtain ⟨v1, v2, he, o1, o2⟩ := h2.ex
      obtain ⟨a1, c1, rfl⟩ := own_shape o1.own
      obtain ⟨a2, c2, rfl⟩ := own_shape o2.own
      exact ⟨a1, _, c1, a2, _, c2, _, he, o1.touch⟩
end Go.Proofs.YtabhlhgfacpohaaDoor
