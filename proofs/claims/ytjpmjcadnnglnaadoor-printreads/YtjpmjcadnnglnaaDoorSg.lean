/- What Decode tells, scalar by scalar, without and with strict rules: plain; no condition beside those told. -/
import Derived.Test.YtjpmjcadnnglnaaDoorM11
namespace Go.Proofs.YtjpmjcadnnglnaaDoor
open Go.RowKit
open Go.Lib

theorem tk8_room (r : ByteArray) (h : 1 ≤ r.size) : (tk8 r).2 ≤ r.size := by
  rw [tk8_eq]
  by_cases c1 : byN r 0 < 128
  · rw [if_pos c1]; exact h
  rw [if_neg c1]
  by_cases c2 : byN r 0 < 194
  · rw [if_pos c2]; exact h
  rw [if_neg c2]
  by_cases c3 : byN r 0 < 224
  · rw [if_pos c3]
    split
    · exact h
    · dsimp only; omega
  rw [if_neg c3]
  by_cases c4 : byN r 0 < 240
  · rw [if_pos c4]
    generalize (if byN r 0 = 224 then 160 else 128) = lo
    generalize (if byN r 0 = 237 then 159 else 191) = hi
    by_cases d1 : 1 = r.size
    · rw [if_pos (.inl d1)]; exact h
    split
    · exact h
    · split
      · dsimp only; omega
      · dsimp only; omega
  rw [if_neg c4]
  by_cases c5 : byN r 0 < 245
  · rw [if_pos c5]
    generalize (if byN r 0 = 240 then 144 else 128) = lo
    generalize (if byN r 0 = 244 then 143 else 191) = hi
    by_cases d1 : 1 = r.size
    · rw [if_pos (.inl d1)]; exact h
    split
    · exact h
    · split
      · dsimp only; omega
      · split
        · dsimp only; omega
        · dsimp only; omega
  rw [if_neg c5]
  exact h
theorem tk16_room (f : Nat) (s : ByteArray) (i : Nat) (h : i < s.size) : i + (tk16 (unitF f s) i).2 ≤ s.size := by
  unfold tk16
  by_cases c0 : unitF f s i = -1
  · rw [if_pos c0]; exact h
  have l1 := ((unit_bwd f s i c0).1 1 (by rw [enU_len]; omega)).1
  rw [if_neg c0]
  split
  · dsimp only; omega
  · split
    · dsimp only; omega
    · rename_i c2
      have l2 := ((unit_bwd f s (i + 2) (by omega)).1 1 (by rw [enU_len]; omega)).1
      dsimp only; omega
theorem tkAt_room (c : Nat) (hc : c = 1 ∨ c = 2 ∨ c = 3 ∨ c = 4) (s : ByteArray) (i : Nat) (h : i < s.size) : i + (tkAt s c i).2 ≤ s.size := by
  rcases hc with rfl | rfl | rfl | rfl
  · rw [tkAt1]
    have := tk8_room (s.extract i s.size) (by rw [rest_size]; omega)
    rw [rest_size] at this
    omega
  · rw [tkAt2]; exact tk16_room 50 s i h
  · rw [tkAt3]; exact tk16_room 51 s i h
  · rw [tkAt4]; exact h

/-- The places at which something is told. -/
def seg (s : ByteArray) (c : Nat) : Nat → Nat → List Nat
  | 0, _ => []
  | k + 1, i => if i < s.size then i :: seg s c k (i + (tkAt s c i).2) else []
def outAt (s : ByteArray) (c i : Nat) : Int := if (tkAt s c i).1 = -1 then 65533 else (tkAt s c i).1
def badAt (s : ByteArray) (c i : Nat) : Bool := decide ((tkAt s c i).1 = -1)
theorem dc_seg (s : ByteArray) (c : Nat) : ∀ (k i : Nat) (rs ps : List Int) (bad : Nat), dcGo s c false k i rs ps bad = (none, rs ++ (seg s c k i).map (outAt s c), ps ++ (seg s c k i).map (fun (p : Nat) => (p : Int)), bad + (seg s c k i).countP (badAt s c))
  | 0, i, rs, ps, bad => by simp [dcGo, seg]
  | k + 1, i, rs, ps, bad => by
    by_cases h : i < s.size
    · rw [dc_step h]
      unfold seg
      rw [if_pos h]
      by_cases hb : (tkAt s c i).1 = -1
      · have e1 : outAt s c i = 65533 := by unfold outAt; rw [if_pos hb]
        have e2 : badAt s c i = true := decide_eq_true hb
        rw [if_pos hb, if_neg (by simp), dc_seg s c k, List.map_cons, List.map_cons, List.countP_cons_of_pos e2, e1, List.append_assoc, List.append_assoc, Nat.add_assoc, Nat.add_comm 1]
        rfl
      · have e1 : outAt s c i = (tkAt s c i).1 := by unfold outAt; rw [if_neg hb]
        have e2 : ¬ badAt s c i = true := by unfold badAt; rw [decide_eq_true_eq]; exact hb
        rw [if_neg hb, dc_seg s c k, List.map_cons, List.map_cons, List.countP_cons_of_neg e2, e1, List.append_assoc, List.append_assoc]
        rfl
    · rw [dc_end (by omega)]
      unfold seg
      rw [if_neg h]
      simp
theorem dc_strict (s : ByteArray) (c : Nat) : ∀ (k i : Nat) (rs ps : List Int) (bad : Nat), (dcGo s c true k i rs ps bad).1 = none ↔ (seg s c k i).countP (badAt s c) = 0
  | 0, i, rs, ps, bad => by simp [dcGo, seg]
  | k + 1, i, rs, ps, bad => by
    by_cases h : i < s.size
    · rw [dc_step h]
      unfold seg
      rw [if_pos h]
      by_cases hb : (tkAt s c i).1 = -1
      · have e2 : badAt s c i = true := decide_eq_true hb
        rw [if_pos hb, if_pos rfl, List.countP_cons_of_pos e2]
        simp
      · have e2 : ¬ badAt s c i = true := by unfold badAt; rw [decide_eq_true_eq]; exact hb
        rw [if_neg hb, List.countP_cons_of_neg e2]
        exact dc_strict s c k _ _ _ _
    · rw [dc_end (by omega)]
      unfold seg
      rw [if_neg h]
      simp
theorem seg_head (s : ByteArray) (c k i : Nat) (hi : i ≤ s.size) (hk : s.size ≤ i + k) : (seg s c k i ++ [s.size])[0]? = some i := by
  cases k with
  | zero =>
    obtain rfl : i = s.size := by omega
    rfl
  | succ k =>
    unfold seg
    by_cases h : i < s.size
    · rw [if_pos h]; rfl
    · rw [if_neg h]
      obtain rfl : i = s.size := by omega
      rfl
theorem seg_at (s : ByteArray) (c : Nat) (hc : c = 1 ∨ c = 2 ∨ c = 3 ∨ c = 4) : ∀ (k i : Nat), i ≤ s.size → s.size ≤ i + k → ∀ j (h : j < (seg s c k i).length), (seg s c k i)[j] < s.size ∧ (seg s c k i ++ [s.size])[j + 1]? = some ((seg s c k i)[j] + (tkAt s c (seg s c k i)[j]).2)
  | 0, i, _, _, j, h => by simp [seg] at h
  | k + 1, i, hi, hk, j, h => by
    by_cases hlt : i < s.size
    · have e : seg s c (k + 1) i = i :: seg s c k (i + (tkAt s c i).2) := by
        show (if i < s.size then i :: seg s c k (i + (tkAt s c i).2) else []) = _
        rw [if_pos hlt]
      have hz := tkAt_size s c i
      have hr := tkAt_room c hc s i hlt
      simp only [e] at h ⊢
      cases j with
      | zero =>
        refine ⟨hlt, ?_⟩
        simp only [List.getElem_cons_zero, List.cons_append, List.getElem?_cons_succ]
        exact seg_head s c k _ hr (by omega)
      | succ j =>
        simp only [List.getElem_cons_succ, List.cons_append, List.getElem?_cons_succ]
        exact seg_at s c hc k _ hr (by omega) j (by simpa using h)
    · have e : seg s c (k + 1) i = [] := by
        show (if i < s.size then i :: seg s c k (i + (tkAt s c i).2) else []) = _
        rw [if_neg hlt]
      rw [e] at h
      simp at h
theorem seg_len (s : ByteArray) (c : Nat) : ∀ k i, (seg s c k i).length ≤ k
  | 0, i => Nat.le_refl _
  | k + 1, i => by
    unfold seg
    split
    · have := seg_len s c k (i + (tkAt s c i).2)
      simp only [List.length_cons]
      omega
    · simp
theorem out_ok (c : Nat) (hc : c = 1 ∨ c = 2 ∨ c = 3 ∨ c = 4) (s : ByteArray) (i : Nat) (h : i < s.size) : okc c (outAt s c i) = true := by
  unfold outAt
  split
  · rename_i e
    rcases hc with rfl | rfl | rfl | rfl
    · decide
    · decide
    · decide
    · rw [tkAt4] at e
      exact absurd e (by dsimp only; omega)
  · rename_i e
    exact (tkAt_bwd c hc s i h e).1
/-- Bytes that lie there are what is cut out. -/
theorem lays_cut (s : ByteArray) (i : Nat) (l : List Int) (h : Lays s i l) (hi : i + l.length ≤ s.size) : strOfNums l = s.extract i (i + l.length) := by
  have hin : ∀ b ∈ l, 0 ≤ b ∧ b ≤ 255 := fun b hb => by
    obtain ⟨j, hj, rfl⟩ := List.getElem_of_mem hb
    have h1 := (h j hj).2
    have h2 := by_lt s (i + j)
    omega
  obtain ⟨h1, h2⟩ := lay_str l hin
  have hsz : (s.extract i (i + l.length)).size = l.length := by rw [ByteArray.size_extract]; omega
  apply ByteArray.ext
  apply Array.ext
  · show (strOfNums l).size = (s.extract i (i + l.length)).size
    omega
  · intro j hj1 hj2
    have hj : j < l.length := by
      have : j < (strOfNums l).size := hj1
      omega
    have a1 := (h2 j hj).2
    have a2 := (h j hj)
    rw [Nat.zero_add] at a1
    unfold byN at a1 a2
    rw [dif_pos (by omega)] at a1
    rw [dif_pos a2.1] at a2
    have a3 : (strOfNums l)[j]'(by omega) = s[i + j]'a2.1 := UInt8.toNat_inj.1 (by have := a2.2; omega)
    have a4 : (s.extract i (i + l.length))[j]'(by omega) = s[i + j]'a2.1 := by rw [ByteArray.getElem_extract]
    show (strOfNums l)[j]'(by omega) = (s.extract i (i + l.length))[j]'(by omega)
    rw [a3, a4]
end Go.Proofs.YtjpmjcadnnglnaaDoor
