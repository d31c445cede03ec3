/- Plain facts on how a symbol is laid into a table: the walk down its rows, and the cells that are filled; no condition. -/
import Derived.Test.YtokelpnmeknncabTm
namespace Go.Proofs.Ytokelpnmeknncab
namespace Tb

theorem noHere {laid : Nat → Prop} {f path : Nat → Nat} {i0 : Nat} (hs : Sym (fun i => laid i ∨ i = i0) f path) (hnot : ¬ laid i0) (d : Nat) (h1 : 5 * (d + 1) < f i0) :
    ∀ i, ¬ Here laid f path d (path i0 % 2 ^ (5 * (d + 1))) i := by
  rintro i ⟨hl, a1, a2, a3⟩
  rw [mod_mod (by omega)] at a3
  have := hs.apart i i0 (.inl hl) (.inr rfl) (by omega) a3
  subst this
  exact hnot hl

/-- On the way of symbol i0, at depth d, in the row that begins at row. -/
def Walk (C : Cells) (sz : Nat) (laid : Nat → Prop) (f path : Nat → Nat) (i0 n d row : Nat) : Prop :=
  sz % 32 = 0 ∧ sz ≤ 96 * n + 32 * (d + 1) ∧ ∃ E R, Inv C sz laid f path E R ∧ (∀ d q, E (d + 1) q → ∃ j, (laid j ∨ j = i0) ∧ 5 * (d + 1) < f j ∧ path j % 2 ^ (5 * (d + 1)) = q) ∧
    (∀ d', d' ≤ d → E d' (path i0 % 2 ^ (5 * d'))) ∧ R d (path i0 % 2 ^ (5 * d)) = row

theorem Walk.lt {C : Cells} {sz : Nat} {laid : Nat → Prop} {f path : Nat → Nat} {i0 n d row : Nat} (h : Walk C sz laid f path i0 n d row) : row % 32 = 0 ∧ row + 32 ≤ sz := by
  obtain ⟨_, _, E, R, v, _, hE, hr⟩ := h
  obtain ⟨r, h1, h2⟩ := v.row d _ (hE d (Nat.le_refl _))
  omega

theorem Walk.step {C : Cells} {sz : Nat} {laid : Nat → Prop} {f path : Nat → Nat} {i0 n d row : Nat} (h : Walk C sz laid f path i0 n d row)
    (hs : Sym (fun i => laid i ∨ i = i0) f path) (hnot : ¬ laid i0) (h1 : 5 * (d + 1) < f i0) :
    (0 < C.F (row + path i0 / 2 ^ (5 * d) % 32) ∧ Walk C sz laid f path i0 n (d + 1) (C.F (row + path i0 / 2 ^ (5 * d) % 32))) ∨
    (C.F (row + path i0 / 2 ^ (5 * d) % 32) = 0 ∧ ∀ C' : Cells, (∀ x, x < sz → x ≠ row + path i0 / 2 ^ (5 * d) % 32 → C'.S x = C.S x ∧ C'.L x = C.L x ∧ C'.F x = C.F x) → C'.F (row + path i0 / 2 ^ (5 * d) % 32) = sz →
      (∀ x, x < 32 → C'.L (sz + x) = 0 ∧ C'.F (sz + x) = 0) → Walk C' (sz + 32) laid f path i0 n (d + 1) sz) := by
  obtain ⟨h32, hle, E, R, v, hown, hE, hr⟩ := h
  have he := hE d (Nat.le_refl _)
  have hc : path i0 / 2 ^ (5 * d) % 32 < 32 := Nat.mod_lt _ (by decide)
  have hq : path i0 % 2 ^ (5 * d) + (path i0 / 2 ^ (5 * d) % 32) * 2 ^ (5 * d) = path i0 % 2 ^ (5 * (d + 1)) := by rw [succ5, split]
  have hno := noHere hs hnot d h1
  subst hr
  by_cases hx : E (d + 1) (path i0 % 2 ^ (5 * (d + 1)))
  · have ho := v.on d _ _ he hc (by rw [hq]; exact hx)
    rw [hq] at ho
    have hpos : 0 < R (d + 1) (path i0 % 2 ^ (5 * (d + 1))) := by
      rcases Nat.eq_zero_or_pos (R (d + 1) (path i0 % 2 ^ (5 * (d + 1)))) with h0 | h0
      · have := (v.inj _ _ 0 0 hx v.root.1 (by rw [h0, v.root.2])).1
        omega
      · exact h0
    refine .inl ⟨by rw [ho.2]; exact hpos, h32, by omega, E, R, v, hown, ?_, ho.2.symm⟩
    intro d' hd'
    rcases Nat.lt_or_ge d' (d + 1) with h | h
    · exact hE d' (by omega)
    · obtain rfl : d' = d + 1 := by omega
      exact hx
  · have hn := v.none d _ _ he hc (by rw [hq]; exact hx) (by rw [hq]; exact hno)
    refine .inr ⟨hn.2, ?_⟩
    intro C' hsame hat hnew
    have va := v.add ⟨sz / 32, by omega⟩ d _ _ he hc (by rw [hq]; exact hx) (by rw [hq]; exact hno) hsame hat hnew
    rw [hq] at va
    refine ⟨by omega, by omega, _, _, va, ?_, ?_, ?_⟩
    · rintro d' q' (h | ⟨h2, h3⟩)
      · exact hown d' q' h
      · obtain rfl : d' = d := by omega
        exact ⟨i0, .inr rfl, h1, h3.symm⟩
    · intro d' hd'
      rcases Nat.lt_or_ge d' (d + 1) with h | h
      · exact .inl (hE d' (by omega))
      · obtain rfl : d' = d + 1 := by omega
        exact .inr ⟨rfl, rfl⟩
    · exact if_pos ⟨rfl, rfl⟩

/-- A first row, with nothing in it. -/
theorem Walk.first {C : Cells} {laid : Nat → Prop} {f path : Nat → Nat} (i0 n : Nat) (hno : ∀ i, ¬ laid i) (hc : ∀ x, x < 32 → C.L x = 0 ∧ C.F x = 0) : Walk C 32 laid f path i0 n 0 0 := by
  refine ⟨rfl, by omega, fun d q => d = 0 ∧ q = 0, fun _ _ => 0, ⟨⟨⟨rfl, rfl⟩, rfl⟩, ?_, ?_, ?_, ?_, ?_, ?_, ?_, ?_⟩, ?_, ?_, rfl⟩
  · intro d q _
    exact ⟨0, rfl, by omega⟩
  · rintro d q d' q' ⟨rfl, rfl⟩ ⟨rfl, rfl⟩ _
    exact ⟨rfl, rfl⟩
  · rintro d q ⟨rfl, rfl⟩
    exact Nat.pow_pos (by decide)
  · rintro d q ⟨h, _⟩
    omega
  · intro i hi
    exact absurd hi (hno i)
  · intro d q c i _ _ hh
    exact absurd hh.1 (hno i)
  · rintro d q c _ _ ⟨h, _⟩
    omega
  · intro d q c _ hc' _ _
    rw [Nat.zero_add]
    exact hc c hc'
  · rintro d q ⟨h, _⟩
    omega
  · intro d' hd'
    obtain rfl : d' = 0 := by omega
    exact ⟨rfl, by simp [Nat.mod_one]⟩

theorem fit_iff (p d l c : Nat) (h : 5 * d ≤ l) : (p % 2 ^ (5 * d) + c * 2 ^ (5 * d)) % 2 ^ l = p ↔ c % 2 ^ (l - 5 * d) = p / 2 ^ (5 * d) := by
  have hl : 2 ^ l = 2 ^ (5 * d) * 2 ^ (l - 5 * d) := by rw [← Nat.pow_add]; congr 1; omega
  have hpos : 0 < 2 ^ (5 * d) := Nat.pow_pos (by decide)
  have hm := Nat.mod_lt p hpos
  rw [hl, Nat.mod_mul, Nat.add_mul_mod_self_right, Nat.mod_mod, Nat.add_mul_div_right _ _ hpos, Nat.div_eq_of_lt hm, Nat.zero_add]
  have hp := Nat.mod_add_div p (2 ^ (5 * d))
  constructor
  · intro e
    have : 2 ^ (5 * d) * (c % 2 ^ (l - 5 * d)) = 2 ^ (5 * d) * (p / 2 ^ (5 * d)) := by omega
    exact Nat.eq_of_mul_eq_mul_left hpos this
  · intro e
    rw [e]
    exact hp

/-- The cells of a row up to i whose place goes on as p0 by b are the symbol's. -/
def fillTo (C : Cells) (row p0 b s l i : Nat) : Cells :=
  ⟨fun x => if row ≤ x ∧ x < row + i ∧ (x - row) % b = p0 then s else C.S x, fun x => if row ≤ x ∧ x < row + i ∧ (x - row) % b = p0 then l else C.L x,
    fun x => if row ≤ x ∧ x < row + i ∧ (x - row) % b = p0 then 0 else C.F x⟩

theorem fillTo_pos {C : Cells} {row p0 b s l i x : Nat} (h : row ≤ x ∧ x < row + i ∧ (x - row) % b = p0) : (fillTo C row p0 b s l i).S x = s ∧ (fillTo C row p0 b s l i).L x = l ∧ (fillTo C row p0 b s l i).F x = 0 := by
  refine ⟨?_, ?_, ?_⟩ <;> exact if_pos h
theorem fillTo_neg {C : Cells} {row p0 b s l i x : Nat} (h : ¬ (row ≤ x ∧ x < row + i ∧ (x - row) % b = p0)) : (fillTo C row p0 b s l i).S x = C.S x ∧ (fillTo C row p0 b s l i).L x = C.L x ∧ (fillTo C row p0 b s l i).F x = C.F x := by
  refine ⟨?_, ?_, ?_⟩ <;> exact if_neg h

theorem fillTo_zero {C : Cells} {row p0 b s l : Nat} (hp : p0 < b) (x : Nat) : (fillTo C row p0 b s l p0).S x = C.S x ∧ (fillTo C row p0 b s l p0).L x = C.L x ∧ (fillTo C row p0 b s l p0).F x = C.F x := by
  refine fillTo_neg ?_
  rintro ⟨h1, h2, h3⟩
  rw [Nat.mod_eq_of_lt (by omega)] at h3
  omega

/-- One cell more. -/
theorem fillTo_step {C : Cells} {row p0 b s l i : Nat} (hb : 0 < b) (hp : i % b = p0) (x : Nat) :
    (x = row + i → (fillTo C row p0 b s l (i + b)).S x = s ∧ (fillTo C row p0 b s l (i + b)).L x = l ∧ (fillTo C row p0 b s l (i + b)).F x = 0) ∧
    (x ≠ row + i → (fillTo C row p0 b s l (i + b)).S x = (fillTo C row p0 b s l i).S x ∧ (fillTo C row p0 b s l (i + b)).L x = (fillTo C row p0 b s l i).L x ∧ (fillTo C row p0 b s l (i + b)).F x = (fillTo C row p0 b s l i).F x) := by
  constructor
  · rintro rfl
    exact fillTo_pos ⟨by omega, by omega, by rw [Nat.add_sub_cancel_left]; exact hp⟩
  · intro hne
    by_cases h : row ≤ x ∧ x < row + i ∧ (x - row) % b = p0
    · obtain ⟨a1, a2, a3⟩ := fillTo_pos (C := C) (s := s) (l := l) h
      obtain ⟨b1, b2, b3⟩ := fillTo_pos (C := C) (s := s) (l := l) (i := i + b) (x := x) ⟨h.1, by omega, h.2.2⟩
      rw [a1, a2, a3]
      exact ⟨b1, b2, b3⟩
    · obtain ⟨a1, a2, a3⟩ := fillTo_neg (C := C) (s := s) (l := l) h
      rw [a1, a2, a3]
      refine fillTo_neg ?_
      rintro ⟨h1, h2, h3⟩
      have hge : i ≤ x - row := by
        rcases Nat.lt_or_ge (x - row) i with h' | h'
        · exact absurd ⟨h1, by omega, h3⟩ h
        · exact h'
      have hd := Nat.mod_add_div (x - row) b
      have hi := Nat.mod_add_div i b
      rw [h3] at hd
      rw [hp] at hi
      rcases Nat.lt_trichotomy ((x - row) / b) (i / b) with g | g | g
      · have := Nat.mul_le_mul_left b (show (x - row) / b + 1 ≤ i / b from g)
        rw [Nat.mul_add] at this
        omega
      · rw [g] at hd
        omega
      · have := Nat.mul_le_mul_left b (show i / b + 1 ≤ (x - row) / b from g)
        rw [Nat.mul_add] at this
        omega

/-- The last row filled: the symbol is laid. -/
theorem Walk.fill {C : Cells} {sz : Nat} {laid : Nat → Prop} {f path : Nat → Nat} {i0 n d row i : Nat} (h : Walk C sz laid f path i0 n d row)
    (hs : Sym (fun i => laid i ∨ i = i0) f path) (hnot : ¬ laid i0) (h1 : 5 * d < f i0) (h2 : f i0 ≤ 5 * d + 5) (hi : 32 ≤ i) (hi2 : i < 32 + 2 ^ (f i0 - 5 * d)) (him : i % 2 ^ (f i0 - 5 * d) = path i0 / 2 ^ (5 * d)) :
    ∃ E R, Inv (fillTo C row (path i0 / 2 ^ (5 * d)) (2 ^ (f i0 - 5 * d)) i0 (f i0) i) sz (fun i => laid i ∨ i = i0) f path E R ∧ ∀ d q, E (d + 1) q → ∃ j, (laid j ∨ j = i0) ∧ 5 * (d + 1) < f j ∧ path j % 2 ^ (5 * (d + 1)) = q := by
  obtain ⟨h32, hle, E, R, v, hown, hE, hr⟩ := h
  refine ⟨E, R, ?_, hown⟩
  refine v.fill i0 d hs hnot h1 h2 ?_ hown ?_ ?_
  · intro d' hd'
    exact hE d' (by omega)
  · intro c hc hfit
    rw [hr]
    refine fillTo_pos ⟨by omega, by omega, ?_⟩
    rw [Nat.add_sub_cancel_left]
    exact (fit_iff _ d _ c (by omega)).mp hfit
  · intro x hx
    refine fillTo_neg ?_
    rintro ⟨a1, a2, a3⟩
    -- the places beyond the row that fit are none: the last place below i that fits is below 32
    have hlt : x - row < 32 := by
      rcases Nat.lt_or_ge (x - row) 32 with g | g
      · exact g
      · exfalso
        have hpos : 0 < 2 ^ (f i0 - 5 * d) := Nat.pow_pos (by decide)
        have hd := Nat.mod_add_div (x - row) (2 ^ (f i0 - 5 * d))
        have hj := Nat.mod_add_div i (2 ^ (f i0 - 5 * d))
        rw [a3] at hd
        rw [him] at hj
        rcases Nat.lt_or_ge ((x - row) / 2 ^ (f i0 - 5 * d)) (i / 2 ^ (f i0 - 5 * d)) with k | k
        · have := Nat.mul_le_mul_left (2 ^ (f i0 - 5 * d)) (show (x - row) / 2 ^ (f i0 - 5 * d) + 1 ≤ i / 2 ^ (f i0 - 5 * d) from k)
          rw [Nat.mul_add] at this
          omega
        · have := Nat.mul_le_mul_left (2 ^ (f i0 - 5 * d)) k
          omega
    refine hx (x - row) hlt ((fit_iff _ d _ _ (by omega)).mpr a3) ?_
    rw [hr]
    omega
end Tb
end Go.Proofs.Ytokelpnmeknncab
