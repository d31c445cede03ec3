/- Texts of this proof, one behind the other: what each says stands ahead of it. -/
import Derived.Test.YtffjkceedbblgaaGreatDoorM2
import Derived.Test.YtffjkceedbblgaaGreatDoorM1
/- Plain facts on a table that is looked up by five bits at a time: what is laid is found, and nothing else; no condition. -/
namespace Go.Proofs.YtffjkceedbblgaaGreatDoor
namespace Tb

/-- p goes on as q says, for n bits. -/
def Fits (p n q : Nat) : Prop := p % 2 ^ n = q

structure Cells where
  S : Nat → Nat
  L : Nat → Nat
  F : Nat → Nat

/-- The symbols that are laid: each one's length and bits; none goes on as another one does. -/
structure Sym (laid : Nat → Prop) (f path : Nat → Nat) : Prop where
  len : ∀ i, laid i → 1 ≤ f i ∧ f i ≤ 15
  lt : ∀ i, laid i → path i < 2 ^ f i
  apart : ∀ i j, laid i → laid j → f i ≤ f j → path j % 2 ^ f i = path i → i = j

/-- At depth d the cell whose bits so far are q is symbol i's. -/
def Here (laid : Nat → Prop) (f path : Nat → Nat) (d q i : Nat) : Prop := laid i ∧ 5 * d < f i ∧ f i ≤ 5 * d + 5 ∧ q % 2 ^ f i = path i

structure Inv (C : Cells) (sz : Nat) (laid : Nat → Prop) (f path : Nat → Nat) (E : Nat → Nat → Prop) (R : Nat → Nat → Nat) : Prop where
  root : E 0 0 ∧ R 0 0 = 0
  row : ∀ d q, E d q → ∃ r, R d q = 32 * r ∧ 32 * r + 32 ≤ sz
  inj : ∀ d q d' q', E d q → E d' q' → R d q = R d' q' → d = d' ∧ q = q'
  lt : ∀ d q, E d q → q < 2 ^ (5 * d)
  up : ∀ d q, E (d + 1) q → E d (q % 2 ^ (5 * d))
  rows : ∀ i, laid i → ∀ d, 5 * d < f i → E d (path i % 2 ^ (5 * d))
  sym : ∀ d q c i, E d q → c < 32 → Here laid f path d (q + c * 2 ^ (5 * d)) i → C.S (R d q + c) = i ∧ C.L (R d q + c) = f i ∧ C.F (R d q + c) = 0
  on : ∀ d q c, E d q → c < 32 → E (d + 1) (q + c * 2 ^ (5 * d)) → (∀ i, ¬ Here laid f path d (q + c * 2 ^ (5 * d)) i) ∧ C.F (R d q + c) = R (d + 1) (q + c * 2 ^ (5 * d))
  none : ∀ d q c, E d q → c < 32 → ¬ E (d + 1) (q + c * 2 ^ (5 * d)) → (∀ i, ¬ Here laid f path d (q + c * 2 ^ (5 * d)) i) → C.L (R d q + c) = 0 ∧ C.F (R d q + c) = 0

theorem pow5 (d : Nat) : 2 ^ (5 * d + 5) = 2 ^ (5 * d) * 32 := by rw [Nat.pow_add]

/-- The next five bits of p. -/
theorem split (p d : Nat) : p % 2 ^ (5 * d + 5) = p % 2 ^ (5 * d) + (p / 2 ^ (5 * d) % 32) * 2 ^ (5 * d) := by
  rw [pow5, Nat.mod_mul, Nat.mul_comm (2 ^ (5 * d))]

theorem mod_mod {a m n : Nat} (h : m ≤ n) : a % 2 ^ n % 2 ^ m = a % 2 ^ m := Nat.mod_mod_of_dvd a (Nat.pow_dvd_pow 2 h)

theorem succ5 (d : Nat) : 5 * (d + 1) = 5 * d + 5 := by omega

/-- One step of a lookup: p's row at depth d; its cell is a symbol that p fits, leads on to p's row, or none fits. -/
theorem Inv.step {C : Cells} {sz : Nat} {laid : Nat → Prop} {f path : Nat → Nat} {E : Nat → Nat → Prop} {R : Nat → Nat → Nat} (v : Inv C sz laid f path E R)
    (p d : Nat) (he : E d (p % 2 ^ (5 * d))) (hno : ∀ i, laid i → f i ≤ 5 * d → p % 2 ^ f i ≠ path i) :
    (∃ i, laid i ∧ p % 2 ^ f i = path i ∧ C.S (R d (p % 2 ^ (5 * d)) + p / 2 ^ (5 * d) % 32) = i ∧ C.L (R d (p % 2 ^ (5 * d)) + p / 2 ^ (5 * d) % 32) = f i ∧ C.F (R d (p % 2 ^ (5 * d)) + p / 2 ^ (5 * d) % 32) = 0) ∨
    (E (d + 1) (p % 2 ^ (5 * (d + 1))) ∧ C.F (R d (p % 2 ^ (5 * d)) + p / 2 ^ (5 * d) % 32) = R (d + 1) (p % 2 ^ (5 * (d + 1))) ∧ 0 < R (d + 1) (p % 2 ^ (5 * (d + 1))) ∧ (∀ i, laid i → f i ≤ 5 * (d + 1) → p % 2 ^ f i ≠ path i)) ∨
    ((∀ i, laid i → p % 2 ^ f i ≠ path i) ∧ C.L (R d (p % 2 ^ (5 * d)) + p / 2 ^ (5 * d) % 32) = 0 ∧ C.F (R d (p % 2 ^ (5 * d)) + p / 2 ^ (5 * d) % 32) = 0) := by
  have hq : p % 2 ^ (5 * d) + (p / 2 ^ (5 * d) % 32) * 2 ^ (5 * d) = p % 2 ^ (5 * (d + 1)) := by rw [succ5, split]
  have hc : p / 2 ^ (5 * d) % 32 < 32 := Nat.mod_lt _ (by decide)
  by_cases hh : ∃ i, Here laid f path d (p % 2 ^ (5 * (d + 1))) i
  · obtain ⟨i, hi⟩ := hh
    have hs := v.sym d _ _ i he hc (by rw [hq]; exact hi)
    obtain ⟨h1, h2, h3, h4⟩ := hi
    refine .inl ⟨i, h1, ?_, hs⟩
    rw [mod_mod (by omega)] at h4
    exact h4
  · have hh' : ∀ i, ¬ Here laid f path d (p % 2 ^ (5 * (d + 1))) i := fun i h => hh ⟨i, h⟩
    have hno' : ∀ i, laid i → f i ≤ 5 * (d + 1) → p % 2 ^ f i ≠ path i := by
      intro i hi hle e
      by_cases h5 : f i ≤ 5 * d
      · exact hno i hi h5 e
      · exact hh' i ⟨hi, by omega, by omega, by rw [mod_mod hle]; exact e⟩
    by_cases hE : E (d + 1) (p % 2 ^ (5 * (d + 1)))
    · have ho := v.on d _ _ he hc (by rw [hq]; exact hE)
      rw [hq] at ho
      refine .inr (.inl ⟨hE, ho.2, ?_, hno'⟩)
      rcases Nat.eq_zero_or_pos (R (d + 1) (p % 2 ^ (5 * (d + 1)))) with h0 | h0
      · have := (v.inj _ _ 0 0 hE v.root.1 (by rw [h0, v.root.2])).1
        omega
      · exact h0
    · have hn := v.none d _ _ he hc (by rw [hq]; exact hE) (by rw [hq]; exact hh')
      refine .inr (.inr ⟨?_, hn⟩)
      intro i hi e
      by_cases h5 : f i ≤ 5 * (d + 1)
      · exact hno' i hi h5 e
      · have := v.rows i hi (d + 1) (by omega)
        rw [← e, mod_mod (by omega)] at this
        exact hE this

/-- A row more, for bits that lead to none yet. -/
theorem Inv.add {C C' : Cells} {sz : Nat} {laid : Nat → Prop} {f path : Nat → Nat} {E : Nat → Nat → Prop} {R : Nat → Nat → Nat} (v : Inv C sz laid f path E R)
    (hsz : ∃ r, sz = 32 * r) (d q c : Nat) (he : E d q) (hc : c < 32) (hn : ¬ E (d + 1) (q + c * 2 ^ (5 * d))) (hno : ∀ i, ¬ Here laid f path d (q + c * 2 ^ (5 * d)) i)
    (hsame : ∀ x, x < sz → x ≠ R d q + c → C'.S x = C.S x ∧ C'.L x = C.L x ∧ C'.F x = C.F x) (hat : C'.F (R d q + c) = sz) (hnew : ∀ x, x < 32 → C'.L (sz + x) = 0 ∧ C'.F (sz + x) = 0) :
    Inv C' (sz + 32) laid f path (fun d' q' => E d' q' ∨ (d' = d + 1 ∧ q' = q + c * 2 ^ (5 * d))) (fun d' q' => if d' = d + 1 ∧ q' = q + c * 2 ^ (5 * d) then sz else R d' q') := by
  have hql := v.lt d q he
  have hq5 : q + c * 2 ^ (5 * d) < 2 ^ (5 * (d + 1)) := by
    rw [succ5, pow5]
    have : (c + 1) * 2 ^ (5 * d) ≤ 32 * 2 ^ (5 * d) := Nat.mul_le_mul_right _ hc
    rw [Nat.add_mul] at this
    rw [Nat.mul_comm (2 ^ (5 * d))]
    omega
  have hmodq : (q + c * 2 ^ (5 * d)) % 2 ^ (5 * d) = q := by rw [Nat.add_mul_mod_self_right, Nat.mod_eq_of_lt hql]
  -- a row that was there isn't the new one
  have old : ∀ d' q', E d' q' → ¬ (d' = d + 1 ∧ q' = q + c * 2 ^ (5 * d)) := by
    rintro d' q' h ⟨rfl, rfl⟩
    exact hn h
  have cellne : ∀ d' q' c', E d' q' → c' < 32 → ¬ (d' = d ∧ q' = q ∧ c' = c) → R d' q' + c' ≠ R d q + c := by
    intro d' q' c' h' hc' hne e
    obtain ⟨r, hr, _⟩ := v.row d q he
    obtain ⟨r', hr', _⟩ := v.row d' q' h'
    have : r = r' := by omega
    obtain ⟨rfl, rfl⟩ := v.inj _ _ _ _ h' he (by omega)
    exact hne ⟨rfl, rfl, by omega⟩
  have celllt : ∀ d' q' c', E d' q' → c' < 32 → R d' q' + c' < sz := by
    intro d' q' c' h' hc'
    obtain ⟨r', hr', h⟩ := v.row d' q' h'
    omega
  have inj2 : ∀ d' c1 q1 c2 q2, q1 < 2 ^ (5 * d') → q2 < 2 ^ (5 * d') → q1 + c1 * 2 ^ (5 * d') = q2 + c2 * 2 ^ (5 * d') → q1 = q2 ∧ c1 = c2 := by
    intro d' c1 q1 c2 q2 h1 h2 e
    have a := congrArg (· % 2 ^ (5 * d')) e
    simp only [Nat.add_mul_mod_self_right] at a
    rw [Nat.mod_eq_of_lt h1, Nat.mod_eq_of_lt h2] at a
    refine ⟨a, ?_⟩
    rw [a] at e
    exact Nat.eq_of_mul_eq_mul_right (Nat.pow_pos (n := 5 * d') (by decide : 0 < 2)) (by omega)
  -- nothing laid goes through the new row
  have through : ∀ i, laid i → 5 * (d + 1) < f i → path i % 2 ^ (5 * (d + 1)) ≠ q + c * 2 ^ (5 * d) := by
    intro i hi h e
    have := v.rows i hi (d + 1) h
    rw [e] at this
    exact hn this
  refine ⟨⟨.inl v.root.1, ?_⟩, ?_, ?_, ?_, ?_, ?_, ?_, ?_, ?_⟩
  · rw [if_neg (by omega)]
    exact v.root.2
  · intro d' q' h
    by_cases e : d' = d + 1 ∧ q' = q + c * 2 ^ (5 * d)
    · obtain ⟨r, hr⟩ := hsz
      exact ⟨r, by rw [if_pos e]; exact hr, by omega⟩
    · rcases h with h | h
      · obtain ⟨r, h1, h2⟩ := v.row d' q' h
        exact ⟨r, by rw [if_neg e]; exact h1, by omega⟩
      · exact absurd h e
  · intro d1 q1 d2 q2 h1 h2 e
    by_cases e1 : d1 = d + 1 ∧ q1 = q + c * 2 ^ (5 * d)
    · by_cases e2 : d2 = d + 1 ∧ q2 = q + c * 2 ^ (5 * d)
      · exact ⟨by omega, by omega⟩
      · rw [if_pos e1, if_neg e2] at e
        rcases h2 with h2 | h2
        · have := celllt d2 q2 0 h2 (by omega); omega
        · exact absurd h2 e2
    · by_cases e2 : d2 = d + 1 ∧ q2 = q + c * 2 ^ (5 * d)
      · rw [if_neg e1, if_pos e2] at e
        rcases h1 with h1 | h1
        · have := celllt d1 q1 0 h1 (by omega); omega
        · exact absurd h1 e1
      · rw [if_neg e1, if_neg e2] at e
        rcases h1 with h1 | h1
        · rcases h2 with h2 | h2
          · exact v.inj _ _ _ _ h1 h2 e
          · exact absurd h2 e2
        · exact absurd h1 e1
  · rintro d' q' (h | ⟨rfl, rfl⟩)
    · exact v.lt d' q' h
    · exact hq5
  · rintro d' q' (h | ⟨h1, h2⟩)
    · exact .inl (v.up d' q' h)
    · obtain rfl : d' = d := by omega
      subst h2
      rw [hmodq]
      exact .inl he
  · intro i hi d' h
    exact .inl (v.rows i hi d' h)
  · rintro d' q' c' i (h | ⟨rfl, rfl⟩) hc' hh
    · have ho := old d' q' h
      rw [if_neg ho]
      have hne := cellne d' q' c' h hc' (by rintro ⟨rfl, rfl, rfl⟩; exact hno i hh)
      obtain ⟨a1, a2, a3⟩ := hsame _ (celllt d' q' c' h hc') hne
      rw [a1, a2, a3]
      exact v.sym d' q' c' i h hc' hh
    · exfalso
      obtain ⟨g1, g2, g3, g4⟩ := hh
      refine through i g1 g2 ?_
      rw [← g4, mod_mod (by omega), Nat.add_mul_mod_self_right, Nat.mod_eq_of_lt hq5]
  · rintro d' q' c' (h | ⟨rfl, rfl⟩) hc' hE
    · have ho := old d' q' h
      rw [if_neg ho]
      by_cases e : d' = d ∧ q' = q ∧ c' = c
      · obtain ⟨rfl, rfl, rfl⟩ := e
        exact ⟨hno, by rw [if_pos ⟨rfl, rfl⟩]; exact hat⟩
      · rcases hE with hE | ⟨h1, h2⟩
        · obtain ⟨a1, a2⟩ := v.on d' q' c' h hc' hE
          refine ⟨a1, ?_⟩
          rw [(hsame _ (celllt d' q' c' h hc') (cellne d' q' c' h hc' e)).2.2, a2, if_neg (old _ _ hE)]
        · obtain rfl : d' = d := by omega
          obtain ⟨rfl, rfl⟩ := inj2 _ _ _ _ _ (v.lt _ _ h) hql h2
          exact absurd ⟨rfl, rfl, rfl⟩ e
    · exfalso
      rcases hE with hE | ⟨h1, _⟩
      · have := v.up _ _ hE
        rw [Nat.add_mul_mod_self_right, Nat.mod_eq_of_lt hq5] at this
        exact hn this
      · omega
  · rintro d' q' c' (h | ⟨rfl, rfl⟩) hc' hE hh
    · have ho := old d' q' h
      rw [if_neg ho]
      have e : ¬ (d' = d ∧ q' = q ∧ c' = c) := by
        rintro ⟨rfl, rfl, rfl⟩
        exact hE (.inr ⟨rfl, rfl⟩)
      obtain ⟨a1, a2, a3⟩ := hsame _ (celllt d' q' c' h hc') (cellne d' q' c' h hc' e)
      rw [a2, a3]
      exact v.none d' q' c' h hc' (fun x => hE (.inl x)) hh
    · rw [if_pos ⟨rfl, rfl⟩]
      exact hnew c' hc'

/-- A symbol laid into its row. -/
theorem Inv.fill {C C' : Cells} {sz : Nat} {laid : Nat → Prop} {f path : Nat → Nat} {E : Nat → Nat → Prop} {R : Nat → Nat → Nat} (v : Inv C sz laid f path E R)
    (i0 d : Nat) (hs : Sym (fun i => laid i ∨ i = i0) f path) (hnot : ¬ laid i0) (h1 : 5 * d < f i0) (h2 : f i0 ≤ 5 * d + 5)
    (hrows : ∀ d', 5 * d' < f i0 → E d' (path i0 % 2 ^ (5 * d'))) (hown : ∀ d q, E (d + 1) q → ∃ j, (laid j ∨ j = i0) ∧ 5 * (d + 1) < f j ∧ path j % 2 ^ (5 * (d + 1)) = q)
    (hat : ∀ c, c < 32 → (path i0 % 2 ^ (5 * d) + c * 2 ^ (5 * d)) % 2 ^ f i0 = path i0 → C'.S (R d (path i0 % 2 ^ (5 * d)) + c) = i0 ∧ C'.L (R d (path i0 % 2 ^ (5 * d)) + c) = f i0 ∧ C'.F (R d (path i0 % 2 ^ (5 * d)) + c) = 0)
    (hsame : ∀ x, (∀ c, c < 32 → (path i0 % 2 ^ (5 * d) + c * 2 ^ (5 * d)) % 2 ^ f i0 = path i0 → x ≠ R d (path i0 % 2 ^ (5 * d)) + c) → C'.S x = C.S x ∧ C'.L x = C.L x ∧ C'.F x = C.F x) :
    Inv C' sz (fun i => laid i ∨ i = i0) f path E R := by
  have he := hrows d h1
  have cellne : ∀ d' q' c', E d' q' → c' < 32 → (∀ i, i = i0 → ¬ Here (fun i => laid i ∨ i = i0) f path d' (q' + c' * 2 ^ (5 * d')) i) → ∀ c, c < 32 → (path i0 % 2 ^ (5 * d) + c * 2 ^ (5 * d)) % 2 ^ f i0 = path i0 → R d' q' + c' ≠ R d (path i0 % 2 ^ (5 * d)) + c := by
    intro d' q' c' h' hc' hnh c hc hfit e
    obtain ⟨r, hr, _⟩ := v.row d _ he
    obtain ⟨r', hr', _⟩ := v.row d' q' h'
    have hcc : c' = c := by omega
    obtain ⟨rfl, rfl⟩ := v.inj _ _ _ _ h' he (by omega)
    subst hcc
    exact hnh i0 rfl ⟨.inr rfl, h1, h2, hfit⟩
  -- where i0 is here, it is at depth d, in its row
  have here0 : ∀ d' q', E d' q' → ∀ c', Here (fun i => laid i ∨ i = i0) f path d' (q' + c' * 2 ^ (5 * d')) i0 → d' = d ∧ q' = path i0 % 2 ^ (5 * d) := by
    intro d' q' h' c' hh
    obtain ⟨_, a1, a2, a3⟩ := hh
    obtain rfl : d' = d := by omega
    refine ⟨rfl, ?_⟩
    rw [← a3, mod_mod (by omega), Nat.add_mul_mod_self_right, Nat.mod_eq_of_lt (v.lt _ _ h')]
  refine ⟨v.root, v.row, v.inj, v.lt, v.up, ?_, ?_, ?_, ?_⟩
  · rintro i (hi | rfl) d' h
    · exact v.rows i hi d' h
    · exact hrows d' h
  · intro d' q' c' i h hc' hh
    by_cases e : i = i0
    · subst e
      obtain ⟨rfl, rfl⟩ := here0 d' q' h c' hh
      exact hat c' hc' hh.2.2.2
    · have hl : laid i := by
        rcases hh.1 with h' | h'
        · exact h'
        · exact absurd h' e
      have hn0 : ∀ i, i = i0 → ¬ Here (fun i => laid i ∨ i = i0) f path d' (q' + c' * 2 ^ (5 * d')) i := by
        intro x hx h0
        rw [hx] at h0
        obtain ⟨_, a1, a2, a3⟩ := h0
        obtain ⟨_, b1, b2, b3⟩ := hh
        rcases Nat.le_total (f i) (f i0) with hle | hle
        · exact e (hs.apart i i0 (.inl hl) (.inr rfl) hle (by rw [← a3, mod_mod hle]; exact b3))
        · exact e (hs.apart i0 i (.inr rfl) (.inl hl) hle (by rw [← b3, mod_mod hle]; exact a3)).symm
      obtain ⟨a1, a2, a3⟩ := hsame _ (cellne d' q' c' h hc' hn0)
      rw [a1, a2, a3]
      exact v.sym d' q' c' i h hc' ⟨hl, hh.2⟩
  · intro d' q' c' h hc' hE
    have hn0 : ∀ i, i = i0 → ¬ Here (fun i => laid i ∨ i = i0) f path d' (q' + c' * 2 ^ (5 * d')) i := by
      intro x hx h0
      rw [hx] at h0
      obtain ⟨_, a1, a2, a3⟩ := h0
      obtain ⟨j, hj, b1, b2⟩ := hown _ _ hE
      rcases hj with hj | rfl
      · have hle : f i0 ≤ f j := by omega
        have := hs.apart i0 j (.inr rfl) (.inl hj) hle (by
          have e : path j % 2 ^ f i0 = path j % 2 ^ (5 * (d' + 1)) % 2 ^ f i0 := by rw [mod_mod (by omega)]
          rw [e, b2]; exact a3)
        subst this
        exact hnot hj
      · omega
    obtain ⟨a1, a2, a3⟩ := hsame _ (cellne d' q' c' h hc' hn0)
    obtain ⟨o1, o2⟩ := v.on d' q' c' h hc' hE
    refine ⟨fun i hh => ?_, by rw [a3]; exact o2⟩
    rcases hh.1 with hl | rfl
    · exact o1 i ⟨hl, hh.2⟩
    · exact hn0 _ rfl hh
  · intro d' q' c' h hc' hE hh
    obtain ⟨a1, a2, a3⟩ := hsame _ (cellne d' q' c' h hc' (fun i _ => hh i))
    rw [a2, a3]
    exact v.none d' q' c' h hc' hE (fun i x => hh i ⟨.inl x.1, x.2⟩)

end Tb
end Go.Proofs.YtffjkceedbblgaaGreatDoor

/- A table in memory: its codes and its cells; a row more. -/
namespace Go.Proofs.YtffjkceedbblgaaGreatDoor
open Go.RowKit

def cell3 (C : Tb.Cells) (i : Nat) : List Value := [.int .i64 (C.S i : Nat), .int .i64 (C.L i : Nat), .int .i64 (C.F i : Nat)]
def cellV (C : Tb.Cells) (n : Nat) : List Value := (List.range n).flatMap (cell3 C)

theorem cellV_succ (C : Tb.Cells) (n : Nat) : cellV C (n + 1) = cellV C n ++ cell3 C n := by
  unfold cellV
  rw [List.range_succ, List.flatMap_append]
  simp

theorem length_cellV (C : Tb.Cells) : ∀ n, (cellV C n).length = n * 3
  | 0 => rfl
  | n + 1 => by rw [cellV_succ, List.length_append, length_cellV C n]; simp [cell3]; omega

theorem cellV_get (C : Tb.Cells) (i j : Nat) (hj : j < 3) : ∀ n, i < n → (cellV C n)[i * 3 + j]? = (cell3 C i)[j]?
  | 0, h => by omega
  | n + 1, h => by
    rw [cellV_succ]
    have hl := length_cellV C n
    by_cases e : i = n
    · subst e
      rw [List.getElem?_append_right (by omega), hl]
      congr 1
      omega
    · rw [List.getElem?_append_left (by omega)]
      exact cellV_get C i j hj n (by omega)

theorem cellV_ext (C D : Tb.Cells) : ∀ n, (∀ i, i < n → C.S i = D.S i ∧ C.L i = D.L i ∧ C.F i = D.F i) → cellV C n = cellV D n
  | 0, _ => rfl
  | n + 1, h => by
    obtain ⟨h1, h2, h3⟩ := h n (by omega)
    rw [cellV_succ, cellV_succ, cellV_ext C D n (fun i hi => h i (by omega)), cell3, cell3, h1, h2, h3]

/-- The cells, nought from sz on. -/
def cut (C : Tb.Cells) (sz : Nat) : Tb.Cells := ⟨fun i => if i < sz then C.S i else 0, fun i => if i < sz then C.L i else 0, fun i => if i < sz then C.F i else 0⟩

theorem cut_same (C : Tb.Cells) (sz i : Nat) (h : i < sz) : (cut C sz).S i = C.S i ∧ (cut C sz).L i = C.L i ∧ (cut C sz).F i = C.F i := by
  refine ⟨?_, ?_, ?_⟩ <;> exact if_pos h
theorem cut_past (C : Tb.Cells) (sz i : Nat) (h : sz ≤ i) : (cut C sz).S i = 0 ∧ (cut C sz).L i = 0 ∧ (cut C sz).F i = 0 := by
  refine ⟨?_, ?_, ?_⟩ <;> exact if_neg (by omega)

theorem cellV_cut (C : Tb.Cells) (sz : Nat) : ∀ n, cellV (cut C sz) (sz + n) = cellV C sz ++ List.replicate (n * 3) (.int .i64 0)
  | 0 => by
    rw [Nat.add_zero, Nat.zero_mul, List.replicate_zero, List.append_nil]
    exact cellV_ext _ _ _ (fun i hi => cut_same C sz i hi)
  | n + 1 => by
    obtain ⟨h1, h2, h3⟩ := cut_past C sz (sz + n) (by omega)
    rw [← Nat.add_assoc, cellV_succ, cellV_cut C sz n, cell3, h1, h2, h3, List.append_assoc]
    congr 1
    rw [show (n + 1) * 3 = n * 3 + 3 by omega, ← List.replicate_append_replicate]
    rfl

def Tab (w : World) (b : Nat) (cv : Value) (C : Tb.Cells) (sz : Nat) : Prop :=
  ∃ v, w.heap[b]? = some (.cells #[cv, v] 155 (0, 0)) ∧ w.ownsRow 0 167 3 v sz (cellV C sz)

/-- The blocks that the table at b uses for its cells. -/
def TFp (w : World) (b k : Nat) : Prop := k = b ∨ ∃ c v, w.heap[b]? = some (.cells #[c, v] 155 (0, 0)) ∧ v.ownBlock = some k

structure TStep (w w' : World) (b : Nat) (cv : Value) (C : Tb.Cells) (sz : Nat) : Prop where
  tab : Tab w' b cv C sz
  touch : Touch (TFp w b) w w'
  fp : ∀ k, TFp w' b k → TFp w b k ∨ w.heap.size ≤ k

theorem TStep.refl {w : World} {b : Nat} {cv : Value} {C : Tb.Cells} {sz : Nat} (h : Tab w b cv C sz) : TStep w w b cv C sz := ⟨h, Touch.refl _ _, fun _ h => .inl h⟩
theorem TStep.trans {a w c : World} {b : Nat} {cv : Value} {C D : Tb.Cells} {sz sz' : Nat} (h : TStep a w b cv C sz) (k : TStep w c b cv D sz') : TStep a c b cv D sz' :=
  ⟨k.tab, h.touch.trans k.touch (fun i hi e => (h.fp i e).elim id (fun g => by omega)),
    fun i e => (k.fp i e).elim (fun e => h.fp i e) (fun e => .inr (Nat.le_trans h.touch.size e))⟩

theorem Tab.lt {w : World} {b : Nat} {cv : Value} {C : Tb.Cells} {sz : Nat} (h : Tab w b cv C sz) : b < w.heap.size := by
  obtain ⟨v, h, _⟩ := h
  exact lt_of_block h
theorem Tab.fp_lt {w : World} {b : Nat} {cv : Value} {C : Tb.Cells} {sz : Nat} (h : Tab w b cv C sz) {k : Nat} (hk : TFp w b k) : k < w.heap.size := by
  rcases hk with rfl | ⟨c, v, hb, ho⟩
  · exact h.lt
  · obtain ⟨v', hb', hown⟩ := h
    rw [hb] at hb'
    simp at hb'
    obtain ⟨rfl, rfl⟩ := hb'
    exact (hown.lt k ho).2
theorem Tab.kept {w w' : World} {b : Nat} {cv : Value} {C : Tb.Cells} {sz : Nat} (h : Tab w b cv C sz) (hk : ∀ k, TFp w b k → w'.heap[k]? = w.heap[k]?) : Tab w' b cv C sz := by
  obtain ⟨v, hb, hown⟩ := h
  refine ⟨v, (hk b (.inl rfl)).trans hb, hown.1, ?_⟩
  rcases hown.2 with h2 | ⟨g, cap, cur, hv, hg, hh, r⟩
  · exact .inl h2
  · exact .inr ⟨g, cap, cur, hv, hg, (hk g (.inr ⟨cv, v, hb, by rw [hv]; rfl⟩)).trans hh, r⟩

theorem tab_own_ne {w : World} {b : Nat} {cv v : Value} {n : Nat} {xs : List Value} (hb : w.heap[b]? = some (.cells #[cv, v] 155 (0, 0))) (w' : World) (v' : Value) (hb' : w'.heap[b]? = some (.cells #[cv, v] 155 (0, 0))) (h : w'.ownsRow 0 167 3 v' n xs) : v'.ownBlock ≠ some b := by
  intro e
  rcases h.2 with ⟨rfl, _⟩ | ⟨g, cap, cur, rfl, _, hh, _⟩
  · simp [Value.ownBlock] at e
  · simp [Value.ownBlock] at e
    subst e
    rw [hb'] at hh
    simp at hh

set_option maxHeartbeats 1000000 in
theorem addRow_raw (b n : Nat) (cv v : Value) (xs : List Value) (w : World) (hv : ∃ a cap, v = .slice a n cap) (hown : w.ownsRow 0 167 3 v n xs) (hb : w.heap[b]? = some (.cells #[cv, v] 155 (0, 0))) (hn : n ≤ 1000000) :
    Calls Tryz.prog 86 #[.pointer (some ⟨b, 0, none⟩)] w fun e w' => e = .returned (.int .i64 n) ∧
      ∃ w1 v', w1.ownsRow 0 167 3 v' (n + 32) (xs ++ List.replicate 96 (.int .i64 0)) ∧ w.grownBy w1 v.ownBlock ∧ (v'.ownBlock = v.ownBlock ∨ v'.ownBlock = some w.heap.size) ∧ w' = w1.setCell ⟨b, 1, none⟩ v' := by
  have hblt := lt_of_block hb
  have hbv := tab_own_ne hb w v hb hown
  have h1 := cell_two1 hb
  have key : ∀ (v' : Value) (w1 : World), w1.ownsRow 0 167 3 v' (n + 32) (xs ++ List.replicate 96 (.int .i64 0)) → w.grownBy w1 v.ownBlock → (∃ g cap, v' = .slice (some ⟨g, 0, none⟩) (n + 32) cap) ∧ w1.heap[b]? = some (.cells #[cv, v] 155 (0, 0)) := by
    intro v' w1 ho hg
    refine ⟨?_, by rw [hg.block b hblt (fun e => hbv e.symm)]; exact hb⟩
    rcases ho.2 with ⟨_, h⟩ | ⟨g, cap, cur, rfl, _⟩
    · omega
    · exact ⟨g, cap, rfl⟩
  have KEY := hid key
  have OW := hid hown
  clear key hb hbv hblt hown
  obtain ⟨a, cap, rfl⟩ := hv
  go_enter Tryz.func86, Tryz.ntmps86
  go_wp2_with (first
    | (at_builtin; refine wpList_zeros _ rfl _ _ rfl _ _ _ rfl rfl OW.out (by omega) ?_)
    | go_in)
  intro v' w1 ho hg hwh
  obtain ⟨⟨g, cap1, hv1⟩, hb1⟩ := KEY.out v' w1 ho hg
  rw [hv1] at ho hwh ⊢
  have H1 := hid ho
  have H2 := hid hg
  have H3 := hid hwh
  have k1 := cell_two1 hb1
  have kf := free_two (i := 1) hb1
  clear ho hg hwh hv1 KEY OW h1
  go_wp2
  go_ret
  exact ⟨rfl, w1, _, H1.out, H2.out, H3.out, rfl⟩

theorem own_shape {w : World} {base n : Nat} {e : TypeId} {sz : Nat} {v : Value} {xs : List Value} (h : w.ownsRow base e sz v n xs) : ∃ a cap, v = .slice a n cap := by
  rcases h.2 with ⟨rfl, rfl⟩ | ⟨g, cap, cur, rfl, _⟩
  · exact ⟨none, 0, rfl⟩
  · exact ⟨_, cap, rfl⟩

theorem addRow_any (b sz : Nat) (cv : Value) (C : Tb.Cells) (w : World) (h : Tab w b cv C sz) (hn : sz ≤ 1000000) :
    Calls Tryz.prog 86 #[.pointer (some ⟨b, 0, none⟩)] w fun e w' => e = .returned (.int .i64 sz) ∧ TStep w w' b cv (cut C sz) (sz + 32) := by
  obtain ⟨v, hb, hown⟩ := h
  refine (addRow_raw b sz cv v _ w (own_shape hown) hown hb hn).mono ?_
  rintro e w' ⟨rfl, w1, v', ho, hg, hwh, rfl⟩
  have hblt := lt_of_block hb
  have hbv := tab_own_ne hb w v hb hown
  have hb1 : w1.heap[b]? = some (.cells #[cv, v] 155 (0, 0)) := by rw [hg.block b hblt (fun e => hbv e.symm)]; exact hb
  have hvb := tab_own_ne hb w1 v' hb1 ho
  have kb := two_set1 (x := v') hb1
  have hfb : TFp w b b := .inl rfl
  have hfv : ∀ k, v.ownBlock = some k → TFp w b k := fun k hk => .inr ⟨cv, v, hb, hk⟩
  refine ⟨rfl, ⟨v', kb, ?_⟩, ?_, ?_⟩
  · refine ownsRow_setCell_other ?_ hvb _
    rw [cellV_cut C sz 32]
    exact ho
  · exact ((Touch.refl _ w).grown hg (fun k hk _ => hfv k hk)).setCell (fun _ => hfb) _
  · intro k hk
    rcases hk with hk | ⟨c2, v2, hk, hok⟩
    · exact .inl (.inl hk)
    · rw [kb] at hk
      simp at hk
      obtain ⟨rfl, rfl⟩ := hk
      rcases hwh with h | h
      · exact .inl (hfv k (by rw [← h]; exact hok))
      · rw [h] at hok
        simp at hok
        exact .inr (by omega)

/-- A cell of the table. -/
theorem Tab.cells {w : World} {b : Nat} {cv : Value} {C : Tb.Cells} {sz : Nat} (h : Tab w b cv C sz) (hsz : 0 < sz) : ∃ g cap, w.heap[b]? = some (.cells #[cv, .slice (some ⟨g, 0, none⟩) sz cap] 155 (0, 0)) ∧ b ≠ g ∧
    (∀ i, i < sz → w.cell? ⟨g, i * 3, none⟩ = some (.int .i64 (C.S i : Nat)) ∧ w.cell? ⟨g, i * 3 + 1, none⟩ = some (.int .i64 (C.L i : Nat)) ∧ w.cell? ⟨g, i * 3 + 2, none⟩ = some (.int .i64 (C.F i : Nat))) ∧ ∀ j, w.frozen? ⟨g, j, none⟩ = false := by
  obtain ⟨v, hb, hown⟩ := h
  have hne := tab_own_ne hb w v hb hown
  rcases hown.2 with ⟨_, h⟩ | ⟨g, cap, cur, rfl, _, hh, _⟩
  · omega
  · refine ⟨g, cap, hb, fun e => hne (by simp [Value.ownBlock, e]), fun i hi => ?_, fun j => by simp [World.frozen?, hh]⟩
    have c0 := hown.cells (g := g) rfl (i * 3) (.int .i64 (C.S i : Nat)) (by have := cellV_get C i 0 (by decide) sz hi; simpa [cell3] using this)
    have c1 := hown.cells (g := g) rfl (i * 3 + 1) (.int .i64 (C.L i : Nat)) (by have := cellV_get C i 1 (by decide) sz hi; simpa [cell3] using this)
    have c2 := hown.cells (g := g) rfl (i * 3 + 2) (.int .i64 (C.F i : Nat)) (by have := cellV_get C i 2 (by decide) sz hi; simpa [cell3] using this)
    rw [add_zero] at c0 c1 c2
    exact ⟨c0, c1, c2⟩
end Go.Proofs.YtffjkceedbblgaaGreatDoor

/- Take and Bytes of a reader. -/
namespace Go.Proofs.YtffjkceedbblgaaGreatDoor
open Go.RowKit

/-- The reader at b has taken t bits of s; of what was there only its block may have turned. -/
structure RStep (w w' : World) (b : Nat) (s : ByteArray) (t : Nat) : Prop where
  rd : Rd w' b s t
  touch : Touch (fun k => k = b) w w'

theorem RStep.refl {w : World} {b : Nat} {s : ByteArray} {t : Nat} (r : Rd w b s t) : RStep w w b s t := ⟨r, Touch.refl _ _⟩
theorem RStep.trans {a w c : World} {b : Nat} {s : ByteArray} {t t' : Nat} (h : RStep a w b s t) (k : RStep w c b s t') : RStep a c b s t' := ⟨k.rd, h.touch.trans k.touch (fun _ _ e => e)⟩
theorem Still.rstep {w w' : World} {b : Nat} {s : ByteArray} {t : Nat} (h : Still w w') (r : Rd w b s t) : RStep w w' b s t := ⟨h.rd r, h.touch _⟩
theorem Rd.step {w w' : World} {b : Nat} {s : ByteArray} {t : Nat} (r : Rd w b s t) (h : Still w w') (t' : Nat) : RStep w (w'.setCell ⟨b, 1, none⟩ (.int .i64 t')) b s t' :=
  ⟨(h.rd r).set, (h.touch (fun k => k = b)).setCell (p := ⟨b, 1, none⟩) (fun _ => rfl) _⟩

theorem peek_no (b : Nat) (n : Int) (w : World) (h : n < 0 ∨ 32 < n) :
    Calls Tryz.prog 89 #[.pointer (some ⟨b, 0, none⟩), .int .i64 n] w fun e w' => e = .returned (.tuple #[.int .i64 0, .int .i64 0]) ∧ w' = w := by
  go_enter Tryz.func89, Tryz.ntmps89
  go_wp2_with (go_at_call 43; refine (fits_no _ _ h).mono ?_; rintro e w ⟨rfl, rfl⟩)
  go_ret2
  exact ⟨rfl, rfl⟩

theorem take_no (b : Nat) (n : Int) (w : World) (h : n < 0 ∨ 32 < n) :
    Calls Tryz.prog 84 #[.pointer (some ⟨b, 0, none⟩), .int .i64 n] w fun e w' => e = .returned (.tuple #[.int .i64 0, .int .i64 1]) ∧ w' = w := by
  go_enter Tryz.func84, Tryz.ntmps84
  go_wp2_with (go_at_call 43; refine (fits_no _ _ h).mono ?_; rintro e w ⟨rfl, rfl⟩)
  go_ret2
  exact ⟨rfl, rfl⟩

set_option maxHeartbeats 400000 in
theorem take_yes (b : Nat) (s : ByteArray) (t n : Nat) (w : World) (r : Rd w b s t) (hs : s.size ≤ 140737488355328) (hn : n ≤ 32) (hl : t + n ≤ 8 * s.size) :
    Calls Tryz.prog 84 #[.pointer (some ⟨b, 0, none⟩), .int .i64 n] w fun e w' => e = .returned (.tuple #[.int .i64 (Bt.rval s t n : Nat), .int .i64 0]) ∧ RStep w w' b s (t + n) := by
  have hp := peek_yes b s t n w r hs (by omega) hn
  rw [show min n (8 * s.size - t) = n by omega] at hp
  have HP : Hid _ := hp
  clear hp
  go_enter Tryz.func84, Tryz.ntmps84
  go_wp2_with (go_at_call 43; refine (fits_yes _ _ (by omega) (by omega)).mono ?_; rintro e w ⟨rfl, rfl⟩)
  refine Calls.mono HP.out ?_
  rintro e w1 ⟨rfl, hst⟩
  have H : Hid _ := hst
  have r1 := hst.rd r
  have c1 := r1.c1
  have f1 := r1.f1
  clear HP hst r1
  go_wp2
  go_ret2
  exact ⟨rfl, r.step H.out (t + n)⟩

set_option maxHeartbeats 400000 in
theorem take_end (b : Nat) (s : ByteArray) (t n : Nat) (w : World) (r : Rd w b s t) (hs : s.size ≤ 140737488355328) (hn : n ≤ 32) (ht : t ≤ 8 * s.size) (hl : 8 * s.size < t + n) :
    Calls Tryz.prog 84 #[.pointer (some ⟨b, 0, none⟩), .int .i64 n] w fun e w' => e = .returned (.tuple #[.int .i64 0, .int .i64 3]) ∧ Still w w' := by
  have hp := peek_yes b s t n w r hs (by omega) hn
  obtain ⟨m, hm⟩ : ∃ m, 8 * s.size - t = m := ⟨_, rfl⟩
  rw [show min n (8 * s.size - t) = m by omega] at hp
  have hmn : m < n := by omega
  have HP : Hid _ := hp
  clear hp hm
  go_enter Tryz.func84, Tryz.ntmps84
  go_wp2_with (go_at_call 43; refine (fits_yes _ _ (by omega) (by omega)).mono ?_; rintro e w ⟨rfl, rfl⟩)
  refine Calls.mono HP.out ?_
  rintro e w1 ⟨rfl, hst⟩
  have H : Hid _ := hst
  clear HP hst
  go_wp2
  go_ret2
  exact ⟨rfl, H.out⟩

end Go.Proofs.YtffjkceedbblgaaGreatDoor
