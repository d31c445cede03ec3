/- Plain facts on a table that is looked up by five bits at a time: what is laid is found, and nothing else; no condition. -/
namespace Go.Proofs.Ytokelpnmeknncab
namespace Tb

/-- p goes on as q says, for n bits. -/
def Fits (p n q : Nat) : Prop := p % 2 ^ n = q

structure Cells where
  S : Nat → Nat
  L : Nat → Nat
  F : Nat → Nat

/-- The symbols that are laid: each one's length and bits; none goes on as another one does. -/
structure Sym (laid : Nat → Prop) (f path : Nat → Nat) : Prop where
  len : ∀ i, laid i → 1 ≤ f i ∧ f i ≤ 15
  lt : ∀ i, laid i → path i < 2 ^ f i
  apart : ∀ i j, laid i → laid j → f i ≤ f j → path j % 2 ^ f i = path i → i = j

/-- At depth d the cell whose bits so far are q is symbol i's. -/
def Here (laid : Nat → Prop) (f path : Nat → Nat) (d q i : Nat) : Prop := laid i ∧ 5 * d < f i ∧ f i ≤ 5 * d + 5 ∧ q % 2 ^ f i = path i

structure Inv (C : Cells) (sz : Nat) (laid : Nat → Prop) (f path : Nat → Nat) (E : Nat → Nat → Prop) (R : Nat → Nat → Nat) : Prop where
  root : E 0 0 ∧ R 0 0 = 0
  row : ∀ d q, E d q → ∃ r, R d q = 32 * r ∧ 32 * r + 32 ≤ sz
  inj : ∀ d q d' q', E d q → E d' q' → R d q = R d' q' → d = d' ∧ q = q'
  lt : ∀ d q, E d q → q < 2 ^ (5 * d)
  up : ∀ d q, E (d + 1) q → E d (q % 2 ^ (5 * d))
  rows : ∀ i, laid i → ∀ d, 5 * d < f i → E d (path i % 2 ^ (5 * d))
  sym : ∀ d q c i, E d q → c < 32 → Here laid f path d (q + c * 2 ^ (5 * d)) i → C.S (R d q + c) = i ∧ C.L (R d q + c) = f i ∧ C.F (R d q + c) = 0
  on : ∀ d q c, E d q → c < 32 → E (d + 1) (q + c * 2 ^ (5 * d)) → (∀ i, ¬ Here laid f path d (q + c * 2 ^ (5 * d)) i) ∧ C.F (R d q + c) = R (d + 1) (q + c * 2 ^ (5 * d))
  none : ∀ d q c, E d q → c < 32 → ¬ E (d + 1) (q + c * 2 ^ (5 * d)) → (∀ i, ¬ Here laid f path d (q + c * 2 ^ (5 * d)) i) → C.L (R d q + c) = 0 ∧ C.F (R d q + c) = 0

theorem pow5 (d : Nat) : 2 ^ (5 * d + 5) = 2 ^ (5 * d) * 32 := by rw [Nat.pow_add]

/-- The next five bits of p. -/
theorem split (p d : Nat) : p % 2 ^ (5 * d + 5) = p % 2 ^ (5 * d) + (p / 2 ^ (5 * d) % 32) * 2 ^ (5 * d) := by
  rw [pow5, Nat.mod_mul, Nat.mul_comm (2 ^ (5 * d))]

theorem mod_mod {a m n : Nat} (h : m ≤ n) : a % 2 ^ n % 2 ^ m = a % 2 ^ m := Nat.mod_mod_of_dvd a (Nat.pow_dvd_pow 2 h)

theorem succ5 (d : Nat) : 5 * (d + 1) = 5 * d + 5 := by omega

/-- One step of a lookup: p's row at depth d; its cell is a symbol that p fits, leads on to p's row, or none fits. -/
theorem Inv.step {C : Cells} {sz : Nat} {laid : Nat → Prop} {f path : Nat → Nat} {E : Nat → Nat → Prop} {R : Nat → Nat → Nat} (v : Inv C sz laid f path E R)
    (p d : Nat) (he : E d (p % 2 ^ (5 * d))) (hno : ∀ i, laid i → f i ≤ 5 * d → p % 2 ^ f i ≠ path i) :
    (∃ i, laid i ∧ p % 2 ^ f i = path i ∧ C.S (R d (p % 2 ^ (5 * d)) + p / 2 ^ (5 * d) % 32) = i ∧ C.L (R d (p % 2 ^ (5 * d)) + p / 2 ^ (5 * d) % 32) = f i ∧ C.F (R d (p % 2 ^ (5 * d)) + p / 2 ^ (5 * d) % 32) = 0) ∨
    (E (d + 1) (p % 2 ^ (5 * (d + 1))) ∧ C.F (R d (p % 2 ^ (5 * d)) + p / 2 ^ (5 * d) % 32) = R (d + 1) (p % 2 ^ (5 * (d + 1))) ∧ 0 < R (d + 1) (p % 2 ^ (5 * (d + 1))) ∧ (∀ i, laid i → f i ≤ 5 * (d + 1) → p % 2 ^ f i ≠ path i)) ∨
    ((∀ i, laid i → p % 2 ^ f i ≠ path i) ∧ C.L (R d (p % 2 ^ (5 * d)) + p / 2 ^ (5 * d) % 32) = 0 ∧ C.F (R d (p % 2 ^ (5 * d)) + p / 2 ^ (5 * d) % 32) = 0) := by
  have hq : p % 2 ^ (5 * d) + (p / 2 ^ (5 * d) % 32) * 2 ^ (5 * d) = p % 2 ^ (5 * (d + 1)) := by rw [succ5, split]
  have hc : p / 2 ^ (5 * d) % 32 < 32 := Nat.mod_lt _ (by decide)
  by_cases hh : ∃ i, Here laid f path d (p % 2 ^ (5 * (d + 1))) i
  · obtain ⟨i, hi⟩ := hh
    have hs := v.sym d _ _ i he hc (by rw [hq]; exact hi)
    obtain ⟨h1, h2, h3, h4⟩ := hi
    refine .inl ⟨i, h1, ?_, hs⟩
    rw [mod_mod (by omega)] at h4
    exact h4
  · have hh' : ∀ i, ¬ Here laid f path d (p % 2 ^ (5 * (d + 1))) i := fun i h => hh ⟨i, h⟩
    have hno' : ∀ i, laid i → f i ≤ 5 * (d + 1) → p % 2 ^ f i ≠ path i := by
      intro i hi hle e
      by_cases h5 : f i ≤ 5 * d
      · exact hno i hi h5 e
      · exact hh' i ⟨hi, by omega, by omega, by rw [mod_mod hle]; exact e⟩
    by_cases hE : E (d + 1) (p % 2 ^ (5 * (d + 1)))
    · have ho := v.on d _ _ he hc (by rw [hq]; exact hE)
      rw [hq] at ho
      refine .inr (.inl ⟨hE, ho.2, ?_, hno'⟩)
      rcases Nat.eq_zero_or_pos (R (d + 1) (p % 2 ^ (5 * (d + 1)))) with h0 | h0
      · have := (v.inj _ _ 0 0 hE v.root.1 (by rw [h0, v.root.2])).1
        omega
      · exact h0
    · have hn := v.none d _ _ he hc (by rw [hq]; exact hE) (by rw [hq]; exact hh')
      refine .inr (.inr ⟨?_, hn⟩)
      intro i hi e
      by_cases h5 : f i ≤ 5 * (d + 1)
      · exact hno' i hi h5 e
      · have := v.rows i hi (d + 1) (by omega)
        rw [← e, mod_mod (by omega)] at this
        exact hE this

/-- A row more, for bits that lead to none yet. -/
theorem Inv.add {C C' : Cells} {sz : Nat} {laid : Nat → Prop} {f path : Nat → Nat} {E : Nat → Nat → Prop} {R : Nat → Nat → Nat} (v : Inv C sz laid f path E R)
    (hsz : ∃ r, sz = 32 * r) (d q c : Nat) (he : E d q) (hc : c < 32) (hn : ¬ E (d + 1) (q + c * 2 ^ (5 * d))) (hno : ∀ i, ¬ Here laid f path d (q + c * 2 ^ (5 * d)) i)
    (hsame : ∀ x, x < sz → x ≠ R d q + c → C'.S x = C.S x ∧ C'.L x = C.L x ∧ C'.F x = C.F x) (hat : C'.F (R d q + c) = sz) (hnew : ∀ x, x < 32 → C'.L (sz + x) = 0 ∧ C'.F (sz + x) = 0) :
    Inv C' (sz + 32) laid f path (fun d' q' => E d' q' ∨ (d' = d + 1 ∧ q' = q + c * 2 ^ (5 * d))) (fun d' q' => if d' = d + 1 ∧ q' = q + c * 2 ^ (5 * d) then sz else R d' q') := by
  have hql := v.lt d q he
  have hq5 : q + c * 2 ^ (5 * d) < 2 ^ (5 * (d + 1)) := by
    rw [succ5, pow5]
    have : (c + 1) * 2 ^ (5 * d) ≤ 32 * 2 ^ (5 * d) := Nat.mul_le_mul_right _ hc
    rw [Nat.add_mul] at this
    rw [Nat.mul_comm (2 ^ (5 * d))]
    omega
  have hmodq : (q + c * 2 ^ (5 * d)) % 2 ^ (5 * d) = q := by rw [Nat.add_mul_mod_self_right, Nat.mod_eq_of_lt hql]
  -- a row that was there isn't the new one
  have old : ∀ d' q', E d' q' → ¬ (d' = d + 1 ∧ q' = q + c * 2 ^ (5 * d)) := by
    rintro d' q' h ⟨rfl, rfl⟩
    exact hn h
  have cellne : ∀ d' q' c', E d' q' → c' < 32 → ¬ (d' = d ∧ q' = q ∧ c' = c) → R d' q' + c' ≠ R d q + c := by
    intro d' q' c' h' hc' hne e
    obtain ⟨r, hr, _⟩ := v.row d q he
    obtain ⟨r', hr', _⟩ := v.row d' q' h'
    have : r = r' := by omega
    obtain ⟨rfl, rfl⟩ := v.inj _ _ _ _ h' he (by omega)
    exact hne ⟨rfl, rfl, by omega⟩
  have celllt : ∀ d' q' c', E d' q' → c' < 32 → R d' q' + c' < sz := by
    intro d' q' c' h' hc'
    obtain ⟨r', hr', h⟩ := v.row d' q' h'
    omega
  have inj2 : ∀ d' c1 q1 c2 q2, q1 < 2 ^ (5 * d') → q2 < 2 ^ (5 * d') → q1 + c1 * 2 ^ (5 * d') = q2 + c2 * 2 ^ (5 * d') → q1 = q2 ∧ c1 = c2 := by
    intro d' c1 q1 c2 q2 h1 h2 e
    have a := congrArg (· % 2 ^ (5 * d')) e
    simp only [Nat.add_mul_mod_self_right] at a
    rw [Nat.mod_eq_of_lt h1, Nat.mod_eq_of_lt h2] at a
    refine ⟨a, ?_⟩
    rw [a] at e
    exact Nat.eq_of_mul_eq_mul_right (Nat.pow_pos (n := 5 * d') (by decide : 0 < 2)) (by omega)
  -- nothing laid goes through the new row
  have through : ∀ i, laid i → 5 * (d + 1) < f i → path i % 2 ^ (5 * (d + 1)) ≠ q + c * 2 ^ (5 * d) := by
    intro i hi h e
    have := v.rows i hi (d + 1) h
    rw [e] at this
    exact hn this
  refine ⟨⟨.inl v.root.1, ?_⟩, ?_, ?_, ?_, ?_, ?_, ?_, ?_, ?_⟩
  · rw [if_neg (by omega)]
    exact v.root.2
  · intro d' q' h
    by_cases e : d' = d + 1 ∧ q' = q + c * 2 ^ (5 * d)
    · obtain ⟨r, hr⟩ := hsz
      exact ⟨r, by rw [if_pos e]; exact hr, by omega⟩
    · rcases h with h | h
      · obtain ⟨r, h1, h2⟩ := v.row d' q' h
        exact ⟨r, by rw [if_neg e]; exact h1, by omega⟩
      · exact absurd h e
  · intro d1 q1 d2 q2 h1 h2 e
    by_cases e1 : d1 = d + 1 ∧ q1 = q + c * 2 ^ (5 * d)
    · by_cases e2 : d2 = d + 1 ∧ q2 = q + c * 2 ^ (5 * d)
      · exact ⟨by omega, by omega⟩
      · rw [if_pos e1, if_neg e2] at e
        rcases h2 with h2 | h2
        · have := celllt d2 q2 0 h2 (by omega); omega
        · exact absurd h2 e2
    · by_cases e2 : d2 = d + 1 ∧ q2 = q + c * 2 ^ (5 * d)
      · rw [if_neg e1, if_pos e2] at e
        rcases h1 with h1 | h1
        · have := celllt d1 q1 0 h1 (by omega); omega
        · exact absurd h1 e1
      · rw [if_neg e1, if_neg e2] at e
        rcases h1 with h1 | h1
        · rcases h2 with h2 | h2
          · exact v.inj _ _ _ _ h1 h2 e
          · exact absurd h2 e2
        · exact absurd h1 e1
  · rintro d' q' (h | ⟨rfl, rfl⟩)
    · exact v.lt d' q' h
    · exact hq5
  · rintro d' q' (h | ⟨h1, h2⟩)
    · exact .inl (v.up d' q' h)
    · obtain rfl : d' = d := by omega
      subst h2
      rw [hmodq]
      exact .inl he
  · intro i hi d' h
    exact .inl (v.rows i hi d' h)
  · rintro d' q' c' i (h | ⟨rfl, rfl⟩) hc' hh
    · have ho := old d' q' h
      rw [if_neg ho]
      have hne := cellne d' q' c' h hc' (by rintro ⟨rfl, rfl, rfl⟩; exact hno i hh)
      obtain ⟨a1, a2, a3⟩ := hsame _ (celllt d' q' c' h hc') hne
      rw [a1, a2, a3]
      exact v.sym d' q' c' i h hc' hh
    · exfalso
      obtain ⟨g1, g2, g3, g4⟩ := hh
      refine through i g1 g2 ?_
      rw [← g4, mod_mod (by omega), Nat.add_mul_mod_self_right, Nat.mod_eq_of_lt hq5]
  · rintro d' q' c' (h | ⟨rfl, rfl⟩) hc' hE
    · have ho := old d' q' h
      rw [if_neg ho]
      by_cases e : d' = d ∧ q' = q ∧ c' = c
      · obtain ⟨rfl, rfl, rfl⟩ := e
        exact ⟨hno, by rw [if_pos ⟨rfl, rfl⟩]; exact hat⟩
      · rcases hE with hE | ⟨h1, h2⟩
        · obtain ⟨a1, a2⟩ := v.on d' q' c' h hc' hE
          refine ⟨a1, ?_⟩
          rw [(hsame _ (celllt d' q' c' h hc') (cellne d' q' c' h hc' e)).2.2, a2, if_neg (old _ _ hE)]
        · obtain rfl : d' = d := by omega
          obtain ⟨rfl, rfl⟩ := inj2 _ _ _ _ _ (v.lt _ _ h) hql h2
          exact absurd ⟨rfl, rfl, rfl⟩ e
    · exfalso
      rcases hE with hE | ⟨h1, _⟩
      · have := v.up _ _ hE
        rw [Nat.add_mul_mod_self_right, Nat.mod_eq_of_lt hq5] at this
        exact hn this
      · omega
  · rintro d' q' c' (h | ⟨rfl, rfl⟩) hc' hE hh
    · have ho := old d' q' h
      rw [if_neg ho]
      have e : ¬ (d' = d ∧ q' = q ∧ c' = c) := by
        rintro ⟨rfl, rfl, rfl⟩
        exact hE (.inr ⟨rfl, rfl⟩)
      obtain ⟨a1, a2, a3⟩ := hsame _ (celllt d' q' c' h hc') (cellne d' q' c' h hc' e)
      rw [a2, a3]
      exact v.none d' q' c' h hc' (fun x => hE (.inl x)) hh
    · rw [if_pos ⟨rfl, rfl⟩]
      exact hnew c' hc'

/-- A symbol laid into its row. -/
theorem Inv.fill {C C' : Cells} {sz : Nat} {laid : Nat → Prop} {f path : Nat → Nat} {E : Nat → Nat → Prop} {R : Nat → Nat → Nat} (v : Inv C sz laid f path E R)
    (i0 d : Nat) (hs : Sym (fun i => laid i ∨ i = i0) f path) (hnot : ¬ laid i0) (h1 : 5 * d < f i0) (h2 : f i0 ≤ 5 * d + 5)
    (hrows : ∀ d', 5 * d' < f i0 → E d' (path i0 % 2 ^ (5 * d'))) (hown : ∀ d q, E (d + 1) q → ∃ j, (laid j ∨ j = i0) ∧ 5 * (d + 1) < f j ∧ path j % 2 ^ (5 * (d + 1)) = q)
    (hat : ∀ c, c < 32 → (path i0 % 2 ^ (5 * d) + c * 2 ^ (5 * d)) % 2 ^ f i0 = path i0 → C'.S (R d (path i0 % 2 ^ (5 * d)) + c) = i0 ∧ C'.L (R d (path i0 % 2 ^ (5 * d)) + c) = f i0 ∧ C'.F (R d (path i0 % 2 ^ (5 * d)) + c) = 0)
    (hsame : ∀ x, (∀ c, c < 32 → (path i0 % 2 ^ (5 * d) + c * 2 ^ (5 * d)) % 2 ^ f i0 = path i0 → x ≠ R d (path i0 % 2 ^ (5 * d)) + c) → C'.S x = C.S x ∧ C'.L x = C.L x ∧ C'.F x = C.F x) :
    Inv C' sz (fun i => laid i ∨ i = i0) f path E R := by
  have he := hrows d h1
  have cellne : ∀ d' q' c', E d' q' → c' < 32 → (∀ i, i = i0 → ¬ Here (fun i => laid i ∨ i = i0) f path d' (q' + c' * 2 ^ (5 * d')) i) → ∀ c, c < 32 → (path i0 % 2 ^ (5 * d) + c * 2 ^ (5 * d)) % 2 ^ f i0 = path i0 → R d' q' + c' ≠ R d (path i0 % 2 ^ (5 * d)) + c := by
    intro d' q' c' h' hc' hnh c hc hfit e
    obtain ⟨r, hr, _⟩ := v.row d _ he
    obtain ⟨r', hr', _⟩ := v.row d' q' h'
    have hcc : c' = c := by omega
    obtain ⟨rfl, rfl⟩ := v.inj _ _ _ _ h' he (by omega)
    subst hcc
    exact hnh i0 rfl ⟨.inr rfl, h1, h2, hfit⟩
  -- where i0 is here, it is at depth d, in its row
  have here0 : ∀ d' q', E d' q' → ∀ c', Here (fun i => laid i ∨ i = i0) f path d' (q' + c' * 2 ^ (5 * d')) i0 → d' = d ∧ q' = path i0 % 2 ^ (5 * d) := by
    intro d' q' h' c' hh
    obtain ⟨_, a1, a2, a3⟩ := hh
    obtain rfl : d' = d := by omega
    refine ⟨rfl, ?_⟩
    rw [← a3, mod_mod (by omega), Nat.add_mul_mod_self_right, Nat.mod_eq_of_lt (v.lt _ _ h')]
  refine ⟨v.root, v.row, v.inj, v.lt, v.up, ?_, ?_, ?_, ?_⟩
  · rintro i (hi | rfl) d' h
    · exact v.rows i hi d' h
    · exact hrows d' h
  · intro d' q' c' i h hc' hh
    by_cases e : i = i0
    · subst e
      obtain ⟨rfl, rfl⟩ := here0 d' q' h c' hh
      exact hat c' hc' hh.2.2.2
    · have hl : laid i := by
        rcases hh.1 with h' | h'
        · exact h'
        · exact absurd h' e
      have hn0 : ∀ i, i = i0 → ¬ Here (fun i => laid i ∨ i = i0) f path d' (q' + c' * 2 ^ (5 * d')) i := by
        intro x hx h0
        rw [hx] at h0
        obtain ⟨_, a1, a2, a3⟩ := h0
        obtain ⟨_, b1, b2, b3⟩ := hh
        rcases Nat.le_total (f i) (f i0) with hle | hle
        · exact e (hs.apart i i0 (.inl hl) (.inr rfl) hle (by rw [← a3, mod_mod hle]; exact b3))
        · exact e (hs.apart i0 i (.inr rfl) (.inl hl) hle (by rw [← b3, mod_mod hle]; exact a3)).symm
      obtain ⟨a1, a2, a3⟩ := hsame _ (cellne d' q' c' h hc' hn0)
      rw [a1, a2, a3]
      exact v.sym d' q' c' i h hc' ⟨hl, hh.2⟩
  · intro d' q' c' h hc' hE
    have hn0 : ∀ i, i = i0 → ¬ Here (fun i => laid i ∨ i = i0) f path d' (q' + c' * 2 ^ (5 * d')) i := by
      intro x hx h0
      rw [hx] at h0
      obtain ⟨_, a1, a2, a3⟩ := h0
      obtain ⟨j, hj, b1, b2⟩ := hown _ _ hE
      rcases hj with hj | rfl
      · have hle : f i0 ≤ f j := by omega
        have := hs.apart i0 j (.inr rfl) (.inl hj) hle (by
          have e : path j % 2 ^ f i0 = path j % 2 ^ (5 * (d' + 1)) % 2 ^ f i0 := by rw [mod_mod (by omega)]
          rw [e, b2]; exact a3)
        subst this
        exact hnot hj
      · omega
    obtain ⟨a1, a2, a3⟩ := hsame _ (cellne d' q' c' h hc' hn0)
    obtain ⟨o1, o2⟩ := v.on d' q' c' h hc' hE
    refine ⟨fun i hh => ?_, by rw [a3]; exact o2⟩
    rcases hh.1 with hl | rfl
    · exact o1 i ⟨hl, hh.2⟩
    · exact hn0 _ rfl hh
  · intro d' q' c' h hc' hE hh
    obtain ⟨a1, a2, a3⟩ := hsame _ (cellne d' q' c' h hc' (fun i _ => hh i))
    rw [a2, a3]
    exact v.none d' q' c' h hc' hE (fun i x => hh i ⟨.inl x.1, x.2⟩)

end Tb
end Go.Proofs.Ytokelpnmeknncab
