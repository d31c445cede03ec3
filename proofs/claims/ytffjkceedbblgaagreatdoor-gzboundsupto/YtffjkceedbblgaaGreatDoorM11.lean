/- Texts of this proof, one behind the other: what each says stands ahead of it. -/
import Derived.Test.YtffjkceedbblgaaGreatDoorM3
import Derived.Test.YtffjkceedbblgaaGreatDoorM6
/- Plain facts on how a symbol is laid into a table: the walk down its rows, and the cells that are filled; no condition. -/
namespace Go.Proofs.YtffjkceedbblgaaGreatDoor
namespace Tb

theorem noHere {laid : Nat → Prop} {f path : Nat → Nat} {i0 : Nat} (hs : Sym (fun i => laid i ∨ i = i0) f path) (hnot : ¬ laid i0) (d : Nat) (h1 : 5 * (d + 1) < f i0) :
    ∀ i, ¬ Here laid f path d (path i0 % 2 ^ (5 * (d + 1))) i := by
  rintro i ⟨hl, a1, a2, a3⟩
  rw [mod_mod (by omega)] at a3
  have := hs.apart i i0 (.inl hl) (.inr rfl) (by omega) a3
  subst this
  exact hnot hl

/-- On the way of symbol i0, at depth d, in the row that begins at row. -/
def Walk (C : Cells) (sz : Nat) (laid : Nat → Prop) (f path : Nat → Nat) (i0 n d row : Nat) : Prop :=
  sz % 32 = 0 ∧ sz ≤ 96 * n + 32 * (d + 1) ∧ ∃ E R, Inv C sz laid f path E R ∧ (∀ d q, E (d + 1) q → ∃ j, (laid j ∨ j = i0) ∧ 5 * (d + 1) < f j ∧ path j % 2 ^ (5 * (d + 1)) = q) ∧
    (∀ d', d' ≤ d → E d' (path i0 % 2 ^ (5 * d'))) ∧ R d (path i0 % 2 ^ (5 * d)) = row

theorem Walk.lt {C : Cells} {sz : Nat} {laid : Nat → Prop} {f path : Nat → Nat} {i0 n d row : Nat} (h : Walk C sz laid f path i0 n d row) : row % 32 = 0 ∧ row + 32 ≤ sz := by
  obtain ⟨_, _, E, R, v, _, hE, hr⟩ := h
  obtain ⟨r, h1, h2⟩ := v.row d _ (hE d (Nat.le_refl _))
  omega

theorem Walk.step {C : Cells} {sz : Nat} {laid : Nat → Prop} {f path : Nat → Nat} {i0 n d row : Nat} (h : Walk C sz laid f path i0 n d row)
    (hs : Sym (fun i => laid i ∨ i = i0) f path) (hnot : ¬ laid i0) (h1 : 5 * (d + 1) < f i0) :
    (0 < C.F (row + path i0 / 2 ^ (5 * d) % 32) ∧ Walk C sz laid f path i0 n (d + 1) (C.F (row + path i0 / 2 ^ (5 * d) % 32))) ∨
    (C.F (row + path i0 / 2 ^ (5 * d) % 32) = 0 ∧ ∀ C' : Cells, (∀ x, x < sz → x ≠ row + path i0 / 2 ^ (5 * d) % 32 → C'.S x = C.S x ∧ C'.L x = C.L x ∧ C'.F x = C.F x) → C'.F (row + path i0 / 2 ^ (5 * d) % 32) = sz →
      (∀ x, x < 32 → C'.L (sz + x) = 0 ∧ C'.F (sz + x) = 0) → Walk C' (sz + 32) laid f path i0 n (d + 1) sz) := by
  obtain ⟨h32, hle, E, R, v, hown, hE, hr⟩ := h
  have he := hE d (Nat.le_refl _)
  have hc : path i0 / 2 ^ (5 * d) % 32 < 32 := Nat.mod_lt _ (by decide)
  have hq : path i0 % 2 ^ (5 * d) + (path i0 / 2 ^ (5 * d) % 32) * 2 ^ (5 * d) = path i0 % 2 ^ (5 * (d + 1)) := by rw [succ5, split]
  have hno := noHere hs hnot d h1
  subst hr
  by_cases hx : E (d + 1) (path i0 % 2 ^ (5 * (d + 1)))
  · have ho := v.on d _ _ he hc (by rw [hq]; exact hx)
    rw [hq] at ho
    have hpos : 0 < R (d + 1) (path i0 % 2 ^ (5 * (d + 1))) := by
      rcases Nat.eq_zero_or_pos (R (d + 1) (path i0 % 2 ^ (5 * (d + 1)))) with h0 | h0
      · have := (v.inj _ _ 0 0 hx v.root.1 (by rw [h0, v.root.2])).1
        omega
      · exact h0
    refine .inl ⟨by rw [ho.2]; exact hpos, h32, by omega, E, R, v, hown, ?_, ho.2.symm⟩
    intro d' hd'
    rcases Nat.lt_or_ge d' (d + 1) with h | h
    · exact hE d' (by omega)
    · obtain rfl : d' = d + 1 := by omega
      exact hx
  · have hn := v.none d _ _ he hc (by rw [hq]; exact hx) (by rw [hq]; exact hno)
    refine .inr ⟨hn.2, ?_⟩
    intro C' hsame hat hnew
    have va := v.add ⟨sz / 32, by omega⟩ d _ _ he hc (by rw [hq]; exact hx) (by rw [hq]; exact hno) hsame hat hnew
    rw [hq] at va
    refine ⟨by omega, by omega, _, _, va, ?_, ?_, ?_⟩
    · rintro d' q' (h | ⟨h2, h3⟩)
      · exact hown d' q' h
      · obtain rfl : d' = d := by omega
        exact ⟨i0, .inr rfl, h1, h3.symm⟩
    · intro d' hd'
      rcases Nat.lt_or_ge d' (d + 1) with h | h
      · exact .inl (hE d' (by omega))
      · obtain rfl : d' = d + 1 := by omega
        exact .inr ⟨rfl, rfl⟩
    · exact if_pos ⟨rfl, rfl⟩

/-- A first row, with nothing in it. -/
theorem Walk.first {C : Cells} {laid : Nat → Prop} {f path : Nat → Nat} (i0 n : Nat) (hno : ∀ i, ¬ laid i) (hc : ∀ x, x < 32 → C.L x = 0 ∧ C.F x = 0) : Walk C 32 laid f path i0 n 0 0 := by
  refine ⟨rfl, by omega, fun d q => d = 0 ∧ q = 0, fun _ _ => 0, ⟨⟨⟨rfl, rfl⟩, rfl⟩, ?_, ?_, ?_, ?_, ?_, ?_, ?_, ?_⟩, ?_, ?_, rfl⟩
  · intro d q _
    exact ⟨0, rfl, by omega⟩
  · rintro d q d' q' ⟨rfl, rfl⟩ ⟨rfl, rfl⟩ _
    exact ⟨rfl, rfl⟩
  · rintro d q ⟨rfl, rfl⟩
    exact Nat.pow_pos (by decide)
  · rintro d q ⟨h, _⟩
    omega
  · intro i hi
    exact absurd hi (hno i)
  · intro d q c i _ _ hh
    exact absurd hh.1 (hno i)
  · rintro d q c _ _ ⟨h, _⟩
    omega
  · intro d q c _ hc' _ _
    rw [Nat.zero_add]
    exact hc c hc'
  · rintro d q ⟨h, _⟩
    omega
  · intro d' hd'
    obtain rfl : d' = 0 := by omega
    exact ⟨rfl, by simp [Nat.mod_one]⟩

theorem fit_iff (p d l c : Nat) (h : 5 * d ≤ l) : (p % 2 ^ (5 * d) + c * 2 ^ (5 * d)) % 2 ^ l = p ↔ c % 2 ^ (l - 5 * d) = p / 2 ^ (5 * d) := by
  have hl : 2 ^ l = 2 ^ (5 * d) * 2 ^ (l - 5 * d) := by rw [← Nat.pow_add]; congr 1; omega
  have hpos : 0 < 2 ^ (5 * d) := Nat.pow_pos (by decide)
  have hm := Nat.mod_lt p hpos
  rw [hl, Nat.mod_mul, Nat.add_mul_mod_self_right, Nat.mod_mod, Nat.add_mul_div_right _ _ hpos, Nat.div_eq_of_lt hm, Nat.zero_add]
  have hp := Nat.mod_add_div p (2 ^ (5 * d))
  constructor
  · intro e
    have : 2 ^ (5 * d) * (c % 2 ^ (l - 5 * d)) = 2 ^ (5 * d) * (p / 2 ^ (5 * d)) := by omega
    exact Nat.eq_of_mul_eq_mul_left hpos this
  · intro e
    rw [e]
    exact hp

/-- The cells of a row up to i whose place goes on as p0 by b are the symbol's. -/
def fillTo (C : Cells) (row p0 b s l i : Nat) : Cells :=
  ⟨fun x => if row ≤ x ∧ x < row + i ∧ (x - row) % b = p0 then s else C.S x, fun x => if row ≤ x ∧ x < row + i ∧ (x - row) % b = p0 then l else C.L x,
    fun x => if row ≤ x ∧ x < row + i ∧ (x - row) % b = p0 then 0 else C.F x⟩

theorem fillTo_pos {C : Cells} {row p0 b s l i x : Nat} (h : row ≤ x ∧ x < row + i ∧ (x - row) % b = p0) : (fillTo C row p0 b s l i).S x = s ∧ (fillTo C row p0 b s l i).L x = l ∧ (fillTo C row p0 b s l i).F x = 0 := by
  refine ⟨?_, ?_, ?_⟩ <;> exact if_pos h
theorem fillTo_neg {C : Cells} {row p0 b s l i x : Nat} (h : ¬ (row ≤ x ∧ x < row + i ∧ (x - row) % b = p0)) : (fillTo C row p0 b s l i).S x = C.S x ∧ (fillTo C row p0 b s l i).L x = C.L x ∧ (fillTo C row p0 b s l i).F x = C.F x := by
  refine ⟨?_, ?_, ?_⟩ <;> exact if_neg h

theorem fillTo_zero {C : Cells} {row p0 b s l : Nat} (hp : p0 < b) (x : Nat) : (fillTo C row p0 b s l p0).S x = C.S x ∧ (fillTo C row p0 b s l p0).L x = C.L x ∧ (fillTo C row p0 b s l p0).F x = C.F x := by
  refine fillTo_neg ?_
  rintro ⟨h1, h2, h3⟩
  rw [Nat.mod_eq_of_lt (by omega)] at h3
  omega

/-- One cell more. -/
theorem fillTo_step {C : Cells} {row p0 b s l i : Nat} (hb : 0 < b) (hp : i % b = p0) (x : Nat) :
    (x = row + i → (fillTo C row p0 b s l (i + b)).S x = s ∧ (fillTo C row p0 b s l (i + b)).L x = l ∧ (fillTo C row p0 b s l (i + b)).F x = 0) ∧
    (x ≠ row + i → (fillTo C row p0 b s l (i + b)).S x = (fillTo C row p0 b s l i).S x ∧ (fillTo C row p0 b s l (i + b)).L x = (fillTo C row p0 b s l i).L x ∧ (fillTo C row p0 b s l (i + b)).F x = (fillTo C row p0 b s l i).F x) := by
  constructor
  · rintro rfl
    exact fillTo_pos ⟨by omega, by omega, by rw [Nat.add_sub_cancel_left]; exact hp⟩
  · intro hne
    by_cases h : row ≤ x ∧ x < row + i ∧ (x - row) % b = p0
    · obtain ⟨a1, a2, a3⟩ := fillTo_pos (C := C) (s := s) (l := l) h
      obtain ⟨b1, b2, b3⟩ := fillTo_pos (C := C) (s := s) (l := l) (i := i + b) (x := x) ⟨h.1, by omega, h.2.2⟩
      rw [a1, a2, a3]
      exact ⟨b1, b2, b3⟩
    · obtain ⟨a1, a2, a3⟩ := fillTo_neg (C := C) (s := s) (l := l) h
      rw [a1, a2, a3]
      refine fillTo_neg ?_
      rintro ⟨h1, h2, h3⟩
      have hge : i ≤ x - row := by
        rcases Nat.lt_or_ge (x - row) i with h' | h'
        · exact absurd ⟨h1, by omega, h3⟩ h
        · exact h'
      have hd := Nat.mod_add_div (x - row) b
      have hi := Nat.mod_add_div i b
      rw [h3] at hd
      rw [hp] at hi
      rcases Nat.lt_trichotomy ((x - row) / b) (i / b) with g | g | g
      · have := Nat.mul_le_mul_left b (show (x - row) / b + 1 ≤ i / b from g)
        rw [Nat.mul_add] at this
        omega
      · rw [g] at hd
        omega
      · have := Nat.mul_le_mul_left b (show i / b + 1 ≤ (x - row) / b from g)
        rw [Nat.mul_add] at this
        omega

/-- The last row filled: the symbol is laid. -/
theorem Walk.fill {C : Cells} {sz : Nat} {laid : Nat → Prop} {f path : Nat → Nat} {i0 n d row i : Nat} (h : Walk C sz laid f path i0 n d row)
    (hs : Sym (fun i => laid i ∨ i = i0) f path) (hnot : ¬ laid i0) (h1 : 5 * d < f i0) (h2 : f i0 ≤ 5 * d + 5) (hi : 32 ≤ i) (hi2 : i < 32 + 2 ^ (f i0 - 5 * d)) (him : i % 2 ^ (f i0 - 5 * d) = path i0 / 2 ^ (5 * d)) :
    ∃ E R, Inv (fillTo C row (path i0 / 2 ^ (5 * d)) (2 ^ (f i0 - 5 * d)) i0 (f i0) i) sz (fun i => laid i ∨ i = i0) f path E R ∧ ∀ d q, E (d + 1) q → ∃ j, (laid j ∨ j = i0) ∧ 5 * (d + 1) < f j ∧ path j % 2 ^ (5 * (d + 1)) = q := by
  obtain ⟨h32, hle, E, R, v, hown, hE, hr⟩ := h
  refine ⟨E, R, ?_, hown⟩
  refine v.fill i0 d hs hnot h1 h2 ?_ hown ?_ ?_
  · intro d' hd'
    exact hE d' (by omega)
  · intro c hc hfit
    rw [hr]
    refine fillTo_pos ⟨by omega, by omega, ?_⟩
    rw [Nat.add_sub_cancel_left]
    exact (fit_iff _ d _ c (by omega)).mp hfit
  · intro x hx
    refine fillTo_neg ?_
    rintro ⟨a1, a2, a3⟩
    -- the places beyond the row that fit are none: the last place below i that fits is below 32
    have hlt : x - row < 32 := by
      rcases Nat.lt_or_ge (x - row) 32 with g | g
      · exact g
      · exfalso
        have hpos : 0 < 2 ^ (f i0 - 5 * d) := Nat.pow_pos (by decide)
        have hd := Nat.mod_add_div (x - row) (2 ^ (f i0 - 5 * d))
        have hj := Nat.mod_add_div i (2 ^ (f i0 - 5 * d))
        rw [a3] at hd
        rw [him] at hj
        rcases Nat.lt_or_ge ((x - row) / 2 ^ (f i0 - 5 * d)) (i / 2 ^ (f i0 - 5 * d)) with k | k
        · have := Nat.mul_le_mul_left (2 ^ (f i0 - 5 * d)) (show (x - row) / 2 ^ (f i0 - 5 * d) + 1 ≤ i / 2 ^ (f i0 - 5 * d) from k)
          rw [Nat.mul_add] at this
          omega
        · have := Nat.mul_le_mul_left (2 ^ (f i0 - 5 * d)) k
          omega
    refine hx (x - row) hlt ((fit_iff _ d _ _ (by omega)).mpr a3) ?_
    rw [hr]
    omega
end Tb
end Go.Proofs.YtffjkceedbblgaaGreatDoor

/- Cells of a table are written; rowBehind; no condition beside those told. -/
namespace Go.Proofs.YtffjkceedbblgaaGreatDoor
open Go.RowKit

theorem own_set {w : World} {base g n cap sz : Nat} {e : TypeId} {xs : List Value} (h : w.ownsRow base e sz (.slice (some ⟨g, 0, none⟩) n cap) n xs) (i : Nat) (x : Value) :
    (w.setCell ⟨g, i, none⟩ x).ownsRow base e sz (.slice (some ⟨g, 0, none⟩) n cap) n (xs.set i x) := by
  obtain ⟨h1, h2⟩ := h
  rcases h2 with ⟨h2, _⟩ | ⟨g', cap', cur, hv, hg, hh, hle, hm, hcs, htk⟩
  · simp at h2
  · simp at hv
    obtain ⟨rfl, rfl⟩ := hv
    refine ⟨by simpa using h1, .inr ⟨g, cap, cur.set! i x, rfl, hg, ?_, hle, hm, by simpa using hcs, ?_⟩⟩
    · have hlt := lt_of_block hh
      have h' : w.heap[g] = .cells cur e (0, 0) := by simpa [Array.getElem?_eq_getElem hlt] using hh
      show (w.heap.modify g _)[g]? = _
      rw [Array.getElem?_eq_getElem (by simpa using hlt), Array.getElem_modify_self, h']
      rfl
    · rw [← htk]
      simp [List.take_set]

/-- C with the cell at i told anew. -/
def putCell (C : Tb.Cells) (i s l x : Nat) : Tb.Cells := ⟨fun k => if k = i then s else C.S k, fun k => if k = i then l else C.L k, fun k => if k = i then x else C.F k⟩

theorem putCell_at (C : Tb.Cells) (i s l x : Nat) : (putCell C i s l x).S i = s ∧ (putCell C i s l x).L i = l ∧ (putCell C i s l x).F i = x := by
  refine ⟨?_, ?_, ?_⟩ <;> exact if_pos rfl
theorem putCell_ne (C : Tb.Cells) {i k : Nat} (s l x : Nat) (h : k ≠ i) : (putCell C i s l x).S k = C.S k ∧ (putCell C i s l x).L k = C.L k ∧ (putCell C i s l x).F k = C.F k := by
  refine ⟨?_, ?_, ?_⟩ <;> exact if_neg h

theorem cellV_put (C : Tb.Cells) (i s l x : Nat) : ∀ n, i < n → cellV (putCell C i s l x) n = (((cellV C n).set (i * 3) (.int .i64 s)).set (i * 3 + 1) (.int .i64 l)).set (i * 3 + 2) (.int .i64 x)
  | 0, h => by omega
  | n + 1, h => by
    have hl := length_cellV C n
    rw [cellV_succ, cellV_succ]
    by_cases e : i = n
    · subst e
      obtain ⟨h1, h2, h3⟩ := putCell_at C i s l x
      rw [List.set_append_right _ _ (by omega), List.set_append_right _ _ (by omega), List.set_append_right _ _ (by omega), hl, cell3, cell3, h1, h2, h3,
        cellV_ext (putCell C i s l x) C i (fun k hk => putCell_ne C s l x (by omega))]
      have e0 : i * 3 - i * 3 = 0 := by omega
      have e1 : i * 3 + 1 - i * 3 = 1 := by omega
      have e2 : i * 3 + 2 - i * 3 = 2 := by omega
      rw [e0, e1, e2]
      rfl
    · rw [List.set_append_left _ _ (by omega), List.set_append_left _ _ (by simp; omega), List.set_append_left _ _ (by simp; omega), cellV_put C i s l x n (by omega)]
      obtain ⟨h1, h2, h3⟩ := putCell_ne C s l x (show n ≠ i by omega)
      rw [cell3, cell3, h1, h2, h3]

theorem cellV_putF (C : Tb.Cells) (i x n : Nat) (h : i < n) : cellV (putCell C i (C.S i) (C.L i) x) n = (cellV C n).set (i * 3 + 2) (.int .i64 x) := by
  rw [cellV_put C i _ _ x n h]
  have g0 := cellV_get C i 0 (by decide) n h
  have g1 := cellV_get C i 1 (by decide) n h
  simp only [cell3, Nat.add_zero] at g0 g1
  have s0 : (cellV C n).set (i * 3) (.int .i64 (C.S i)) = cellV C n := by
    refine List.ext_getElem? (fun k => ?_)
    rw [List.getElem?_set]
    split
    · rename_i hk
      subst hk
      split
      · exact g0.symm
      · rename_i hn
        rw [length_cellV] at hn
        omega
    · rfl
  have s1 : (cellV C n).set (i * 3 + 1) (.int .i64 (C.L i)) = cellV C n := by
    refine List.ext_getElem? (fun k => ?_)
    rw [List.getElem?_set]
    split
    · rename_i hk
      subst hk
      split
      · exact g1.symm
      · rename_i hn
        rw [length_cellV] at hn
        omega
    · rfl
  rw [s0, s1]

/-- A cell of the table's cells is written. -/
theorem tab_set {w : World} {b : Nat} {cv : Value} {C D : Tb.Cells} {sz g cap : Nat} (h : Tab w b cv C sz) (hb : w.heap[b]? = some (.cells #[cv, .slice (some ⟨g, 0, none⟩) sz cap] 155 (0, 0))) (k : Nat) (x : Value)
    (hD : cellV D sz = (cellV C sz).set k x) : TStep w (w.setCell ⟨g, k, none⟩ x) b cv D sz := by
  obtain ⟨v, hb', hown⟩ := h
  rw [hb] at hb'
  simp at hb'
  subst hb'
  have hne := tab_own_ne hb w _ hb hown
  have hgb : b ≠ g := fun e => hne (by simp [Value.ownBlock, e])
  have hfg : TFp w b g := .inr ⟨cv, _, hb, rfl⟩
  have hb2 : (w.setCell ⟨g, k, none⟩ x).heap[b]? = some (.cells #[cv, .slice (some ⟨g, 0, none⟩) sz cap] 155 (0, 0)) := by
    rw [Below.heap_setCell _ _ _ _ hgb]
    exact hb
  refine ⟨⟨_, hb2, ?_⟩, (Touch.refl _ w).setCell (fun _ => hfg) _, fun j hj => .inl (hj.kept (hb2.trans hb.symm))⟩
  rw [hD]
  exact own_set hown k x

end Go.Proofs.YtffjkceedbblgaaGreatDoor

/- rowBehind of a table; conditions: the cell is there. -/
namespace Go.Proofs.YtffjkceedbblgaaGreatDoor
open Go.RowKit

theorem TStep.ext {w w' : World} {b : Nat} {cv : Value} {C D : Tb.Cells} {sz : Nat} (h : TStep w w' b cv C sz) (e : ∀ i, i < sz → C.S i = D.S i ∧ C.L i = D.L i ∧ C.F i = D.F i) : TStep w w' b cv D sz := by
  obtain ⟨⟨v, hb, hown⟩, ht, hf⟩ := h
  refine ⟨⟨v, hb, ?_⟩, ht, hf⟩
  rw [← cellV_ext C D sz e]
  exact hown

/-- A whole cell is written. -/
theorem tab_set3 {w : World} {b : Nat} {cv : Value} {C : Tb.Cells} {sz g cap : Nat} (h : Tab w b cv C sz) (hb : w.heap[b]? = some (.cells #[cv, .slice (some ⟨g, 0, none⟩) sz cap] 155 (0, 0))) (i s l : Nat) (hi : i < sz) :
    TStep w (((w.setCell ⟨g, i * 3, none⟩ (.int .i64 s)).setCell ⟨g, i * 3 + 1, none⟩ (.int .i64 l)).setCell ⟨g, i * 3 + 2, none⟩ (.int .i64 0)) b cv (putCell C i s l 0) sz := by
  obtain ⟨v, hb', hown⟩ := h
  rw [hb] at hb'
  simp at hb'
  subst hb'
  have hne := tab_own_ne hb w _ hb hown
  have hgb : b ≠ g := fun e => hne (by simp [Value.ownBlock, e])
  have hfg : TFp w b g := .inr ⟨cv, _, hb, rfl⟩
  have hb2 : (((w.setCell ⟨g, i * 3, none⟩ (.int .i64 s)).setCell ⟨g, i * 3 + 1, none⟩ (.int .i64 l)).setCell ⟨g, i * 3 + 2, none⟩ (.int .i64 0)).heap[b]? = some (.cells #[cv, .slice (some ⟨g, 0, none⟩) sz cap] 155 (0, 0)) := by
    rw [Below.heap_setCell _ _ _ _ hgb, Below.heap_setCell _ _ _ _ hgb, Below.heap_setCell _ _ _ _ hgb]
    exact hb
  refine ⟨⟨_, hb2, ?_⟩, (((Touch.refl _ w).setCell (fun _ => hfg) _).setCell (fun _ => hfg) _).setCell (fun _ => hfg) _, fun j hj => .inl (hj.kept (hb2.trans hb.symm))⟩
  rw [cellV_put C i s l 0 sz hi]
  exact own_set (own_set (own_set hown _ _) _ _) _ _

set_option maxRecDepth 100000 in
set_option maxHeartbeats 1000000 in
theorem rowBehind_any (b sz i : Nat) (cv : Value) (C : Tb.Cells) (w : World) (h : Tab w b cv C sz) (hi : i < sz) (hn : sz ≤ 1000000) :
    Calls Tryz.prog 88 #[.pointer (some ⟨b, 0, none⟩), .int .i64 i] w fun e w' =>
      (0 < C.F i ∧ e = .returned (.int .i64 (C.F i : Nat)) ∧ w' = w) ∨ (C.F i = 0 ∧ e = .returned (.int .i64 sz) ∧ TStep w w' b cv (putCell (cut C sz) i (C.S i) (C.L i) sz) (sz + 32)) := by
  obtain ⟨g, cap, hb, hbg, hcell, hfr⟩ := h.cells (by omega)
  have h1 := cell_two1 hb
  obtain ⟨e0, e1, e2⟩ := hcell i hi
  have HT := hid h
  clear h hcell hfr e0 e1 hb
  by_cases hF : 0 < C.F i
  · have hFi : (0 : Int) < (C.F i : Nat) := by omega
    generalize C.F i = x at *
    go_enter Tryz.func88, Tryz.ntmps88
    go_wp2
    go_ret
    exact .inl ⟨hF, rfl, rfl⟩
  · have hF0 : C.F i = 0 := by omega
    rw [hF0] at e2
    go_enter Tryz.func88, Tryz.ntmps88
    go_wp2_with fail
    refine (addRow_any b sz cv C w HT.out hn).mono ?_
    rintro e w1 ⟨rfl, hst⟩
    obtain ⟨g1, cap1, hb1, hbg1, hcell1, hfr1⟩ := hst.tab.cells (by omega)
    have k1 := cell_two1 hb1
    have kf := hfr1 (i * 3 + 2)
    obtain ⟨m0, m1, m2⟩ := hcell1 i (by omega)
    have ST := hid hst
    have HB1 := hid hb1
    clear hst hb1 hcell1 hfr1 h1 e2 m0 m1 hbg hbg1
    generalize (cut C sz).F i = y at *
    go_wp2
    go_ret
    refine .inr ⟨hF0, rfl, ST.out.trans (tab_set ST.out.tab HB1.out (i * 3 + 2) _ ?_)⟩
    obtain ⟨c1, c2, c3⟩ := cut_same C sz i hi
    rw [← c1, ← c2]
    exact cellV_putF (cut C sz) i sz (sz + 32) (by omega)
end Go.Proofs.YtffjkceedbblgaaGreatDoor
