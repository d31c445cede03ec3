/- Cells of a table are written; rowBehind; no condition beside those told. -/
import Derived.Test.YtokelpnmeknncabGd
import Derived.Test.YtokelpnmeknncabLk
namespace Go.Proofs.Ytokelpnmeknncab
open Go.RowKit

theorem own_set {w : World} {base g n cap sz : Nat} {e : TypeId} {xs : List Value} (h : w.ownsRow base e sz (.slice (some ⟨g, 0, none⟩) n cap) n xs) (i : Nat) (x : Value) :
    (w.setCell ⟨g, i, none⟩ x).ownsRow base e sz (.slice (some ⟨g, 0, none⟩) n cap) n (xs.set i x) := by
  obtain ⟨h1, h2⟩ := h
  rcases h2 with ⟨h2, _⟩ | ⟨g', cap', cur, hv, hg, hh, hle, hm, hcs, htk⟩
  · simp at h2
  · simp at hv
    obtain ⟨rfl, rfl⟩ := hv
    refine ⟨by simpa using h1, .inr ⟨g, cap, cur.set! i x, rfl, hg, ?_, hle, hm, by simpa using hcs, ?_⟩⟩
    · have hlt := lt_of_block hh
      have h' : w.heap[g] = .cells cur e (0, 0) := by simpa [Array.getElem?_eq_getElem hlt] using hh
      show (w.heap.modify g _)[g]? = _
      rw [Array.getElem?_eq_getElem (by simpa using hlt), Array.getElem_modify_self, h']
      rfl
    · rw [← htk]
      simp [List.take_set]

/-- C with the cell at i told anew. -/
def putCell (C : Tb.Cells) (i s l x : Nat) : Tb.Cells := ⟨fun k => if k = i then s else C.S k, fun k => if k = i then l else C.L k, fun k => if k = i then x else C.F k⟩

theorem putCell_at (C : Tb.Cells) (i s l x : Nat) : (putCell C i s l x).S i = s ∧ (putCell C i s l x).L i = l ∧ (putCell C i s l x).F i = x := by
  refine ⟨?_, ?_, ?_⟩ <;> exact if_pos rfl
theorem putCell_ne (C : Tb.Cells) {i k : Nat} (s l x : Nat) (h : k ≠ i) : (putCell C i s l x).S k = C.S k ∧ (putCell C i s l x).L k = C.L k ∧ (putCell C i s l x).F k = C.F k := by
  refine ⟨?_, ?_, ?_⟩ <;> exact if_neg h

theorem cellV_put (C : Tb.Cells) (i s l x : Nat) : ∀ n, i < n → cellV (putCell C i s l x) n = (((cellV C n).set (i * 3) (.int .i64 s)).set (i * 3 + 1) (.int .i64 l)).set (i * 3 + 2) (.int .i64 x)
  | 0, h => by omega
  | n + 1, h => by
    have hl := length_cellV C n
    rw [cellV_succ, cellV_succ]
    by_cases e : i = n
    · subst e
      obtain ⟨h1, h2, h3⟩ := putCell_at C i s l x
      rw [List.set_append_right _ _ (by omega), List.set_append_right _ _ (by omega), List.set_append_right _ _ (by omega), hl, cell3, cell3, h1, h2, h3,
        cellV_ext (putCell C i s l x) C i (fun k hk => putCell_ne C s l x (by omega))]
      have e0 : i * 3 - i * 3 = 0 := by omega
      have e1 : i * 3 + 1 - i * 3 = 1 := by omega
      have e2 : i * 3 + 2 - i * 3 = 2 := by omega
      rw [e0, e1, e2]
      rfl
    · rw [List.set_append_left _ _ (by omega), List.set_append_left _ _ (by simp; omega), List.set_append_left _ _ (by simp; omega), cellV_put C i s l x n (by omega)]
      obtain ⟨h1, h2, h3⟩ := putCell_ne C s l x (show n ≠ i by omega)
      rw [cell3, cell3, h1, h2, h3]

theorem cellV_putF (C : Tb.Cells) (i x n : Nat) (h : i < n) : cellV (putCell C i (C.S i) (C.L i) x) n = (cellV C n).set (i * 3 + 2) (.int .i64 x) := by
  rw [cellV_put C i _ _ x n h]
  have g0 := cellV_get C i 0 (by decide) n h
  have g1 := cellV_get C i 1 (by decide) n h
  simp only [cell3, Nat.add_zero] at g0 g1
  have s0 : (cellV C n).set (i * 3) (.int .i64 (C.S i)) = cellV C n := by
    refine List.ext_getElem? (fun k => ?_)
    rw [List.getElem?_set]
    split
    · rename_i hk
      subst hk
      split
      · exact g0.symm
      · rename_i hn
        rw [length_cellV] at hn
        omega
    · rfl
  have s1 : (cellV C n).set (i * 3 + 1) (.int .i64 (C.L i)) = cellV C n := by
    refine List.ext_getElem? (fun k => ?_)
    rw [List.getElem?_set]
    split
    · rename_i hk
      subst hk
      split
      · exact g1.symm
      · rename_i hn
        rw [length_cellV] at hn
        omega
    · rfl
  rw [s0, s1]

/-- A cell of the table's cells is written. -/
theorem tab_set {w : World} {b : Nat} {cv : Value} {C D : Tb.Cells} {sz g cap : Nat} (h : Tab w b cv C sz) (hb : w.heap[b]? = some (.cells #[cv, .slice (some ⟨g, 0, none⟩) sz cap] 59 (0, 0))) (k : Nat) (x : Value)
    (hD : cellV D sz = (cellV C sz).set k x) : TStep w (w.setCell ⟨g, k, none⟩ x) b cv D sz := by
  obtain ⟨v, hb', hown⟩ := h
  rw [hb] at hb'
  simp at hb'
  subst hb'
  have hne := tab_own_ne hb w _ hb hown
  have hgb : b ≠ g := fun e => hne (by simp [Value.ownBlock, e])
  have hfg : TFp w b g := .inr ⟨cv, _, hb, rfl⟩
  have hb2 : (w.setCell ⟨g, k, none⟩ x).heap[b]? = some (.cells #[cv, .slice (some ⟨g, 0, none⟩) sz cap] 59 (0, 0)) := by
    rw [Below.heap_setCell _ _ _ _ hgb]
    exact hb
  refine ⟨⟨_, hb2, ?_⟩, (Touch.refl _ w).setCell (fun _ => hfg) _, fun j hj => .inl (hj.kept (hb2.trans hb.symm))⟩
  rw [hD]
  exact own_set hown k x

end Go.Proofs.Ytokelpnmeknncab
