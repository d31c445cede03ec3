/- rowBehind of a table; conditions: the cell is there. -/
import Derived.Test.YtokelpnmeknncabLy
namespace Go.Proofs.Ytokelpnmeknncab
open Go.RowKit

theorem TStep.ext {w w' : World} {b : Nat} {cv : Value} {C D : Tb.Cells} {sz : Nat} (h : TStep w w' b cv C sz) (e : ∀ i, i < sz → C.S i = D.S i ∧ C.L i = D.L i ∧ C.F i = D.F i) : TStep w w' b cv D sz := by
  obtain ⟨⟨v, hb, hown⟩, ht, hf⟩ := h
  refine ⟨⟨v, hb, ?_⟩, ht, hf⟩
  rw [← cellV_ext C D sz e]
  exact hown

/-- A whole cell is written. -/
theorem tab_set3 {w : World} {b : Nat} {cv : Value} {C : Tb.Cells} {sz g cap : Nat} (h : Tab w b cv C sz) (hb : w.heap[b]? = some (.cells #[cv, .slice (some ⟨g, 0, none⟩) sz cap] 59 (0, 0))) (i s l : Nat) (hi : i < sz) :
    TStep w (((w.setCell ⟨g, i * 3, none⟩ (.int .i64 s)).setCell ⟨g, i * 3 + 1, none⟩ (.int .i64 l)).setCell ⟨g, i * 3 + 2, none⟩ (.int .i64 0)) b cv (putCell C i s l 0) sz := by
  obtain ⟨v, hb', hown⟩ := h
  rw [hb] at hb'
  simp at hb'
  subst hb'
  have hne := tab_own_ne hb w _ hb hown
  have hgb : b ≠ g := fun e => hne (by simp [Value.ownBlock, e])
  have hfg : TFp w b g := .inr ⟨cv, _, hb, rfl⟩
  have hb2 : (((w.setCell ⟨g, i * 3, none⟩ (.int .i64 s)).setCell ⟨g, i * 3 + 1, none⟩ (.int .i64 l)).setCell ⟨g, i * 3 + 2, none⟩ (.int .i64 0)).heap[b]? = some (.cells #[cv, .slice (some ⟨g, 0, none⟩) sz cap] 59 (0, 0)) := by
    rw [Below.heap_setCell _ _ _ _ hgb, Below.heap_setCell _ _ _ _ hgb, Below.heap_setCell _ _ _ _ hgb]
    exact hb
  refine ⟨⟨_, hb2, ?_⟩, (((Touch.refl _ w).setCell (fun _ => hfg) _).setCell (fun _ => hfg) _).setCell (fun _ => hfg) _, fun j hj => .inl (hj.kept (hb2.trans hb.symm))⟩
  rw [cellV_put C i s l 0 sz hi]
  exact own_set (own_set (own_set hown _ _) _ _) _ _

set_option maxRecDepth 100000 in
set_option maxHeartbeats 1000000 in
theorem rowBehind_any (b sz i : Nat) (cv : Value) (C : Tb.Cells) (w : World) (h : Tab w b cv C sz) (hi : i < sz) (hn : sz ≤ 1000000) :
    Calls Try.prog 41 #[.pointer (some ⟨b, 0, none⟩), .int .i64 i] w fun e w' =>
      (0 < C.F i ∧ e = .returned (.int .i64 (C.F i : Nat)) ∧ w' = w) ∨ (C.F i = 0 ∧ e = .returned (.int .i64 sz) ∧ TStep w w' b cv (putCell (cut C sz) i (C.S i) (C.L i) sz) (sz + 32)) := by
  obtain ⟨g, cap, hb, hbg, hcell, hfr⟩ := h.cells (by omega)
  have h1 := cell_two1 hb
  obtain ⟨e0, e1, e2⟩ := hcell i hi
  have HT := hid h
  clear h hcell hfr e0 e1 hb
  by_cases hF : 0 < C.F i
  · have hFi : (0 : Int) < (C.F i : Nat) := by omega
    generalize C.F i = x at *
    go_enter Try.func41, Try.ntmps41
    go_wp2
    go_ret
    exact .inl ⟨hF, rfl, rfl⟩
  · have hF0 : C.F i = 0 := by omega
    rw [hF0] at e2
    go_enter Try.func41, Try.ntmps41
    go_wp2_with fail
    refine (addRow_any b sz cv C w HT.out hn).mono ?_
    rintro e w1 ⟨rfl, hst⟩
    obtain ⟨g1, cap1, hb1, hbg1, hcell1, hfr1⟩ := hst.tab.cells (by omega)
    have k1 := cell_two1 hb1
    have kf := hfr1 (i * 3 + 2)
    obtain ⟨m0, m1, m2⟩ := hcell1 i (by omega)
    have ST := hid hst
    have HB1 := hid hb1
    clear hst hb1 hcell1 hfr1 h1 e2 m0 m1 hbg hbg1
    generalize (cut C sz).F i = y at *
    go_wp2
    go_ret
    refine .inr ⟨hF0, rfl, ST.out.trans (tab_set ST.out.tab HB1.out (i * 3 + 2) _ ?_)⟩
    obtain ⟨c1, c2, c3⟩ := cut_same C sz i hi
    rw [← c1, ← c2]
    exact cellV_putF (cut C sz) i sz (sz + 32) (by omega)
end Go.Proofs.Ytokelpnmeknncab
