/- The two tables of coding, as the row's list gives them: their cells; no condition. -/
import Derived.Test.YtdhhcefmmojcmaaGreatDoorRows
import Derived.OpenShut
import Derived.ChangeArms
import Derived.Test.YtdhhcefmmojcmaaGreatDoorM8
namespace Go.Proofs.YtdhhcefmmojcmaaGreatDoor
open Go.RowKit

theorem g0 : Tryz.prog.globalNamed "ferret/coding.marks" = some 0 := by kernel_rfl
theorem g1 : Tryz.prog.globalNamed "ferret/coding.leads" = some 1 := by kernel_rfl
theorem y0 : (Tryz.prog.globals[0]?).map (·.type) = some 122 := by kernel_rfl
theorem y1 : (Tryz.prog.globals[1]?).map (·.type) = some 162 := by kernel_rfl
theorem tc3 : Tryz.prog.cellsOf 3 = 1 := by kernel_rfl
theorem tc5 : Tryz.prog.cellsOf 5 = 1 := by kernel_rfl
theorem tc9 : Tryz.prog.cellsOf 9 = 1 := by kernel_rfl
theorem tc70 : Tryz.prog.cellsOf 147 = 5 := by kernel_rfl
theorem tc73 : Tryz.prog.cellsOf 162 = 45 := by kernel_rfl
theorem tc65 : Tryz.prog.cellsOf 122 = 5 := by kernel_rfl

theorem at_take {cs : List Value} {k : Nat} {v : Value} (h : (cs.drop k).take 1 = [v]) : cs[k]? = some v := by
  have := congrArg (·[0]?) h
  simpa [List.getElem?_take, List.getElem?_drop] using this
theorem five_list {cs : List Value} {x y z u v : Value} (hl : cs.length = 5) (q0 : cs[0]? = some x) (q1 : cs[1]? = some y) (q2 : cs[2]? = some z) (q3 : cs[3]? = some u) (q4 : cs[4]? = some v) : cs = [x, y, z, u, v] := by
  match cs, hl, q0, q1, q2, q3, q4 with
  | [a, b, c, d, e], _, q0, q1, q2, q3, q4 =>
    simp at q0 q1 q2 q3 q4
    subst q0 q1 q2 q3 q4
    rfl
section
variable {H : Type} {enc : TypeId × Value → H} {w : World} {base : Nat} {sp : Nat → Bool} {held : Bool}
theorem row5 {fuel : Nat} {cs : List Value} {x0 x1 x2 x3 x4 : Int} {p : List MemPlace} (h : DataW.trod enc Tryz.prog w base sp held fuel 147 cs = some (.agg [.lit (.int .u8 x0), .lit (.int .u8 x1), .lit (.int .i64 x2), .lit (.int .u8 x3), .lit (.int .u8 x4)], p)) : cs = [.int .u8 x0, .int .u8 x1, .int .i64 x2, .int .u8 x3, .int .u8 x4] := by
  obtain ⟨xs, n, rfl, hx, hl, hxl, hall⟩ := DataW.trod_struct Tryz.underlying147 h
  rw [tc70] at hl
  have hx3 : xs.map (·.1) = [.lit (.int .u8 x0), .lit (.int .u8 x1), .lit (.int .i64 x2), .lit (.int .u8 x3), .lit (.int .u8 x4)] := by
    have := congrArg Prod.fst hx
    simpa using this.symm
  obtain ⟨d0, d1, d2, d3, d4, rfl⟩ : ∃ d0 d1 d2 d3 d4, xs = [d0, d1, d2, d3, d4] := by
    match xs, hx3 with
    | [d0, d1, d2, d3, d4], _ => exact ⟨d0, d1, d2, d3, d4, rfl⟩
  simp only [List.map_cons, List.map_nil, List.cons.injEq, and_true] at hx3
  obtain ⟨e0, e1, e2, e3, e4⟩ := hx3
  have f0 := hall 0 _ rfl
  change DataW.trod _ _ _ _ _ _ _ 5 ((cs.drop 0).take (Tryz.prog.cellsOf 5)) = some d0 at f0
  rw [tc5] at f0
  have q0 : cs[0]? = some (.int .u8 x0) := by
    obtain ⟨z, hz, hx', _⟩ := DataW.trod_int Tryz.underlying5 f0
    rw [hx'] at e0
    cases e0
    exact at_take hz
  have f1 := hall 1 _ rfl
  change DataW.trod _ _ _ _ _ _ _ 5 ((cs.drop 1).take (Tryz.prog.cellsOf 5)) = some d1 at f1
  rw [tc5] at f1
  have q1 : cs[1]? = some (.int .u8 x1) := by
    obtain ⟨z, hz, hx', _⟩ := DataW.trod_int Tryz.underlying5 f1
    rw [hx'] at e1
    cases e1
    exact at_take hz
  have f2 := hall 2 _ rfl
  change DataW.trod _ _ _ _ _ _ _ 3 ((cs.drop 2).take (Tryz.prog.cellsOf 3)) = some d2 at f2
  rw [tc3] at f2
  have q2 : cs[2]? = some (.int .i64 x2) := by
    obtain ⟨z, hz, hx', _⟩ := DataW.trod_int Tryz.underlying3 f2
    rw [hx'] at e2
    cases e2
    exact at_take hz
  have f3 := hall 3 _ rfl
  change DataW.trod _ _ _ _ _ _ _ 5 ((cs.drop 3).take (Tryz.prog.cellsOf 5)) = some d3 at f3
  rw [tc5] at f3
  have q3 : cs[3]? = some (.int .u8 x3) := by
    obtain ⟨z, hz, hx', _⟩ := DataW.trod_int Tryz.underlying5 f3
    rw [hx'] at e3
    cases e3
    exact at_take hz
  have f4 := hall 4 _ rfl
  change DataW.trod _ _ _ _ _ _ _ 5 ((cs.drop 4).take (Tryz.prog.cellsOf 5)) = some d4 at f4
  rw [tc5] at f4
  have q4 : cs[4]? = some (.int .u8 x4) := by
    obtain ⟨z, hz, hx', _⟩ := DataW.trod_int Tryz.underlying5 f4
    rw [hx'] at e4
    cases e4
    exact at_take hz
  exact five_list hl q0 q1 q2 q3 q4

/-- The list that the array is, out of its pieces. -/
theorem pieces {cs : List Value} {m : Nat} : ∀ (rows : List (List Value)) (k : Nat), (∀ i (h : i < rows.length), (cs.drop ((k + i) * m)).take m = rows[i]) → (∀ r ∈ rows, r.length = m) → (cs.drop (k * m)).take (rows.length * m) = rows.flatten
  | [], k, _, _ => by simp
  | r :: rows, k, h, hl => by
    have h0 := h 0 (by simp)
    have ih := pieces (cs := cs) (m := m) rows (k + 1) (fun i hi => by
      have := h (i + 1) (by simpa using hi)
      rw [show k + (i + 1) = k + 1 + i by omega] at this
      simpa using this) (fun q hq => hl q (by simp [hq]))
    simp only [Nat.add_zero, List.getElem_cons_zero] at h0
    rw [List.length_cons, Nat.add_mul, Nat.one_mul, Nat.add_comm, List.take_add, h0, List.drop_drop, List.flatten_cons]
    rw [show k * m + m = (k + 1) * m by rw [Nat.add_mul, Nat.one_mul], ih]
theorem whole {cs : List Value} {m : Nat} {rows : List (List Value)} (h : ∀ i (h : i < rows.length), (cs.drop (i * m)).take m = rows[i]) (hl : ∀ r ∈ rows, r.length = m) (hc : cs.length = rows.length * m) : cs = rows.flatten := by
  have := pieces rows 0 (fun i hi => by rw [Nat.zero_add]; exact h i hi) hl
  rw [Nat.zero_mul, List.drop_zero, List.take_of_length_le (by omega)] at this
  exact this

set_option maxRecDepth 100000 in
theorem leads_cells {fuel : Nat} {cs : List Value} {p : List MemPlace} (h : DataW.trod enc Tryz.prog w base sp held fuel 162 cs = some (Rows.laid_ferret_coding_leads, p)) : cs = leadsC.toList := by
  obtain ⟨xs, m, rfl, hx, hl, hxl, hall⟩ := DataW.trod_array Tryz.underlying162 h
  rw [tc73] at hl
  have hx3 : xs.map (·.1) = [.agg [.lit (.int .u8 0), .lit (.int .u8 127), .lit (.int .i64 0), .lit (.int .u8 0), .lit (.int .u8 0)], .agg [.lit (.int .u8 194), .lit (.int .u8 223), .lit (.int .i64 1), .lit (.int .u8 128), .lit (.int .u8 191)], .agg [.lit (.int .u8 224), .lit (.int .u8 224), .lit (.int .i64 2), .lit (.int .u8 160), .lit (.int .u8 191)], .agg [.lit (.int .u8 225), .lit (.int .u8 236), .lit (.int .i64 2), .lit (.int .u8 128), .lit (.int .u8 191)], .agg [.lit (.int .u8 237), .lit (.int .u8 237), .lit (.int .i64 2), .lit (.int .u8 128), .lit (.int .u8 159)], .agg [.lit (.int .u8 238), .lit (.int .u8 239), .lit (.int .i64 2), .lit (.int .u8 128), .lit (.int .u8 191)], .agg [.lit (.int .u8 240), .lit (.int .u8 240), .lit (.int .i64 3), .lit (.int .u8 144), .lit (.int .u8 191)], .agg [.lit (.int .u8 241), .lit (.int .u8 243), .lit (.int .i64 3), .lit (.int .u8 128), .lit (.int .u8 191)], .agg [.lit (.int .u8 244), .lit (.int .u8 244), .lit (.int .i64 3), .lit (.int .u8 128), .lit (.int .u8 143)]] := by
    have := congrArg Prod.fst hx
    exact (DataW.agg.inj this).symm
  have row : ∀ i (hi : i < 9) (x0 x1 x2 x3 x4 : Int), (xs.map (·.1))[i]? = some (.agg [.lit (.int .u8 x0), .lit (.int .u8 x1), .lit (.int .i64 x2), .lit (.int .u8 x3), .lit (.int .u8 x4)]) → (cs.drop (i * 5)).take 5 = [.int .u8 x0, .int .u8 x1, .int .i64 x2, .int .u8 x3, .int .u8 x4] := by
    intro i hi x0 x1 x2 x3 x4 hd
    have h1 := hall i hi
    rw [tc70] at h1
    rw [List.getElem?_map] at hd
    obtain ⟨⟨d, q⟩, hq, rfl⟩ := Option.map_eq_some_iff.1 hd
    rw [hq] at h1
    exact row5 h1
  rw [hx3] at row
  have := whole (cs := cs) (m := 5) (rows := [[.int .u8 0, .int .u8 127, .int .i64 0, .int .u8 0, .int .u8 0], [.int .u8 194, .int .u8 223, .int .i64 1, .int .u8 128, .int .u8 191], [.int .u8 224, .int .u8 224, .int .i64 2, .int .u8 160, .int .u8 191], [.int .u8 225, .int .u8 236, .int .i64 2, .int .u8 128, .int .u8 191], [.int .u8 237, .int .u8 237, .int .i64 2, .int .u8 128, .int .u8 159], [.int .u8 238, .int .u8 239, .int .i64 2, .int .u8 128, .int .u8 191], [.int .u8 240, .int .u8 240, .int .i64 3, .int .u8 144, .int .u8 191], [.int .u8 241, .int .u8 243, .int .i64 3, .int .u8 128, .int .u8 191], [.int .u8 244, .int .u8 244, .int .i64 3, .int .u8 128, .int .u8 143]]) (fun i hi => by
    simp only [List.length_cons, List.length_nil] at hi
    match i, hi with
    | 0, hi => exact row 0 hi _ _ _ _ _ rfl
    | 1, hi => exact row 1 hi _ _ _ _ _ rfl
    | 2, hi => exact row 2 hi _ _ _ _ _ rfl
    | 3, hi => exact row 3 hi _ _ _ _ _ rfl
    | 4, hi => exact row 4 hi _ _ _ _ _ rfl
    | 5, hi => exact row 5 hi _ _ _ _ _ rfl
    | 6, hi => exact row 6 hi _ _ _ _ _ rfl
    | 7, hi => exact row 7 hi _ _ _ _ _ rfl
    | 8, hi => exact row 8 hi _ _ _ _ _ rfl) (by simp) (by simp [hl])
  exact this
theorem str_cell {fuel : Nat} {cs : List Value} {l : List UInt8} {p : List MemPlace} (h : DataW.trod enc Tryz.prog w base sp held fuel 9 cs = some (.lit (.string l), p)) : cs = [.string ⟨l.toArray⟩] := by
  obtain ⟨s, rfl, hz, _⟩ := DataW.trod_string Tryz.underlying9 h
  cases s
  rename_i a
  simp only [Prod.mk.injEq, DataW.lit.injEq, Lit.string.injEq] at hz
  rw [hz.1]
set_option maxRecDepth 100000 in
theorem marks_cells {fuel : Nat} {cs : List Value} {p : List MemPlace} (h : DataW.trod enc Tryz.prog w base sp held fuel 122 cs = some (Rows.laid_ferret_coding_marks, p)) : cs = marksC.toList := by
  obtain ⟨xs, m, rfl, hx, hl, hxl, hall⟩ := DataW.trod_array Tryz.underlying122 h
  rw [tc65] at hl
  have hx3 : xs.map (·.1) = [.lit (.string []), .lit (.string [239, 187, 191]), .lit (.string [255, 254]), .lit (.string [254, 255]), .lit (.string [])] := by
    have := congrArg Prod.fst hx
    exact (DataW.agg.inj this).symm
  have row : ∀ i (hi : i < 5) (l : List UInt8), (xs.map (·.1))[i]? = some (.lit (.string l)) → (cs.drop (i * 1)).take 1 = [.string ⟨l.toArray⟩] := by
    intro i hi l hd
    have h1 := hall i hi
    rw [tc9] at h1
    rw [List.getElem?_map] at hd
    obtain ⟨⟨d, q⟩, hq, rfl⟩ := Option.map_eq_some_iff.1 hd
    rw [hq] at h1
    exact str_cell h1
  rw [hx3] at row
  have := whole (cs := cs) (m := 1) (rows := [[.string ⟨#[]⟩], [.string ⟨#[239, 187, 191]⟩], [.string ⟨#[255, 254]⟩], [.string ⟨#[254, 255]⟩], [.string ⟨#[]⟩]]) (fun i hi => by
    simp only [List.length_cons, List.length_nil] at hi
    match i, hi with
    | 0, hi => exact row 0 hi _ rfl
    | 1, hi => exact row 1 hi _ rfl
    | 2, hi => exact row 2 hi _ rfl
    | 3, hi => exact row 3 hi _ rfl
    | 4, hi => exact row 4 hi _ rfl) (by simp) (by simp [hl])
  exact this
end

set_option maxRecDepth 100000 in
theorem tabs_of {W : World} (h : laidMet Tryz.prog [("ferret/coding.marks", Rows.laid_ferret_coding_marks), ("ferret/coding.leads", Rows.laid_ferret_coding_leads)] W) : TabsK W := by
  obtain ⟨ps, ⟨g, t, cs, fuel, p, q, hg, ht, hvar, hd, ⟨g', t', cs', fuel', p', q', hg', ht', hvar', hd', _, rfl⟩, rfl⟩, _, hfree⟩ := h
  obtain rfl := Option.some.inj (g0.symm.trans hg)
  obtain rfl := Option.some.inj (y0.symm.trans ht)
  obtain rfl := Option.some.inj (g1.symm.trans hg')
  obtain rfl := Option.some.inj (y1.symm.trans ht')
  have e0 : cs = marksC := by
    have := marks_cells hd
    cases cs
    simpa using congrArg List.toArray this
  have e1 : cs' = leadsC := by
    have := leads_cells hd'
    cases cs'
    simpa using congrArg List.toArray this
  subst e0
  subst e1
  unfold World.var? at hvar hvar'
  rw [g0] at hvar
  rw [g1] at hvar'
  simp only [Option.bind_some] at hvar hvar'
  obtain ⟨⟨cc, tt, hh⟩, _⟩ := hfree 0 0 (by simp [MemPlace.row, marksC])
  obtain ⟨⟨cc', tt', hh'⟩, _⟩ := hfree 1 0 (by simp [MemPlace.row, leadsC])
  rw [hh] at hvar
  rw [hh'] at hvar'
  simp only [Option.some.injEq] at hvar hvar'
  subst hvar
  subst hvar'
  exact ⟨⟨tt, hh⟩, ⟨tt', hh'⟩⟩
end Go.Proofs.YtdhhcefmmojcmaaGreatDoor
