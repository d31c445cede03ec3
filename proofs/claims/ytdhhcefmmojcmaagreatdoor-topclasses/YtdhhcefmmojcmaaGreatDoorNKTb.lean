/- Texts of this proof, one behind the other: what each says stands ahead of it. -/
import Derived.Test.YtdhhcefmmojcmaaGreatDoorRows
import Derived.OpenShut
import Derived.ChangeArms
import Derived.Test.YtdhhcefmmojcmaaGreatDoorM8
import Derived.Test.YtdhhcefmmojcmaaGreatDoorCards
import Derived.Test.YtdhhcefmmojcmaaGreatDoorTie
import Derived.Test.YtdhhcefmmojcmaaGreatDoorM7
import Derived.WalkKit
import Derived.ProofKit
import Derived.ShutString
import Derived.Below
import Derived.Carry
import Derived.ChangeSame
import Derived.ChangeOld
import Derived.Deep.Slices
import Derived.Lib.SmallJoins
import Derived.Deep.DeepHandedRow
import Derived.Deep.DeepWitnessRowRef
import Derived.Lib.LaidTab
import Derived.Stop.LaidErr
import Derived.FnData
import Derived.SevenTiedAt
import Derived.LaidLaws
/- The two tables of coding, as the row's list gives them: their cells; no condition. -/
namespace Go.Proofs.YtdhhcefmmojcmaaGreatDoor
open Go.RowKit

theorem g0 : Tryz.prog.globalNamed "ferret/coding.marks" = some 0 := by kernel_rfl
theorem g1 : Tryz.prog.globalNamed "ferret/coding.leads" = some 1 := by kernel_rfl
theorem y0 : (Tryz.prog.globals[0]?).map (·.type) = some 122 := by kernel_rfl
theorem y1 : (Tryz.prog.globals[1]?).map (·.type) = some 162 := by kernel_rfl
theorem tc3 : Tryz.prog.cellsOf 3 = 1 := by kernel_rfl
theorem tc5 : Tryz.prog.cellsOf 5 = 1 := by kernel_rfl
theorem tc9 : Tryz.prog.cellsOf 9 = 1 := by kernel_rfl
theorem tc70 : Tryz.prog.cellsOf 147 = 5 := by kernel_rfl
theorem tc73 : Tryz.prog.cellsOf 162 = 45 := by kernel_rfl
theorem tc65 : Tryz.prog.cellsOf 122 = 5 := by kernel_rfl

theorem at_take {cs : List Value} {k : Nat} {v : Value} (h : (cs.drop k).take 1 = [v]) : cs[k]? = some v := by
  have := congrArg (·[0]?) h
  simpa [List.getElem?_take, List.getElem?_drop] using this
theorem five_list {cs : List Value} {x y z u v : Value} (hl : cs.length = 5) (q0 : cs[0]? = some x) (q1 : cs[1]? = some y) (q2 : cs[2]? = some z) (q3 : cs[3]? = some u) (q4 : cs[4]? = some v) : cs = [x, y, z, u, v] := by
  match cs, hl, q0, q1, q2, q3, q4 with
  | [a, b, c, d, e], _, q0, q1, q2, q3, q4 =>
    simp at q0 q1 q2 q3 q4
    subst q0 q1 q2 q3 q4
    rfl
section
variable {H : Type} {enc : TypeId × Value → H} {w : World} {base : Nat} {sp : Nat → Bool} {held : Bool}
theorem row5 {fuel : Nat} {cs : List Value} {x0 x1 x2 x3 x4 : Int} {p : List MemPlace} (h : DataW.trod enc Tryz.prog w base sp held fuel 147 cs = some (.agg [.lit (.int .u8 x0), .lit (.int .u8 x1), .lit (.int .i64 x2), .lit (.int .u8 x3), .lit (.int .u8 x4)], p)) : cs = [.int .u8 x0, .int .u8 x1, .int .i64 x2, .int .u8 x3, .int .u8 x4] := by
  obtain ⟨xs, n, rfl, hx, hl, hxl, hall⟩ := DataW.trod_struct Tryz.underlying147 h
  rw [tc70] at hl
  have hx3 : xs.map (·.1) = [.lit (.int .u8 x0), .lit (.int .u8 x1), .lit (.int .i64 x2), .lit (.int .u8 x3), .lit (.int .u8 x4)] := by
    have := congrArg Prod.fst hx
    simpa using this.symm
  obtain ⟨d0, d1, d2, d3, d4, rfl⟩ : ∃ d0 d1 d2 d3 d4, xs = [d0, d1, d2, d3, d4] := by
    match xs, hx3 with
    | [d0, d1, d2, d3, d4], _ => exact ⟨d0, d1, d2, d3, d4, rfl⟩
  simp only [List.map_cons, List.map_nil, List.cons.injEq, and_true] at hx3
  obtain ⟨e0, e1, e2, e3, e4⟩ := hx3
  have f0 := hall 0 _ rfl
  change DataW.trod _ _ _ _ _ _ _ 5 ((cs.drop 0).take (Tryz.prog.cellsOf 5)) = some d0 at f0
  rw [tc5] at f0
  have q0 : cs[0]? = some (.int .u8 x0) := by
    obtain ⟨z, hz, hx', _⟩ := DataW.trod_int Tryz.underlying5 f0
    rw [hx'] at e0
    cases e0
    exact at_take hz
  have f1 := hall 1 _ rfl
  change DataW.trod _ _ _ _ _ _ _ 5 ((cs.drop 1).take (Tryz.prog.cellsOf 5)) = some d1 at f1
  rw [tc5] at f1
  have q1 : cs[1]? = some (.int .u8 x1) := by
    obtain ⟨z, hz, hx', _⟩ := DataW.trod_int Tryz.underlying5 f1
    rw [hx'] at e1
    cases e1
    exact at_take hz
  have f2 := hall 2 _ rfl
  change DataW.trod _ _ _ _ _ _ _ 3 ((cs.drop 2).take (Tryz.prog.cellsOf 3)) = some d2 at f2
  rw [tc3] at f2
  have q2 : cs[2]? = some (.int .i64 x2) := by
    obtain ⟨z, hz, hx', _⟩ := DataW.trod_int Tryz.underlying3 f2
    rw [hx'] at e2
    cases e2
    exact at_take hz
  have f3 := hall 3 _ rfl
  change DataW.trod _ _ _ _ _ _ _ 5 ((cs.drop 3).take (Tryz.prog.cellsOf 5)) = some d3 at f3
  rw [tc5] at f3
  have q3 : cs[3]? = some (.int .u8 x3) := by
    obtain ⟨z, hz, hx', _⟩ := DataW.trod_int Tryz.underlying5 f3
    rw [hx'] at e3
    cases e3
    exact at_take hz
  have f4 := hall 4 _ rfl
  change DataW.trod _ _ _ _ _ _ _ 5 ((cs.drop 4).take (Tryz.prog.cellsOf 5)) = some d4 at f4
  rw [tc5] at f4
  have q4 : cs[4]? = some (.int .u8 x4) := by
    obtain ⟨z, hz, hx', _⟩ := DataW.trod_int Tryz.underlying5 f4
    rw [hx'] at e4
    cases e4
    exact at_take hz
  exact five_list hl q0 q1 q2 q3 q4

/-- The list that the array is, out of its pieces. -/
theorem pieces {cs : List Value} {m : Nat} : ∀ (rows : List (List Value)) (k : Nat), (∀ i (h : i < rows.length), (cs.drop ((k + i) * m)).take m = rows[i]) → (∀ r ∈ rows, r.length = m) → (cs.drop (k * m)).take (rows.length * m) = rows.flatten
  | [], k, _, _ => by simp
  | r :: rows, k, h, hl => by
    have h0 := h 0 (by simp)
    have ih := pieces (cs := cs) (m := m) rows (k + 1) (fun i hi => by
      have := h (i + 1) (by simpa using hi)
      rw [show k + (i + 1) = k + 1 + i by omega] at this
      simpa using this) (fun q hq => hl q (by simp [hq]))
    simp only [Nat.add_zero, List.getElem_cons_zero] at h0
    rw [List.length_cons, Nat.add_mul, Nat.one_mul, Nat.add_comm, List.take_add, h0, List.drop_drop, List.flatten_cons]
    rw [show k * m + m = (k + 1) * m by rw [Nat.add_mul, Nat.one_mul], ih]
theorem whole {cs : List Value} {m : Nat} {rows : List (List Value)} (h : ∀ i (h : i < rows.length), (cs.drop (i * m)).take m = rows[i]) (hl : ∀ r ∈ rows, r.length = m) (hc : cs.length = rows.length * m) : cs = rows.flatten := by
  have := pieces rows 0 (fun i hi => by rw [Nat.zero_add]; exact h i hi) hl
  rw [Nat.zero_mul, List.drop_zero, List.take_of_length_le (by omega)] at this
  exact this

set_option maxRecDepth 100000 in
theorem leads_cells {fuel : Nat} {cs : List Value} {p : List MemPlace} (h : DataW.trod enc Tryz.prog w base sp held fuel 162 cs = some (Rows.laid_ferret_coding_leads, p)) : cs = leadsC.toList := by
  obtain ⟨xs, m, rfl, hx, hl, hxl, hall⟩ := DataW.trod_array Tryz.underlying162 h
  rw [tc73] at hl
  have hx3 : xs.map (·.1) = [.agg [.lit (.int .u8 0), .lit (.int .u8 127), .lit (.int .i64 0), .lit (.int .u8 0), .lit (.int .u8 0)], .agg [.lit (.int .u8 194), .lit (.int .u8 223), .lit (.int .i64 1), .lit (.int .u8 128), .lit (.int .u8 191)], .agg [.lit (.int .u8 224), .lit (.int .u8 224), .lit (.int .i64 2), .lit (.int .u8 160), .lit (.int .u8 191)], .agg [.lit (.int .u8 225), .lit (.int .u8 236), .lit (.int .i64 2), .lit (.int .u8 128), .lit (.int .u8 191)], .agg [.lit (.int .u8 237), .lit (.int .u8 237), .lit (.int .i64 2), .lit (.int .u8 128), .lit (.int .u8 159)], .agg [.lit (.int .u8 238), .lit (.int .u8 239), .lit (.int .i64 2), .lit (.int .u8 128), .lit (.int .u8 191)], .agg [.lit (.int .u8 240), .lit (.int .u8 240), .lit (.int .i64 3), .lit (.int .u8 144), .lit (.int .u8 191)], .agg [.lit (.int .u8 241), .lit (.int .u8 243), .lit (.int .i64 3), .lit (.int .u8 128), .lit (.int .u8 191)], .agg [.lit (.int .u8 244), .lit (.int .u8 244), .lit (.int .i64 3), .lit (.int .u8 128), .lit (.int .u8 143)]] := by
    have := congrArg Prod.fst hx
    exact (DataW.agg.inj this).symm
  have row : ∀ i (hi : i < 9) (x0 x1 x2 x3 x4 : Int), (xs.map (·.1))[i]? = some (.agg [.lit (.int .u8 x0), .lit (.int .u8 x1), .lit (.int .i64 x2), .lit (.int .u8 x3), .lit (.int .u8 x4)]) → (cs.drop (i * 5)).take 5 = [.int .u8 x0, .int .u8 x1, .int .i64 x2, .int .u8 x3, .int .u8 x4] := by
    intro i hi x0 x1 x2 x3 x4 hd
    have h1 := hall i hi
    rw [tc70] at h1
    rw [List.getElem?_map] at hd
    obtain ⟨⟨d, q⟩, hq, rfl⟩ := Option.map_eq_some_iff.1 hd
    rw [hq] at h1
    exact row5 h1
  rw [hx3] at row
  have := whole (cs := cs) (m := 5) (rows := [[.int .u8 0, .int .u8 127, .int .i64 0, .int .u8 0, .int .u8 0], [.int .u8 194, .int .u8 223, .int .i64 1, .int .u8 128, .int .u8 191], [.int .u8 224, .int .u8 224, .int .i64 2, .int .u8 160, .int .u8 191], [.int .u8 225, .int .u8 236, .int .i64 2, .int .u8 128, .int .u8 191], [.int .u8 237, .int .u8 237, .int .i64 2, .int .u8 128, .int .u8 159], [.int .u8 238, .int .u8 239, .int .i64 2, .int .u8 128, .int .u8 191], [.int .u8 240, .int .u8 240, .int .i64 3, .int .u8 144, .int .u8 191], [.int .u8 241, .int .u8 243, .int .i64 3, .int .u8 128, .int .u8 191], [.int .u8 244, .int .u8 244, .int .i64 3, .int .u8 128, .int .u8 143]]) (fun i hi => by
    simp only [List.length_cons, List.length_nil] at hi
    match i, hi with
    | 0, hi => exact row 0 hi _ _ _ _ _ rfl
    | 1, hi => exact row 1 hi _ _ _ _ _ rfl
    | 2, hi => exact row 2 hi _ _ _ _ _ rfl
    | 3, hi => exact row 3 hi _ _ _ _ _ rfl
    | 4, hi => exact row 4 hi _ _ _ _ _ rfl
    | 5, hi => exact row 5 hi _ _ _ _ _ rfl
    | 6, hi => exact row 6 hi _ _ _ _ _ rfl
    | 7, hi => exact row 7 hi _ _ _ _ _ rfl
    | 8, hi => exact row 8 hi _ _ _ _ _ rfl) (by simp) (by simp [hl])
  exact this
theorem str_cell {fuel : Nat} {cs : List Value} {l : List UInt8} {p : List MemPlace} (h : DataW.trod enc Tryz.prog w base sp held fuel 9 cs = some (.lit (.string l), p)) : cs = [.string ⟨l.toArray⟩] := by
  obtain ⟨s, rfl, hz, _⟩ := DataW.trod_string Tryz.underlying9 h
  cases s
  rename_i a
  simp only [Prod.mk.injEq, DataW.lit.injEq, Lit.string.injEq] at hz
  rw [hz.1]
set_option maxRecDepth 100000 in
theorem marks_cells {fuel : Nat} {cs : List Value} {p : List MemPlace} (h : DataW.trod enc Tryz.prog w base sp held fuel 122 cs = some (Rows.laid_ferret_coding_marks, p)) : cs = marksC.toList := by
  obtain ⟨xs, m, rfl, hx, hl, hxl, hall⟩ := DataW.trod_array Tryz.underlying122 h
  rw [tc65] at hl
  have hx3 : xs.map (·.1) = [.lit (.string []), .lit (.string [239, 187, 191]), .lit (.string [255, 254]), .lit (.string [254, 255]), .lit (.string [])] := by
    have := congrArg Prod.fst hx
    exact (DataW.agg.inj this).symm
  have row : ∀ i (hi : i < 5) (l : List UInt8), (xs.map (·.1))[i]? = some (.lit (.string l)) → (cs.drop (i * 1)).take 1 = [.string ⟨l.toArray⟩] := by
    intro i hi l hd
    have h1 := hall i hi
    rw [tc9] at h1
    rw [List.getElem?_map] at hd
    obtain ⟨⟨d, q⟩, hq, rfl⟩ := Option.map_eq_some_iff.1 hd
    rw [hq] at h1
    exact str_cell h1
  rw [hx3] at row
  have := whole (cs := cs) (m := 1) (rows := [[.string ⟨#[]⟩], [.string ⟨#[239, 187, 191]⟩], [.string ⟨#[255, 254]⟩], [.string ⟨#[254, 255]⟩], [.string ⟨#[]⟩]]) (fun i hi => by
    simp only [List.length_cons, List.length_nil] at hi
    match i, hi with
    | 0, hi => exact row 0 hi _ rfl
    | 1, hi => exact row 1 hi _ rfl
    | 2, hi => exact row 2 hi _ rfl
    | 3, hi => exact row 3 hi _ rfl
    | 4, hi => exact row 4 hi _ rfl) (by simp) (by simp [hl])
  exact this
end

set_option maxRecDepth 100000 in
theorem tabs_of {W : World} (h : laidMet Tryz.prog [("ferret/coding.marks", Rows.laid_ferret_coding_marks), ("ferret/coding.leads", Rows.laid_ferret_coding_leads)] W) : TabsK W := by
  obtain ⟨ps, ⟨g, t, cs, fuel, p, q, hg, ht, hvar, hd, ⟨g', t', cs', fuel', p', q', hg', ht', hvar', hd', _, rfl⟩, rfl⟩, _, hfree⟩ := h
  obtain rfl := Option.some.inj (g0.symm.trans hg)
  obtain rfl := Option.some.inj (y0.symm.trans ht)
  obtain rfl := Option.some.inj (g1.symm.trans hg')
  obtain rfl := Option.some.inj (y1.symm.trans ht')
  have e0 : cs = marksC := by
    have := marks_cells hd
    cases cs
    simpa using congrArg List.toArray this
  have e1 : cs' = leadsC := by
    have := leads_cells hd'
    cases cs'
    simpa using congrArg List.toArray this
  subst e0
  subst e1
  unfold World.var? at hvar hvar'
  rw [g0] at hvar
  rw [g1] at hvar'
  simp only [Option.bind_some] at hvar hvar'
  obtain ⟨⟨cc, tt, hh⟩, _⟩ := hfree 0 0 (by simp [MemPlace.row, marksC])
  obtain ⟨⟨cc', tt', hh'⟩, _⟩ := hfree 1 0 (by simp [MemPlace.row, leadsC])
  rw [hh] at hvar
  rw [hh'] at hvar'
  simp only [Option.some.injEq] at hvar hvar'
  subst hvar
  subst hvar'
  exact ⟨⟨tt, hh⟩, ⟨tt', hh'⟩⟩
end Go.Proofs.YtdhhcefmmojcmaaGreatDoor

/- What the frames of the Syntax laws lean on: the library's variables and coding's tables; no condition. -/
namespace Go.Proofs.YtdhhcefmmojcmaaGreatDoor
open Go.ChangeShapes Go.WideShapes Go.ChangeAt Go.RowKit
theorem own : ownKnob Tryz.prog.godebug = none := by kernel_rfl
theorem gES : Tryz.prog.globalNamed "strconv.ErrSyntax" = some 2 := by kernel_rfl
theorem gESType : (Tryz.prog.globals[2]?).map (·.type) = some 192 := by kernel_rfl
theorem gER : Tryz.prog.globalNamed "strconv.ErrRange" = some 3 := by kernel_rfl
theorem gERType : (Tryz.prog.globals[3]?).map (·.type) = some 192 := by kernel_rfl
theorem g64 : Tryz.prog.globalNamed "math/bits.deBruijn64tab" = some 6 := by kernel_rfl
theorem cells215 : Tryz.prog.cellsOf 215 = 1 := by kernel_rfl
theorem cells9 : Tryz.prog.cellsOf 9 = 1 := by kernel_rfl
theorem star : "*" ++ "errors.errorString" = "*errors.errorString" := by decide
theorem row213 (u : TypeId) (h : Tryz.prog.typeName? 3 u = some "*errors.errorString") : u = 213 :=
  typeName_ptr_named (nm := "errors.errorString") (by rw [star]; kernel_rfl) (by kernel_rfl) (by decide) u (by rw [star]; exact h)
/-- What the laws ask of the memory that they begin with. -/
structure Env (W : World) : Prop where
  tabs : TabsK W
  sx : Sx W
  low : 7 ≤ W.heap.size
theorem env_of {W : World} (h : laidMet Tryz.prog Rows.syntaxEscapesRow.laid W) : Env W := by
  refine ⟨tabs_of h.tail.tail.tail.tail.tail, ⟨?_, ?_⟩, ?_⟩
  · have h5 := h.tail.tail.tail.tail
    obtain ⟨a, s, hv, -, -, -⟩ := laid_sentinel h5 gES gESType Tryz.underlying192 row213 Tryz.underlying213 Tryz.underlying215 rfl rfl Tryz.underlying9 cells215 cells9
    have h0 := World.var?_cell gES hv 0
    exact ⟨_, by simpa using h0, .inr ⟨_, _, rfl⟩⟩
  · have h4 := h.tail.tail.tail
    obtain ⟨a, s, hv, -, -, -⟩ := laid_sentinel h4 gER gERType Tryz.underlying192 row213 Tryz.underlying213 Tryz.underlying215 rfl rfl Tryz.underlying9 cells215 cells9
    have h0 := World.var?_cell gER hv 0
    exact ⟨_, by simpa using h0, .inr ⟨_, _, rfl⟩⟩
  · have h2 := h.tail
    obtain ⟨ps, ⟨g, t, cs, fuel, p, q, hg, ht, hvar, _⟩, _⟩ := h2
    unfold World.var? at hvar
    rw [g64] at hvar
    simp only [Option.bind_some] at hvar
    rcases Nat.lt_or_ge 6 W.heap.size with e | e
    · exact e
    · rw [Array.getElem?_eq_none e] at hvar
      cases hvar
/-- A block that holds other cells. -/
def setC (cs : Array Value) : Obj → Obj
  | .cells _ t frozen => .cells cs t frozen
  | o => o
def pow10C : Array Value := #[.int .u64 1, .int .u64 10, .int .u64 100, .int .u64 1000, .int .u64 10000, .int .u64 100000, .int .u64 1000000, .int .u64 10000000, .int .u64 100000000, .int .u64 1000000000, .int .u64 10000000000, .int .u64 100000000000, .int .u64 1000000000000, .int .u64 10000000000000, .int .u64 100000000000000, .int .u64 1000000000000000, .int .u64 10000000000000000, .int .u64 100000000000000000, .int .u64 1000000000000000000, .int .u64 10000000000000000000]
def tab32C : Array Value := #[.int .u8 0, .int .u8 1, .int .u8 28, .int .u8 2, .int .u8 29, .int .u8 14, .int .u8 24, .int .u8 3, .int .u8 30, .int .u8 22, .int .u8 20, .int .u8 15, .int .u8 25, .int .u8 17, .int .u8 4, .int .u8 8, .int .u8 31, .int .u8 27, .int .u8 13, .int .u8 23, .int .u8 21, .int .u8 19, .int .u8 16, .int .u8 7, .int .u8 26, .int .u8 12, .int .u8 18, .int .u8 6, .int .u8 11, .int .u8 5, .int .u8 10, .int .u8 9]
def tab64C : Array Value := #[.int .u8 0, .int .u8 1, .int .u8 56, .int .u8 2, .int .u8 57, .int .u8 49, .int .u8 28, .int .u8 3, .int .u8 61, .int .u8 58, .int .u8 42, .int .u8 50, .int .u8 38, .int .u8 29, .int .u8 17, .int .u8 4, .int .u8 62, .int .u8 47, .int .u8 59, .int .u8 36, .int .u8 45, .int .u8 43, .int .u8 51, .int .u8 22, .int .u8 53, .int .u8 39, .int .u8 33, .int .u8 30, .int .u8 24, .int .u8 18, .int .u8 12, .int .u8 5, .int .u8 63, .int .u8 55, .int .u8 48, .int .u8 27, .int .u8 60, .int .u8 41, .int .u8 37, .int .u8 16, .int .u8 46, .int .u8 35, .int .u8 44, .int .u8 21, .int .u8 52, .int .u8 32, .int .u8 23, .int .u8 11, .int .u8 54, .int .u8 26, .int .u8 40, .int .u8 15, .int .u8 34, .int .u8 20, .int .u8 31, .int .u8 10, .int .u8 25, .int .u8 14, .int .u8 19, .int .u8 9, .int .u8 13, .int .u8 8, .int .u8 7, .int .u8 6]
/-- So many blocks has the settled world. -/
noncomputable def low : Nat := (World.holding Tryz.prog default ⟨#[], #[], []⟩).heap.size
def errAt (b : Nat) : Array Value := #[.iface 213 (.pointer (some ⟨b, 0, none⟩))]
/-- A world for the witness: the settled one with two blocks more, the sentinels' texts; the seven variables holding what their initialisers lay. -/
noncomputable def laidWorld (os : Os) : World :=
  let w0 := World.holding Tryz.prog os ⟨#[.cells #[.string ⟨#[105, 110, 118, 97, 108, 105, 100, 32, 115, 121, 110, 116, 97, 120]⟩] 215, .cells #[.string ⟨#[118, 97, 108, 117, 101, 32, 111, 117, 116, 32, 111, 102, 32, 114, 97, 110, 103, 101]⟩] 215], #[], []⟩
  { w0 with heap := ((((((w0.heap.modify 2 (setC (errAt low))).modify 3 (setC (errAt (low + 1)))).modify 4 (setC pow10C)).modify 5 (setC tab32C)).modify 6 (setC tab64C)).modify 0 (setC marksC)).modify 1 (setC leadsC) }
end Go.Proofs.YtdhhcefmmojcmaaGreatDoor
