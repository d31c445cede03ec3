/- What a law is told of lists that came in: numbers, and whether things are so. -/
import Derived.Test.YtokelpnmeknncabRows
import Derived.WalkKit
import Derived.ProofKit
import Derived.OpenShut
import Derived.ShutString
import Derived.ChangeOld
import Derived.Below
import Derived.SizedLaws
import Derived.BigQuiet
import Derived.Test.YtokelpnmeknncabNv
import Derived.Test.YtokelpnmeknncabCp
namespace Go.Proofs.Ytokelpnmeknncab
open Go.ChangeShapes Go.WideShapes Go.ChangeAt Go.RowKit

theorem own : ownKnob Try.prog.godebug = none := by kernel_rfl
theorem laidOut : laidOutB Try.prog = true := by kernel_rfl

/-- What a walk is told of a list of numbers that came in. -/
def IsRow (w : World) (a : Option Addr) (len cap : Nat) (zs : List Int) : Prop :=
  (a = none ∧ len = 0 ∧ cap = 0 ∧ zs = []) ∨
  ∃ x, a = some x ∧ len ≤ cap ∧ cap * 8 ≤ 140737488351232 ∧ zs.length = cap ∧ (0 < cap → x.block < w.heap.size) ∧ (∀ i, i < zs.length → w.cell? (x.add i) = some (.int .i64 (zs.getD i 0))) ∧ ∀ n ∈ zs, (Lit.int .i64 n).wf = true

theorem IsRow.open {w : World} {a : Option Addr} {len cap : Nat} {zs : List Int} (h : IsRow w a len cap zs) : len * 8 ≤ 140737488351232 ∧ Ints w a len (fun i => zs.getD i 0) ∧ (a = none ∧ cap = 0 ∧ len = 0 ∨ ∃ x, a = some x) := by
  rcases h with ⟨rfl, rfl, rfl, rfl⟩ | ⟨x, rfl, hl, hc, hz, hlt, hcell, _⟩
  · exact ⟨by omega, .inl rfl, .inl ⟨rfl, rfl, rfl⟩⟩
  · refine ⟨by omega, ?_, .inr ⟨x, rfl⟩⟩
    by_cases h0 : len = 0
    · exact .inl h0
    · obtain ⟨b, off, spot⟩ := x
      have hspot : spot = none := by simpa [Addr.add] using World.cell?_spot (hcell 0 (by omega))
      subst hspot
      refine .inr ⟨b, off, rfl, hlt (by omega), fun i hi => ?_⟩
      have := hcell i (by omega)
      rwa [show (⟨b, off, none⟩ : Addr).add i = ⟨b, off + i, none⟩ by unfold Addr.add; split <;> simp_all] at this

/-- The values of a list that came in, as wpList_copy asks for them. -/
theorem IsRow.vals {w : World} {a : Option Addr} {len cap : Nat} {zs : List Int} (h : IsRow w a len cap zs) : (a = none ∧ cap = 0 ∧ len = 0) ∨ ∃ ad, a = some ad ∧ ∀ j u, ((List.range len).map fun i => Value.int .i64 (zs.getD i 0))[j]? = some u → w.cell? (ad.add j) = some u := by
  rcases h with ⟨rfl, rfl, rfl, rfl⟩ | ⟨x, rfl, hl, hc, hz, hlt, hcell, _⟩
  · exact .inl ⟨rfl, rfl, rfl⟩
  · refine .inr ⟨x, rfl, fun j u hj => ?_⟩
    have hj' : j < len := by
      rcases Nat.lt_or_ge j len with h | h
      · exact h
      · rw [List.getElem?_eq_none (by simpa using h)] at hj; simp at hj
    rw [hcell j (by omega)]
    simpa [hj'] using hj

theorem IsRow.new {w w' : World} {a : Option Addr} {len cap : Nat} {zs : List Int} (h : IsRow w a len cap zs) (t : Touch (fun _ => False) w w') : IsRow w' a len cap zs := by
  rcases h with h | ⟨x, h1, h2, h3, h4, h5, h6, h7⟩
  · exact .inl h
  · refine .inr ⟨x, h1, h2, h3, h4, fun h => Nat.lt_of_lt_of_le (h5 h) t.size, fun i hi => ?_, h7⟩
    have hc := h6 i hi
    rw [t.cell (World.block_lt_of_cell? w _ hc) id]
    exact hc

/-- A list of numbers that came in, by what stands at each place. -/
structure Row (w : World) (a : Option Addr) (len cap : Nat) (F : Nat → Int) : Prop where
  fit : len * 8 ≤ 140737488351232
  ints : Ints w a len F
  vals : (a = none ∧ cap = 0 ∧ len = 0) ∨ ∃ ad, a = some ad ∧ ∀ j u, ((List.range len).map fun i => Value.int .i64 (F i))[j]? = some u → w.cell? (ad.add j) = some u

theorem IsRow.row {w : World} {a : Option Addr} {len cap : Nat} {zs : List Int} (h : IsRow w a len cap zs) : Row w a len cap (fun i => zs.getD i 0) := ⟨h.open.1, h.open.2.1, h.vals⟩

theorem Row.new {w w' : World} {a : Option Addr} {len cap : Nat} {F : Nat → Int} (h : Row w a len cap F) (t : Touch (fun _ => False) w w') : Row w' a len cap F := by
  refine ⟨h.fit, h.ints.new t, ?_⟩
  rcases h.vals with h | ⟨x, h1, h2⟩
  · exact .inl h
  · refine .inr ⟨x, h1, fun j u hj => ?_⟩
    have hc := h2 j u hj
    rw [t.cell (World.block_lt_of_cell? w _ hc) id]
    exact hc

theorem one_cells (F : Nat → Int) (len : Nat) : ∀ u ∈ (List.range len).map (fun i => Value.int .i64 (F i)), u.oneCell' = true := by
  intro u hu
  simp at hu
  obtain ⟨_, _, rfl⟩ := hu
  rfl

theorem IsRow.num {w : World} {a : Option Addr} {len cap : Nat} {zs : List Int} (h : IsRow w a len cap zs) (i : Nat) : -9223372036854775808 ≤ zs.getD i 0 ∧ zs.getD i 0 ≤ 9223372036854775807 := by
  rcases Nat.lt_or_ge i zs.length with hi | hi
  · have hm : zs.getD i 0 ∈ zs := by
      rw [List.getD_eq_getElem?_getD, List.getElem?_eq_getElem hi]
      exact List.getElem_mem hi
    rcases h with ⟨_, _, _, rfl⟩ | ⟨x, _, _, _, _, _, _, hw⟩
    · simp at hi
    · have := hw _ hm
      simpa [Lit.wf, show IntKind.i64.min = -9223372036854775808 from rfl] using this
  · rw [List.getD_eq_getElem?_getD, List.getElem?_eq_none hi]
    decide

end Go.Proofs.Ytokelpnmeknncab
