/- Texts of this proof, one behind the other: what each says stands ahead of it. -/
import Derived.Test.YtaidcapflcobiaaM0
import Derived.Test.YtaidcapflcobiaaRows
import Derived.WalkKit
import Derived.ProofKit
import Derived.OpenShut
import Derived.ShutString
import Derived.ChangeOld
import Derived.ChangeMaps5
import Derived.Below
import Derived.SizedLaws
import Derived.Deep.Slices
import Derived.Lib.SmallJoins
import Derived.Deep.CondSized
/- What the laws' frames want, and a list of pairs that a call is handed; no condition. -/
namespace Go.Proofs.Ytaidcapflcobiaa
open Go.ChangeShapes Go.WideShapes Go.ChangeAt Go.RowKit Go.Deep Go.Joins

theorem own : ownKnob Try.prog.godebug = none := by kernel_rfl
theorem laidOut : laidOutB Try.prog = true := by kernel_rfl
theorem tc3 : Try.prog.cellsOf 3 = 1 := by kernel_rfl
theorem cells36 : Try.prog.cellsOf 36 = 2 := by kernel_rfl
theorem two_of {l : List Value} (h : l.length = 2) : ∃ a b, l = [a, b] := by
  match l, h with
  | [a, b], _ => exact ⟨a, b, rfl⟩
def rangeD {H : Type} (q : R2) : DataW H := .agg [.lit (.int .i64 q.1), .lit (.int .i64 q.2)]
theorem open_pairs {H : Type} {enc : TypeId × Value → H} {W : World} {a : Option Addr} {len cap : Nat} {d : DataW H} {p : List MemPlace}
    (h : DataW.Trod enc Try.prog W 0 (fun _ => true) true 35 (.slice a len cap) d p) :
    (a = none ∧ len = 0 ∧ cap = 0 ∧ d = .nil) ∨ ∃ (x : Addr) (q : Nat → R2) (sp : List (DataW H)), a = some x ∧ len ≤ cap ∧ sp.length = cap - len ∧
      d = .slice ((List.range len).map fun i => rangeD (q i)) sp ∧
      ∀ i, i < len → W.cell? (x.add (i * 2)) = some (.int .i64 (q i).1) ∧ W.cell? (x.add (i * 2 + 1)) = some (.int .i64 (q i).2) := by
  obtain ⟨fuel, hf⟩ := h
  rcases open_slice Try.underlying35 hf with ⟨hcs, hx⟩ | ⟨x, l, c, m, n, D, Pl, hcs, _, hl, _, hmm, hx, hel⟩
  · simp [Value.cells] at hcs
    obtain ⟨rfl, rfl, rfl⟩ := hcs
    simp only [Prod.mk.injEq] at hx
    exact .inl ⟨rfl, rfl, rfl, hx.1⟩
  · simp [Value.cells] at hcs
    obtain ⟨rfl, rfl, rfl⟩ := hcs
    simp only [Prod.mk.injEq] at hx
    have each : ∀ i, i < len → ∃ q : R2, D i = rangeD q ∧ W.cell? (x.add (i * 2)) = some (.int .i64 q.1) ∧ W.cell? (x.add (i * 2 + 1)) = some (.int .i64 q.2) := by
      intro i hi
      obtain ⟨cs', h1, h2⟩ := hel i (by rw [hmm]; simp; omega)
      rw [cells36] at h1
      obtain ⟨_, hlen, hcell⟩ := World.cells?_some h1
      obtain ⟨xs, k, _, hy, _, hxl, hall⟩ := DataW.trod_array Try.underlying36 h2
      obtain ⟨v0, v1, rfl⟩ := two_of hlen
      have e0 := hcell 0 (by omega)
      have e1 := hcell 1 (by omega)
      rw [add_add] at e0 e1
      have g0 := hall 0 (by decide)
      have g1 := hall 1 (by decide)
      match xs, hxl, hy, g0, g1 with
      | [y0, y1], _, hy, g0, g1 =>
        simp only [tc3, Nat.zero_mul, Nat.one_mul, List.drop_zero, List.drop_succ_cons, List.take_succ_cons, List.take_zero, List.getElem?_cons_zero, List.getElem?_cons_succ] at g0 g1
        obtain ⟨a, ha, ya, _⟩ := DataW.trod_int Try.underlying3 g0
        obtain ⟨n', hn, yn, _⟩ := DataW.trod_int Try.underlying3 g1
        simp only [List.cons.injEq, and_true] at ha hn
        subst ha hn ya yn
        simp only [Prod.mk.injEq] at hy
        exact ⟨(a, n'), by simpa [rangeD] using hy.1, by simpa using e0, by simpa using e1⟩
    obtain ⟨q, hq⟩ := choose_lt each
    refine .inr ⟨x, q, (List.range (m - len)).map fun j => D (len + j), rfl, hl, ?_, ?_, fun i hi => (hq i hi).2⟩
    · simp [hmm]
    · rw [hx.1]
      congr 1
      apply List.map_congr_left
      intro i hi
      exact (hq i (by simpa using hi)).1
theorem rg_of {w : World} {x : Addr} {len : Nat} {q : Nat → R2} (h : ∀ i, i < len → w.cell? (x.add (i * 2)) = some (.int .i64 (q i).1) ∧ w.cell? (x.add (i * 2 + 1)) = some (.int .i64 (q i).2)) :
    Rg w (some x) ((List.range len).map q) := by
  by_cases h0 : len = 0
  · subst h0
    exact .inl rfl
  · obtain ⟨b, off, spot⟩ := x
    have hspot : spot = none := by simpa [Addr.add] using World.cell?_spot (h 0 (by omega)).1
    subst hspot
    have e : ∀ j, (⟨b, off, none⟩ : Addr).add j = ⟨b, off + j, none⟩ := by intro j; unfold Addr.add; split <;> simp_all
    refine .inr ⟨b, off, rfl, ?_, fun i hi => ?_⟩
    · have hb := World.block_lt_of_cell? w _ (h 0 (by omega)).1
      rw [e] at hb
      exact hb
    · have hi' : i < len := by simpa using hi
      have := h i hi'
      simp only [e] at this
      simpa [Nat.add_assoc] using this
theorem bulk_ranges {H : Type} (q : Nat → R2) : ∀ l : List Nat, l.length ≤ Rows.uptoBulkAll (H := H) (l.map fun i => rangeD (q i))
  | [] => Nat.zero_le _
  | x :: l => by
    have := bulk_ranges (H := H) q l
    rw [List.map_cons, Rows.uptoBulkAll, List.length_cons]
    have h1 : 1 ≤ Rows.uptoBulk (H := H) (rangeD (q x)) := by
      unfold rangeD
      rw [Rows.uptoBulk]
      omega
    omega
end Go.Proofs.Ytaidcapflcobiaa
