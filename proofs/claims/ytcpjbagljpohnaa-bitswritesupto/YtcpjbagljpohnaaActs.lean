/- A list of steps that came in, opened: its numbers and texts; no condition. -/
import Derived.Test.YtcpjbagljpohnaaChecked
import Derived.WalkKit
import Derived.ProofKit
import Derived.Deep.Slices
import Derived.Lib.SmallJoins
namespace Go.Proofs.Ytcpjbagljpohnaa
open Go.ChangeShapes Go.WideShapes Go.ChangeAt Go.RowKit Go.Deep Go.Joins

theorem cells27 : Try.prog.cellsOf 27 = 4 := by kernel_rfl
theorem cells3 : Try.prog.cellsOf 3 = 1 := by kernel_rfl
theorem cells9 : Try.prog.cellsOf 9 = 1 := by kernel_rfl
theorem four {l : List Value} (h : l.length = 4) : ∃ a b c d, l = [a, b, c, d] := by
  match l, h with
  | [a, b, c, d], _ => exact ⟨a, b, c, d, rfl⟩

def actD {H : Type} (a n v : Int) (t : ByteArray) : DataW H := .agg [.lit (.int .i64 a), .lit (.int .i64 n), .lit (.int .i64 v), .lit (.string t.data.toList)]

theorem open_acts {H : Type} {enc : TypeId × Value → H} {W : World} {a : Option Addr} {len cap : Nat} {d : DataW H} {p : List MemPlace}
    (h : DataW.Trod enc Try.prog W 0 (fun _ => true) true 22 (.slice a len cap) d p) :
    (a = none ∧ len = 0 ∧ cap = 0 ∧ d = .nil) ∨ ∃ (x : Addr) (A N V : Nat → Int) (T : Nat → ByteArray) (sp : List (DataW H)), a = some x ∧ len ≤ cap ∧ sp.length = cap - len ∧
      d = .slice ((List.range len).map fun i => actD (A i) (N i) (V i) (T i)) sp ∧
      ∀ i, i < len → W.cell? (x.add (i * 4)) = some (.int .i64 (A i)) ∧ W.cell? (x.add (i * 4 + 1)) = some (.int .i64 (N i)) ∧ W.cell? (x.add (i * 4 + 2)) = some (.int .i64 (V i)) ∧ W.cell? (x.add (i * 4 + 3)) = some (.string (T i)) := by
  obtain ⟨fuel, hf⟩ := h
  rcases open_slice Try.underlying22 hf with ⟨hcs, hx⟩ | ⟨x, l, c, m, n, D, Pl, hcs, _, hl, _, hmm, hx, hel⟩
  · simp [Value.cells] at hcs
    obtain ⟨rfl, rfl, rfl⟩ := hcs
    simp only [Prod.mk.injEq] at hx
    exact .inl ⟨rfl, rfl, rfl, hx.1⟩
  · simp [Value.cells] at hcs
    obtain ⟨rfl, rfl, rfl⟩ := hcs
    simp only [Prod.mk.injEq] at hx
    have each : ∀ i, i < len → ∃ q : Int × Int × Int × ByteArray, D i = actD q.1 q.2.1 q.2.2.1 q.2.2.2 ∧ W.cell? (x.add (i * 4)) = some (.int .i64 q.1) ∧ W.cell? (x.add (i * 4 + 1)) = some (.int .i64 q.2.1) ∧ W.cell? (x.add (i * 4 + 2)) = some (.int .i64 q.2.2.1) ∧ W.cell? (x.add (i * 4 + 3)) = some (.string q.2.2.2) := by
      intro i hi
      obtain ⟨cs', h1, h2⟩ := hel i (by rw [hmm]; simp; omega)
      rw [cells27] at h1
      obtain ⟨_, hlen, hcell⟩ := World.cells?_some h1
      obtain ⟨y0, y1, y2, y3, k, hy, _, g0, g1, g2, g3⟩ := trod_struct4 Try.underlying27 h2
      obtain ⟨v0, v1, v2, v3, rfl⟩ := four hlen
      have e0 := hcell 0 (by omega)
      have e1 := hcell 1 (by omega)
      have e2 := hcell 2 (by omega)
      have e3 := hcell 3 (by omega)
      rw [add_add] at e0 e1 e2 e3
      simp only [cells3, cells9, List.drop_zero, List.drop_succ_cons, List.take_succ_cons, List.take_zero] at g0 g1 g2 g3
      obtain ⟨a, ha, ya, _⟩ := DataW.trod_int Try.underlying3 g0
      obtain ⟨n', hn, yn, _⟩ := DataW.trod_int Try.underlying3 g1
      obtain ⟨v, hv, yv, _⟩ := DataW.trod_int Try.underlying3 g2
      obtain ⟨t, ht, yt, _⟩ := DataW.trod_string Try.underlying9 g3
      simp only [List.cons.injEq, and_true] at ha hn hv ht
      subst ha hn hv ht ya yn yv yt
      simp only [Prod.mk.injEq] at hy
      exact ⟨(a, n', v, t), hy.1, by simpa using e0, by simpa using e1, by simpa using e2, by simpa using e3⟩
    obtain ⟨q, hq⟩ := choose_lt each
    refine .inr ⟨x, fun i => (q i).1, fun i => (q i).2.1, fun i => (q i).2.2.1, fun i => (q i).2.2.2, (List.range (m - len)).map fun j => D (len + j), rfl, hl, ?_, ?_, fun i hi => (hq i hi).2⟩
    · simp [hmm]
    · rw [hx.1]
      congr 1
      apply List.map_congr_left
      intro i hi
      exact (hq i (by simpa using hi)).1

/-- What a walk is told of a list of steps. -/
def IsActs (w : World) (a : Option Addr) (len : Nat) (A N V : Nat → Int) (T : Nat → ByteArray) : Prop :=
  len = 0 ∨ ∃ b o, a = some ⟨b, o, none⟩ ∧ b < w.heap.size ∧
    ∀ i, i < len → w.cell? ⟨b, o + i * 4, none⟩ = some (.int .i64 (A i)) ∧ w.cell? ⟨b, o + i * 4 + 1, none⟩ = some (.int .i64 (N i)) ∧ w.cell? ⟨b, o + i * 4 + 2, none⟩ = some (.int .i64 (V i)) ∧ w.cell? ⟨b, o + i * 4 + 3, none⟩ = some (.string (T i))

theorem isActs_of {w : World} {x : Addr} {len : Nat} {A N V : Nat → Int} {T : Nat → ByteArray}
    (h : ∀ i, i < len → w.cell? (x.add (i * 4)) = some (.int .i64 (A i)) ∧ w.cell? (x.add (i * 4 + 1)) = some (.int .i64 (N i)) ∧ w.cell? (x.add (i * 4 + 2)) = some (.int .i64 (V i)) ∧ w.cell? (x.add (i * 4 + 3)) = some (.string (T i))) :
    IsActs w (some x) len A N V T := by
  by_cases h0 : len = 0
  · exact .inl h0
  · obtain ⟨b, off, spot⟩ := x
    have hspot : spot = none := by simpa [Addr.add] using World.cell?_spot (h 0 (by omega)).1
    subst hspot
    have e : ∀ j, (⟨b, off, none⟩ : Addr).add j = ⟨b, off + j, none⟩ := by intro j; unfold Addr.add; split <;> simp_all
    refine .inr ⟨b, off, rfl, ?_, fun i hi => ?_⟩
    · have hb := World.block_lt_of_cell? w _ (h 0 (by omega)).1
      rw [e] at hb
      exact hb
    · have := h i hi
      simp only [e] at this
      exact this
end Go.Proofs.Ytcpjbagljpohnaa
