/- Texts of this proof, one behind the other: what each says stands ahead of it. -/
import Derived.WalkKit
import Derived.OneCell
import Derived.Deep.QuietTactic
import Derived.Deep.LoopGhost
import Derived.Deep.DeepCutAuto
import Derived.BigQuiet
import Derived.Deep.AppendLies
import Derived.Maps.AppendAt
import Derived.Test.YtflonocoihihaaaDoorChecked
import Derived.Test.YtflonocoihihaaaDoorRows
import Derived.OpenShut
import Derived.ChangeArms
import Derived.Shelf.SlSortCmp.WholeK
import Derived.Shelf.SlicesG.Cmp
import Derived.Shelf.Small.Bits
import Derived.Ground.SlsfProg
import Derived.Ground.SlgcProg
import Derived.Ground.NamesProg
/- What a call leaves alone, and blocks of two cells; no condition. -/
namespace Go.Proofs.YtflonocoihihaaaDoor
open Go.RowKit

theorem hid {p : Prop} (h : p) : Hid p := h

/-- Of the blocks that were there, those outside S are as they were. -/
structure Touch (S : Nat → Prop) (w w' : World) : Prop where
  os : w'.os = w.os
  tape : w'.tape = w.tape
  output : w'.output = w.output
  size : w.heap.size ≤ w'.heap.size
  block : ∀ k, k < w.heap.size → ¬ S k → w'.heap[k]? = w.heap[k]?

theorem Touch.refl (S : Nat → Prop) (w : World) : Touch S w w := ⟨rfl, rfl, rfl, Nat.le_refl _, fun _ _ _ => rfl⟩

theorem Touch.trans {S S' : Nat → Prop} {a b c : World} (h : Touch S a b) (k : Touch S' b c) (hs : ∀ i, i < a.heap.size → S' i → S i) : Touch S a c :=
  ⟨k.os.trans h.os, k.tape.trans h.tape, k.output.trans h.output, Nat.le_trans h.size k.size,
    fun i hi hn => (k.block i (Nat.lt_of_lt_of_le hi h.size) (fun e => hn (hs i hi e))).trans (h.block i hi hn)⟩

theorem Touch.mono {S S' : Nat → Prop} {a b : World} (h : Touch S a b) (hs : ∀ i, i < a.heap.size → S i → S' i) : Touch S' a b :=
  ⟨h.os, h.tape, h.output, h.size, fun i hi hn => h.block i hi (fun e => hn (hs i hi e))⟩

theorem Touch.below {S : Nat → Prop} {a b : World} (h : Touch S a b) (B : Nat) (hB : B ≤ a.heap.size) (hs : ∀ i, S i → B ≤ i) : Below B a b :=
  ⟨h.os, h.tape, h.output, h.size, fun i hi => h.block i (by omega) (fun e => by have := hs i e; omega)⟩

theorem Touch.drew {S : Nat → Prop} {a w : World} (h : Touch S a w) : Touch S a w.drew := ⟨h.os, h.tape, h.output, h.size, h.block⟩

theorem Touch.drewN {S : Nat → Prop} {a w : World} (h : Touch S a w) (n : Nat) : Touch S a (w.drewN n) := ⟨h.os, h.tape, h.output, h.size, h.block⟩

theorem Touch.alloc {S : Nat → Prop} {a w : World} (h : Touch S a w) (o : Obj) : Touch S a (w.alloc o) :=
  h.trans (S' := fun _ => False) ⟨rfl, rfl, rfl, by simp, fun k hk _ => Below.heap_alloc _ _ _ hk⟩ (fun _ _ e => e.elim)

theorem Touch.setCell {S : Nat → Prop} {a w : World} (h : Touch S a w) {p : Addr} (hp : p.block < a.heap.size → S p.block) (u : Value) : Touch S a (w.setCell p u) :=
  h.trans (S' := fun k => k = p.block) ⟨rfl, rfl, rfl, by simp [World.setCell], fun k _ hk => Below.heap_setCell _ _ _ _ hk⟩ (fun i hi e => by subst e; exact hp hi)

theorem Touch.grown {S : Nat → Prop} {a w w' : World} {row : Option Nat} (h : Touch S a w) (hg : w.grownBy w' row) (hr : ∀ k, row = some k → k < a.heap.size → S k) : Touch S a w' :=
  h.trans (S' := fun k => row = some k) ⟨hg.os, hg.tape, hg.output, hg.size, fun k hk hn => hg.block k hk (fun e => hn e.symm)⟩ (fun i hi e => hr i e hi)

theorem Touch.cell {S : Nat → Prop} {w w' : World} (h : Touch S w w') {p : Addr} (hp : p.block < w.heap.size) (hn : ¬ S p.block) : w'.cell? p = w.cell? p := World.cell?_of_block (w := w) (h.block p.block hp hn)

theorem touch_of_below {B : Nat} {w w' : World} (h : Below B w w') : Touch (fun k => B ≤ k) w w' :=
  ⟨h.os, h.tape, h.output, h.size, fun k _ hn => h.block k (by omega)⟩

/-! ### A block of two cells -/
theorem cell_two0 {w : World} {b : Nat} {v u : Value} {t : TypeId} (h : w.heap[b]? = some (.cells #[v, u] t (0, 0))) : w.cell? ⟨b, 0, none⟩ = some v := by simp [World.cell?, h]
theorem cell_two1 {w : World} {b : Nat} {v u : Value} {t : TypeId} (h : w.heap[b]? = some (.cells #[v, u] t (0, 0))) : w.cell? ⟨b, 1, none⟩ = some u := by simp [World.cell?, h]
theorem free_two {w : World} {b i : Nat} {v u : Value} {t : TypeId} (h : w.heap[b]? = some (.cells #[v, u] t (0, 0))) : w.frozen? ⟨b, i, none⟩ = false := by simp [World.frozen?, h]
theorem two_set0 {w : World} {b : Nat} {v u x : Value} {t : TypeId} (h : w.heap[b]? = some (.cells #[v, u] t (0, 0))) : (w.setCell ⟨b, 0, none⟩ x).heap[b]? = some (.cells #[x, u] t (0, 0)) := by
  have hlt := lt_of_block h
  have h' : w.heap[b] = .cells #[v, u] t (0, 0) := by simpa [Array.getElem?_eq_getElem hlt] using h
  show (w.heap.modify b _)[b]? = _
  rw [Array.getElem?_eq_getElem (by simpa using hlt), Array.getElem_modify_self, h']
  rfl
theorem two_set1 {w : World} {b : Nat} {v u x : Value} {t : TypeId} (h : w.heap[b]? = some (.cells #[v, u] t (0, 0))) : (w.setCell ⟨b, 1, none⟩ x).heap[b]? = some (.cells #[v, x] t (0, 0)) := by
  have hlt := lt_of_block h
  have h' : w.heap[b] = .cells #[v, u] t (0, 0) := by simpa [Array.getElem?_eq_getElem hlt] using h
  show (w.heap.modify b _)[b]? = _
  rw [Array.getElem?_eq_getElem (by simpa using hlt), Array.getElem_modify_self, h']
  rfl

theorem block_set {w : World} {b : Nat} {cs : Array Value} {t : TypeId} (h : w.heap[b]? = some (.cells cs t (0, 0))) (i : Nat) (x : Value) : (w.setCell ⟨b, i, none⟩ x).heap[b]? = some (.cells (cs.set! i x) t (0, 0)) := by
  have hlt := lt_of_block h
  have h' : w.heap[b] = .cells cs t (0, 0) := by simpa [Array.getElem?_eq_getElem hlt] using h
  show (w.heap.modify b _)[b]? = _
  rw [Array.getElem?_eq_getElem (by simpa using hlt), Array.getElem_modify_self, h']
  rfl

theorem own_shape {w : World} {base n : Nat} {e : TypeId} {sz : Nat} {v : Value} {xs : List Value} (h : w.ownsRow base e sz v n xs) : ∃ a cap, v = .slice a n cap := by
  rcases h.2 with ⟨rfl, rfl⟩ | ⟨g, cap, cur, rfl, _⟩
  · exact ⟨none, 0, rfl⟩
  · exact ⟨_, cap, rfl⟩

theorem results_c {P : Program} {fn : Func} {p : Tmp} {ty : TypeId} (h : fn.results = #[.cell p ty]) (tmps : Array Value) (w : World) (g : Nat) (et : TypeId) (cs : Array Value) (fr : Nat × Nat) (d : TypeDesc)
    (hp : tmps.getD p undef = .pointer (some ⟨g, 0, none⟩)) (hg : w.heap[g]? = some (.cells cs et fr))
    (hu : P.underlying ty = some d) (hd : (match d with | .struct _ | .array _ _ => true | _ => false) = true) (hi : (P.info? ty).map (·.size) = some cs.size) :
    (results fn tmps).run P w = .ok (.agg cs) w := by
  have hp' : tmps[p]?.getD undef = .pointer (some ⟨g, 0, none⟩) := by simpa using hp
  simp [results, h, hp', asAddr, run_loadVar_row w g et ty cs fr d hg hu hd hi]
end Go.Proofs.YtflonocoihihaaaDoor

/- common of two ranges; no condition. -/
namespace Go.Proofs.YtflonocoihihaaaDoor
open Go.RowKit

theorem info33 : (Tryd.prog.info? 26).map (fun i => (i.zero, i.size, i.bytes)) = some (some (.agg #[.int .i64 0, .int .i64 0]), 2, 16) := by kernel_rfl

theorem ret_two {a b c d : Int} (h : a = c) (k : b = d) : Ending.returned (.agg #[.int .i64 a, .int .i64 b]) = .returned (.agg #[.int .i64 c, .int .i64 d]) := by rw [h, k]
theorem third_new (w : World) (o1 o2 o3 : Obj) : (((w.alloc o1).alloc o2).alloc o3).heap[w.heap.size + 1 + 1]? = some o3 := by
  show (((w.heap.push _).push _).push _)[_]? = _
  rw [Array.getElem?_push]
  simp
theorem three_new {w : World} (x y : Value) (t : TypeId) : (w.alloc (.cells #[x, y] t)).heap[w.heap.size]? = some (.cells #[x, y] t (0, 0)) := by
  show (w.heap.push _)[_]? = _
  simp

set_option maxRecDepth 100000 in
theorem common_any (a b c d : Int) (w : World) : Calls Tryd.prog 12 #[.agg #[.int .i64 a, .int .i64 b], .agg #[.int .i64 c, .int .i64 d]] w fun e w' => e = .returned (.agg #[.int .i64 (max a c), .int .i64 (min b d)]) ∧ Touch (fun _ => False) w w' := by
  go_enter Tryd.func12, Tryd.ntmps12
  go_wp2
  all_goals
    refine bodyPost_ret (results_c rfl _ _ (w.heap.size + 1 + 1) 26 _ (0, 0) _ rfl (third_new w _ _ _) Tryd.underlying26 rfl (by kernel_rfl)) rfl ⟨?_, (((Touch.refl _ w).alloc _).alloc _).alloc _⟩
    exact ret_two (by omega) (by omega)
end Go.Proofs.YtflonocoihihaaaDoor

/- Rows of ranges in memory; no condition. -/
namespace Go.Proofs.YtflonocoihihaaaDoor
open Go.RowKit

abbrev R2 := Int × Int
def encR (x : R2) : List Value := [.int .i64 x.1, .int .i64 x.2]
def flatR (l : List R2) : List Value := l.flatMap encR
theorem flatR_append (l m : List R2) : flatR (l ++ m) = flatR l ++ flatR m := by simp [flatR]
theorem length_flatR (l : List R2) : (flatR l).length = l.length * 2 := by
  induction l with
  | nil => rfl
  | cons x r ih => simp only [flatR, List.flatMap_cons, List.length_append, List.length_cons] at ih ⊢; rw [ih]; simp [encR]; omega
theorem flatR_get0 : ∀ (l : List R2) (i : Nat) (h : i < l.length), (flatR l)[2 * i]? = some (.int .i64 (l[i]).1)
  | x :: r, 0, _ => rfl
  | x :: r, i + 1, h => by
    have := flatR_get0 r i (by simpa using h)
    show (encR x ++ flatR r)[2 * (i + 1)]? = _
    rw [List.getElem?_append_right (by simp [encR]; omega)]
    simpa [encR, show 2 * (i + 1) - 2 = 2 * i by omega] using this
theorem flatR_get1 : ∀ (l : List R2) (i : Nat) (h : i < l.length), (flatR l)[2 * i + 1]? = some (.int .i64 (l[i]).2)
  | x :: r, 0, _ => rfl
  | x :: r, i + 1, h => by
    have := flatR_get1 r i (by simpa using h)
    show (encR x ++ flatR r)[2 * (i + 1) + 1]? = _
    rw [List.getElem?_append_right (by simp [encR]; omega)]
    simpa [encR, show 2 * (i + 1) + 1 - 2 = 2 * i + 1 by omega] using this
theorem flatR_one (l : List R2) : ∀ u ∈ flatR l, u.oneCell' = true := by
  intro u hu
  simp only [flatR, List.mem_flatMap, encR] at hu
  obtain ⟨x, _, hx⟩ := hu
  simp at hx
  rcases hx with rfl | rfl <;> rfl

theorem add_g (g j : Nat) : (⟨g, 0, none⟩ : Addr).add j = ⟨g, j, none⟩ := by
  unfold Addr.add
  split
  · rename_i h; rw [h]
  · rw [Nat.zero_add]

/-- A list of ranges in memory, as a walk is told of it. -/
def Rg (w : World) (a : Option Addr) (l : List R2) : Prop :=
  l = [] ∨ ∃ b o, a = some ⟨b, o, none⟩ ∧ b < w.heap.size ∧ ∀ i (h : i < l.length), w.cell? ⟨b, o + i * 2, none⟩ = some (.int .i64 (l[i]).1) ∧ w.cell? ⟨b, o + i * 2 + 1, none⟩ = some (.int .i64 (l[i]).2)

theorem Rg.kept {w w' : World} {S : Nat → Prop} {a : Option Addr} {l : List R2} (h : Rg w a l) (t : Touch S w w') (hs : ∀ b o, a = some ⟨b, o, none⟩ → b < w.heap.size → ¬ S b) : Rg w' a l := by
  rcases h with h | ⟨b, o, rfl, hb, hc⟩
  · exact .inl h
  · refine .inr ⟨b, o, rfl, Nat.lt_of_lt_of_le hb t.size, fun i hi => ?_⟩
    rw [t.cell (p := ⟨b, o + i * 2, none⟩) hb (hs b o rfl hb), t.cell (p := ⟨b, o + i * 2 + 1, none⟩) hb (hs b o rfl hb)]
    exact hc i hi
theorem Rg.new {w w' : World} {a : Option Addr} {l : List R2} (h : Rg w a l) (t : Touch (fun _ => False) w w') : Rg w' a l := h.kept t (fun _ _ _ _ e => e)
theorem own_rg {w : World} {base e : Nat} {v : Value} {l : List R2} (h : w.ownsRow base e 2 v l.length (flatR l)) : ∃ a c, v = .slice a l.length c ∧ Rg w a l := by
  rcases h.2 with ⟨rfl, h0⟩ | ⟨g, cap, cur, rfl, hg, hh, rest⟩
  · exact ⟨none, 0, by rw [h0], .inl (List.eq_nil_of_length_eq_zero h0)⟩
  · refine ⟨_, cap, rfl, .inr ⟨g, 0, rfl, lt_of_block hh, fun i hi => ?_⟩⟩
    have h1 := h.cells (g := g) rfl (2 * i) _ (flatR_get0 l i hi)
    have h2 := h.cells (g := g) rfl (2 * i + 1) _ (flatR_get1 l i hi)
    rw [add_g] at h1 h2
    rw [show 0 + i * 2 = 2 * i by omega]
    exact ⟨h1, h2⟩
end Go.Proofs.YtflonocoihihaaaDoor

/- The two tables of orbits, as the row's list gives them: their cells; no condition. -/
namespace Go.Proofs.YtflonocoihihaaaDoor
open Go.RowKit

def pairsC : Array Value := #[.int .i64 65, .int .i64 90, .int .i64 32, .int .i64 192, .int .i64 214, .int .i64 32, .int .i64 216, .int .i64 222, .int .i64 32, .int .i64 913, .int .i64 929, .int .i64 32, .int .i64 931, .int .i64 937, .int .i64 32, .int .i64 1040, .int .i64 1071, .int .i64 32, .int .i64 66560, .int .i64 66599, .int .i64 40]
def thirdsC : Array Value := #[.int .i64 8490, .int .i64 75, .int .i64 383, .int .i64 83, .int .i64 8491, .int .i64 197, .int .i64 181, .int .i64 924, .int .i64 962, .int .i64 931]

/-- Both tables lie where they lie. -/
structure Tabs (w : World) : Prop where
  pairs : ∃ t, w.heap[0]? = some (.cells pairsC t (0, 0))
  thirds : ∃ t, w.heap[1]? = some (.cells thirdsC t (0, 0))
theorem Tabs.new {w w' : World} (h : Tabs w) (t : Touch (fun _ => False) w w') : Tabs w' := by
  obtain ⟨⟨t0, h0⟩, ⟨t1, h1⟩⟩ := h
  exact ⟨⟨t0, (t.block 0 (lt_of_block h0) id).trans h0⟩, ⟨t1, (t.block 1 (lt_of_block h1) id).trans h1⟩⟩

theorem g0 : Tryd.prog.globalNamed "ferret/ucd.allPairs" = some 0 := by kernel_rfl
theorem g1 : Tryd.prog.globalNamed "ferret/ucd.thirds" = some 1 := by kernel_rfl
theorem y0 : (Tryd.prog.globals[0]?).map (·.type) = some 43 := by kernel_rfl
theorem y1 : (Tryd.prog.globals[1]?).map (·.type) = some 52 := by kernel_rfl
theorem c3 : Tryd.prog.cellsOf 3 = 1 := by kernel_rfl
theorem c47 : Tryd.prog.cellsOf 42 = 3 := by kernel_rfl
theorem c50 : Tryd.prog.cellsOf 51 = 2 := by kernel_rfl
theorem c48 : Tryd.prog.cellsOf 43 = 21 := by kernel_rfl
theorem c51 : Tryd.prog.cellsOf 52 = 10 := by kernel_rfl

theorem at_take {cs : List Value} {k : Nat} {v : Value} (h : (cs.drop k).take 1 = [v]) : cs[k]? = some v := by
  have := congrArg (·[0]?) h
  simpa [List.getElem?_take, List.getElem?_drop] using this
theorem three_list {cs : List Value} {x y z : Value} (hl : cs.length = 3) (q0 : cs[0]? = some x) (q1 : cs[1]? = some y) (q2 : cs[2]? = some z) : cs = [x, y, z] := by
  match cs, hl, q0, q1, q2 with
  | [a, b, c], _, q0, q1, q2 =>
    simp at q0 q1 q2
    subst q0 q1 q2
    rfl
theorem two_list {cs : List Value} {x y : Value} (hl : cs.length = 2) (q0 : cs[0]? = some x) (q1 : cs[1]? = some y) : cs = [x, y] := by
  match cs, hl, q0, q1 with
  | [a, b], _, q0, q1 =>
    simp at q0 q1
    subst q0 q1
    rfl
section
variable {H : Type} {enc : TypeId × Value → H} {w : World} {base : Nat} {sp : Nat → Bool} {held : Bool}
theorem row3 {fuel : Nat} {cs : List Value} {x y z : Int} {p : List MemPlace} (h : DataW.trod enc Tryd.prog w base sp held fuel 42 cs = some (.agg [.lit (.int .i64 x), .lit (.int .i64 y), .lit (.int .i64 z)], p)) : cs = [.int .i64 x, .int .i64 y, .int .i64 z] := by
  obtain ⟨xs, n, rfl, hx, hl, hxl, hall⟩ := DataW.trod_struct Tryd.underlying42 h
  rw [c47] at hl
  have hx3 : xs.map (·.1) = [.lit (.int .i64 x), .lit (.int .i64 y), .lit (.int .i64 z)] := by
    have := congrArg Prod.fst hx
    simpa using this.symm
  obtain ⟨x0, x1, x2, rfl⟩ : ∃ x0 x1 x2, xs = [x0, x1, x2] := by
    match xs, hx3 with
    | [x0, x1, x2], _ => exact ⟨x0, x1, x2, rfl⟩
  simp only [List.map_cons, List.map_nil, List.cons.injEq, and_true] at hx3
  obtain ⟨e0, e1, e2⟩ := hx3
  have f0 := hall 0 _ rfl
  have f1 := hall 1 _ rfl
  have f2 := hall 2 _ rfl
  change DataW.trod _ _ _ _ _ _ _ 3 ((cs.drop 0).take (Tryd.prog.cellsOf 3)) = some x0 at f0
  change DataW.trod _ _ _ _ _ _ _ 3 ((cs.drop 1).take (Tryd.prog.cellsOf 3)) = some x1 at f1
  change DataW.trod _ _ _ _ _ _ _ 3 ((cs.drop 2).take (Tryd.prog.cellsOf 3)) = some x2 at f2
  rw [c3] at f0 f1 f2
  have q0 : cs[0]? = some (.int .i64 x) := by
    obtain ⟨z, hz, hx', _⟩ := DataW.trod_int Tryd.underlying3 f0
    rw [hx'] at e0
    cases e0
    exact at_take hz
  have q1 : cs[1]? = some (.int .i64 y) := by
    obtain ⟨z, hz, hx', _⟩ := DataW.trod_int Tryd.underlying3 f1
    rw [hx'] at e1
    cases e1
    exact at_take hz
  have q2 : cs[2]? = some (.int .i64 z) := by
    obtain ⟨z, hz, hx', _⟩ := DataW.trod_int Tryd.underlying3 f2
    rw [hx'] at e2
    cases e2
    exact at_take hz
  exact three_list hl q0 q1 q2
theorem row2 {fuel : Nat} {cs : List Value} {x y : Int} {p : List MemPlace} (h : DataW.trod enc Tryd.prog w base sp held fuel 51 cs = some (.agg [.lit (.int .i64 x), .lit (.int .i64 y)], p)) : cs = [.int .i64 x, .int .i64 y] := by
  obtain ⟨xs, n, rfl, hx, hl, hxl, hall⟩ := DataW.trod_struct Tryd.underlying51 h
  rw [c50] at hl
  have hx3 : xs.map (·.1) = [.lit (.int .i64 x), .lit (.int .i64 y)] := by
    have := congrArg Prod.fst hx
    simpa using this.symm
  obtain ⟨x0, x1, rfl⟩ : ∃ x0 x1, xs = [x0, x1] := by
    match xs, hx3 with
    | [x0, x1], _ => exact ⟨x0, x1, rfl⟩
  simp only [List.map_cons, List.map_nil, List.cons.injEq, and_true] at hx3
  obtain ⟨e0, e1⟩ := hx3
  have f0 := hall 0 _ rfl
  have f1 := hall 1 _ rfl
  change DataW.trod _ _ _ _ _ _ _ 3 ((cs.drop 0).take (Tryd.prog.cellsOf 3)) = some x0 at f0
  change DataW.trod _ _ _ _ _ _ _ 3 ((cs.drop 1).take (Tryd.prog.cellsOf 3)) = some x1 at f1
  rw [c3] at f0 f1
  have q0 : cs[0]? = some (.int .i64 x) := by
    obtain ⟨z, hz, hx', _⟩ := DataW.trod_int Tryd.underlying3 f0
    rw [hx'] at e0
    cases e0
    exact at_take hz
  have q1 : cs[1]? = some (.int .i64 y) := by
    obtain ⟨z, hz, hx', _⟩ := DataW.trod_int Tryd.underlying3 f1
    rw [hx'] at e1
    cases e1
    exact at_take hz
  exact two_list hl q0 q1

/-- The list that the array is, out of its pieces. -/
theorem pieces {cs : List Value} {m : Nat} : ∀ (rows : List (List Value)) (k : Nat), (∀ i (h : i < rows.length), (cs.drop ((k + i) * m)).take m = rows[i]) → (∀ r ∈ rows, r.length = m) → (cs.drop (k * m)).take (rows.length * m) = rows.flatten
  | [], k, _, _ => by simp
  | r :: rows, k, h, hl => by
    have h0 := h 0 (by simp)
    have ih := pieces (cs := cs) (m := m) rows (k + 1) (fun i hi => by
      have := h (i + 1) (by simpa using hi)
      rw [show k + (i + 1) = k + 1 + i by omega] at this
      simpa using this) (fun q hq => hl q (by simp [hq]))
    simp only [Nat.add_zero, List.getElem_cons_zero] at h0
    rw [List.length_cons, Nat.add_mul, Nat.one_mul, Nat.add_comm, List.take_add, h0, List.drop_drop, List.flatten_cons]
    rw [show k * m + m = (k + 1) * m by rw [Nat.add_mul, Nat.one_mul], ih]
theorem whole {cs : List Value} {m : Nat} {rows : List (List Value)} (h : ∀ i (h : i < rows.length), (cs.drop (i * m)).take m = rows[i]) (hl : ∀ r ∈ rows, r.length = m) (hc : cs.length = rows.length * m) : cs = rows.flatten := by
  have := pieces rows 0 (fun i hi => by rw [Nat.zero_add]; exact h i hi) hl
  rw [Nat.zero_mul, List.drop_zero, List.take_of_length_le (by omega)] at this
  exact this

set_option maxRecDepth 100000 in
theorem pairs_cells {fuel : Nat} {cs : List Value} {p : List MemPlace} (h : DataW.trod enc Tryd.prog w base sp held fuel 43 cs = some (Rows.laid_ferret_ucd_allPairs, p)) : cs = pairsC.toList := by
  obtain ⟨xs, m, rfl, hx, hl, hxl, hall⟩ := DataW.trod_array Tryd.underlying43 h
  rw [c48] at hl
  have hx3 : xs.map (·.1) = [.agg [.lit (.int .i64 65), .lit (.int .i64 90), .lit (.int .i64 32)], .agg [.lit (.int .i64 192), .lit (.int .i64 214), .lit (.int .i64 32)], .agg [.lit (.int .i64 216), .lit (.int .i64 222), .lit (.int .i64 32)], .agg [.lit (.int .i64 913), .lit (.int .i64 929), .lit (.int .i64 32)], .agg [.lit (.int .i64 931), .lit (.int .i64 937), .lit (.int .i64 32)], .agg [.lit (.int .i64 1040), .lit (.int .i64 1071), .lit (.int .i64 32)], .agg [.lit (.int .i64 66560), .lit (.int .i64 66599), .lit (.int .i64 40)]] := by
    have := congrArg Prod.fst hx
    exact (DataW.agg.inj this).symm
  have row : ∀ i (hi : i < 7) (x y z : Int), (xs.map (·.1))[i]? = some (.agg [.lit (.int .i64 x), .lit (.int .i64 y), .lit (.int .i64 z)]) → (cs.drop (i * 3)).take 3 = [.int .i64 x, .int .i64 y, .int .i64 z] := by
    intro i hi x y z hd
    have h1 := hall i hi
    rw [c47] at h1
    rw [List.getElem?_map] at hd
    obtain ⟨⟨d, q⟩, hq, rfl⟩ := Option.map_eq_some_iff.1 hd
    rw [hq] at h1
    exact row3 h1
  rw [hx3] at row
  have := whole (cs := cs) (m := 3) (rows := [[.int .i64 65, .int .i64 90, .int .i64 32], [.int .i64 192, .int .i64 214, .int .i64 32], [.int .i64 216, .int .i64 222, .int .i64 32], [.int .i64 913, .int .i64 929, .int .i64 32], [.int .i64 931, .int .i64 937, .int .i64 32], [.int .i64 1040, .int .i64 1071, .int .i64 32], [.int .i64 66560, .int .i64 66599, .int .i64 40]]) (fun i hi => by
    simp only [List.length_cons, List.length_nil] at hi
    match i, hi with
    | 0, hi => exact row 0 hi _ _ _ rfl
    | 1, hi => exact row 1 hi _ _ _ rfl
    | 2, hi => exact row 2 hi _ _ _ rfl
    | 3, hi => exact row 3 hi _ _ _ rfl
    | 4, hi => exact row 4 hi _ _ _ rfl
    | 5, hi => exact row 5 hi _ _ _ rfl
    | 6, hi => exact row 6 hi _ _ _ rfl) (by simp) (by simp [hl])
  exact this
set_option maxRecDepth 100000 in
theorem thirds_cells {fuel : Nat} {cs : List Value} {p : List MemPlace} (h : DataW.trod enc Tryd.prog w base sp held fuel 52 cs = some (Rows.laid_ferret_ucd_thirds, p)) : cs = thirdsC.toList := by
  obtain ⟨xs, m, rfl, hx, hl, hxl, hall⟩ := DataW.trod_array Tryd.underlying52 h
  rw [c51] at hl
  have hx3 : xs.map (·.1) = [.agg [.lit (.int .i64 8490), .lit (.int .i64 75)], .agg [.lit (.int .i64 383), .lit (.int .i64 83)], .agg [.lit (.int .i64 8491), .lit (.int .i64 197)], .agg [.lit (.int .i64 181), .lit (.int .i64 924)], .agg [.lit (.int .i64 962), .lit (.int .i64 931)]] := by
    have := congrArg Prod.fst hx
    exact (DataW.agg.inj this).symm
  have row : ∀ i (hi : i < 5) (x y : Int), (xs.map (·.1))[i]? = some (.agg [.lit (.int .i64 x), .lit (.int .i64 y)]) → (cs.drop (i * 2)).take 2 = [.int .i64 x, .int .i64 y] := by
    intro i hi x y hd
    have h1 := hall i hi
    rw [c50] at h1
    rw [List.getElem?_map] at hd
    obtain ⟨⟨d, q⟩, hq, rfl⟩ := Option.map_eq_some_iff.1 hd
    rw [hq] at h1
    exact row2 h1
  rw [hx3] at row
  have := whole (cs := cs) (m := 2) (rows := [[.int .i64 8490, .int .i64 75], [.int .i64 383, .int .i64 83], [.int .i64 8491, .int .i64 197], [.int .i64 181, .int .i64 924], [.int .i64 962, .int .i64 931]]) (fun i hi => by
    simp only [List.length_cons, List.length_nil] at hi
    match i, hi with
    | 0, hi => exact row 0 hi _ _ rfl
    | 1, hi => exact row 1 hi _ _ rfl
    | 2, hi => exact row 2 hi _ _ rfl
    | 3, hi => exact row 3 hi _ _ rfl
    | 4, hi => exact row 4 hi _ _ rfl) (by simp) (by simp [hl])
  exact this
end

set_option maxRecDepth 100000 in
theorem tabs_of {W : World} (h : laidMet Tryd.prog [("ferret/ucd.allPairs", Rows.laid_ferret_ucd_allPairs), ("ferret/ucd.thirds", Rows.laid_ferret_ucd_thirds)] W) : Tabs W := by
  obtain ⟨ps, ⟨g, t, cs, fuel, p, q, hg, ht, hvar, hd, ⟨g', t', cs', fuel', p', q', hg', ht', hvar', hd', _, rfl⟩, rfl⟩, _, hfree⟩ := h
  obtain rfl := Option.some.inj (g0.symm.trans hg)
  obtain rfl := Option.some.inj (y0.symm.trans ht)
  obtain rfl := Option.some.inj (g1.symm.trans hg')
  obtain rfl := Option.some.inj (y1.symm.trans ht')
  have e0 : cs = pairsC := by
    have := pairs_cells hd
    cases cs
    simpa using congrArg List.toArray this
  have e1 : cs' = thirdsC := by
    have := thirds_cells hd'
    cases cs'
    simpa using congrArg List.toArray this
  subst e0
  subst e1
  unfold World.var? at hvar hvar'
  rw [g0] at hvar
  rw [g1] at hvar'
  simp only [Option.bind_some] at hvar hvar'
  obtain ⟨⟨cc, tt, hh⟩, _⟩ := hfree 0 0 (by simp [MemPlace.row, pairsC])
  obtain ⟨⟨cc', tt', hh'⟩, _⟩ := hfree 1 0 (by simp [MemPlace.row, thirdsC])
  rw [hh] at hvar
  rw [hh'] at hvar'
  simp only [Option.some.injEq] at hvar hvar'
  subst hvar
  subst hvar'
  exact ⟨⟨tt, hh⟩, ⟨tt', hh'⟩⟩
end Go.Proofs.YtflonocoihihaaaDoor

/- The sort, the comparison and the count of bits that the program calls: that their texts are those that the library speaks of; no condition. -/
namespace Go.Proofs
open Go.Shelf
def Tryd.sortIv_ren : Go.Shelf.Ren := ⟨fun | 6 => 13 | 15 => 26 | 14 => 25 | 28 => 41 | 29 => 42 | 20 => 33 | 21 => 34 | 22 => 35 | 23 => 36 | 24 => 37 | 25 => 38 | 26 => 39 | 27 => 40 | 46 => 52 | 47 => 53 | 48 => 54 | 49 => 55 | 50 => 56 | 57 => 60 | n => n, fun | 22 => 24 | 24 => 26 | 25 => 39 | 3 => 3 | 39 => 56 | 0 => 0 | 53 => 71 | 55 => 73 | 4 => 4 | 46 => 64 | 45 => 63 | 50 => 68 | 5 => 5 | 9 => 9 | 66 => 80 | 70 => 84 | 76 => 88 | 77 => 89 | n => n, fun | n => n⟩
theorem Tryd.sortIv : Go.Proofs.SlLaysF0.n6 Tryd.prog Tryd.sortIv_ren := {
  mixed := by kernel_rfl
  f6 := ⟨Tryd.f13.name, by decide, Tryd.func13.trans (congrArg some (by kernel_rfl))⟩
  f14 := ⟨Tryd.f25.name, by decide, Tryd.func25.trans (congrArg some (by kernel_rfl))⟩
  f15 := Tryd.func26.trans (congrArg some (by kernel_rfl))
  f20 := ⟨Tryd.f33.name, by decide, Tryd.func33.trans (congrArg some (by kernel_rfl))⟩
  f21 := ⟨Tryd.f34.name, by decide, Tryd.func34.trans (congrArg some (by kernel_rfl))⟩
  f22 := ⟨Tryd.f35.name, by decide, Tryd.func35.trans (congrArg some (by kernel_rfl))⟩
  f23 := ⟨Tryd.f36.name, by decide, Tryd.func36.trans (congrArg some (by kernel_rfl))⟩
  f24 := ⟨Tryd.f37.name, by decide, Tryd.func37.trans (congrArg some (by kernel_rfl))⟩
  f25 := ⟨Tryd.f38.name, by decide, Tryd.func38.trans (congrArg some (by kernel_rfl))⟩
  f26 := ⟨Tryd.f39.name, by decide, Tryd.func39.trans (congrArg some (by kernel_rfl))⟩
  f27 := ⟨Tryd.f40.name, by decide, Tryd.func40.trans (congrArg some (by kernel_rfl))⟩
  f28 := Tryd.func41.trans (congrArg some (by kernel_rfl))
  f29 := Tryd.func42.trans (congrArg some (by kernel_rfl))
  f46 := ⟨Tryd.f52.name, by decide, Tryd.func52.trans (congrArg some (by kernel_rfl))⟩
  f47 := Tryd.func53.trans (congrArg some (by kernel_rfl))
  f48 := Tryd.func54.trans (congrArg some (by kernel_rfl))
  f49 := ⟨Tryd.f55.name, by decide, Tryd.func55.trans (congrArg some (by kernel_rfl))⟩
  f50 := ⟨Tryd.f56.name, by decide, Tryd.func56.trans (congrArg some (by kernel_rfl))⟩
  f57 := ⟨Tryd.f60.name, by decide, Tryd.func60.trans (congrArg some (by kernel_rfl))⟩
  t0 := Tryd.underlying0
  a0 := Tryd.isAgg0
  z0 := Tryd.sizeOf0
  v0 := Tryd.zeroValue0
  t3 := Tryd.underlying3
  a3 := Tryd.isAgg3
  z3 := Tryd.sizeOf3
  v3 := Tryd.zeroValue3
  t4 := Tryd.underlying4
  a4 := Tryd.isAgg4
  z4 := Tryd.sizeOf4
  v4 := Tryd.zeroValue4
  t5 := Tryd.underlying5
  a5 := Tryd.isAgg5
  z5 := Tryd.sizeOf5
  v5 := Tryd.zeroValue5
  t9 := Tryd.underlying9
  a9 := Tryd.isAgg9
  z9 := Tryd.sizeOf9
  v9 := Tryd.zeroValue9
  t22 := Tryd.underlying24
  a22 := Tryd.isAgg24
  z22 := Tryd.sizeOf24
  v22 := Tryd.zeroValue24
  t25 := Tryd.underlying39
  a25 := Tryd.isAgg39
  z25 := Tryd.sizeOf39
  v25 := Tryd.zeroValue39
  t39 := Tryd.underlying56
  a39 := Tryd.isAgg56
  z39 := Tryd.sizeOf56
  v39 := Tryd.zeroValue56
  t45 := Tryd.underlying63
  a45 := Tryd.isAgg63
  z45 := Tryd.sizeOf63
  v45 := Tryd.zeroValue63
  t46 := Tryd.underlying64
  a46 := Tryd.isAgg64
  z46 := Tryd.sizeOf64
  v46 := Tryd.zeroValue64
  t50 := Tryd.underlying68
  a50 := Tryd.isAgg68
  z50 := Tryd.sizeOf68
  v50 := Tryd.zeroValue68
  t53 := Tryd.underlying71
  a53 := Tryd.isAgg71
  z53 := Tryd.sizeOf71
  v53 := Tryd.zeroValue71
  t55 := Tryd.underlying73
  a55 := Tryd.isAgg73
  z55 := Tryd.sizeOf73
  v55 := Tryd.zeroValue73
  t66 := Tryd.underlying80
  a66 := Tryd.isAgg80
  z66 := Tryd.sizeOf80
  v66 := Tryd.zeroValue80
  t70 := Tryd.underlying84
  a70 := Tryd.isAgg84
  z70 := Tryd.sizeOf84
  v70 := Tryd.zeroValue84
  t76 := Tryd.underlying88
  a76 := Tryd.isAgg88
  z76 := Tryd.sizeOf88
  v76 := Tryd.zeroValue88
  t77 := Tryd.underlying89
  a77 := Tryd.isAgg89
  z77 := Tryd.sizeOf89
  v77 := Tryd.zeroValue89 }
def Tryd.cmpInt_ren : Go.Shelf.Ren := ⟨fun | 5 => 15 | 7 => 27 | n => n, fun | 22 => 3 | 3 => 3 | 4 => 4 | n => n, fun | n => n⟩
theorem Tryd.cmpInt : Go.Proofs.SlLaysC2.n5 Tryd.prog Tryd.cmpInt_ren := {
  mixed := by kernel_rfl
  f5 := ⟨Tryd.f15.name, by decide, Tryd.func15.trans (congrArg some (by kernel_rfl))⟩
  f7 := ⟨Tryd.f27.name, by decide, Tryd.func27.trans (congrArg some (by kernel_rfl))⟩
  t3 := Tryd.underlying3
  a3 := Tryd.isAgg3
  z3 := Tryd.sizeOf3
  v3 := Tryd.zeroValue3
  t4 := Tryd.underlying4
  a4 := Tryd.isAgg4
  z4 := Tryd.sizeOf4
  v4 := Tryd.zeroValue4
  t22 := Tryd.underlying3
  a22 := Tryd.isAgg3
  z22 := Tryd.sizeOf3
  v22 := Tryd.zeroValue3 }
def Tryd.bitsLen2_ren : Go.Shelf.Ren := ⟨fun | 125 => 26 | 128 => 41 | 129 => 42 | n => n, fun | 46 => 56 | 3 => 3 | 51 => 71 | 53 => 73 | 4 => 4 | 5 => 5 | 9 => 9 | n => n, fun | n => n⟩
theorem Tryd.bitsLen2 : Go.Proofs.Lays.n125 Tryd.prog Tryd.bitsLen2_ren := {
  mixed := by kernel_rfl
  f125 := Tryd.func26.trans (congrArg some (by kernel_rfl))
  f128 := Tryd.func41.trans (congrArg some (by kernel_rfl))
  f129 := Tryd.func42.trans (congrArg some (by kernel_rfl))
  t3 := Tryd.underlying3
  a3 := Tryd.isAgg3
  z3 := Tryd.sizeOf3
  v3 := Tryd.zeroValue3
  t4 := Tryd.underlying4
  a4 := Tryd.isAgg4
  z4 := Tryd.sizeOf4
  v4 := Tryd.zeroValue4
  t5 := Tryd.underlying5
  a5 := Tryd.isAgg5
  z5 := Tryd.sizeOf5
  v5 := Tryd.zeroValue5
  t9 := Tryd.underlying9
  a9 := Tryd.isAgg9
  z9 := Tryd.sizeOf9
  v9 := Tryd.zeroValue9
  t46 := Tryd.underlying56
  a46 := Tryd.isAgg56
  z46 := Tryd.sizeOf56
  v46 := Tryd.zeroValue56
  t51 := Tryd.underlying71
  a51 := Tryd.isAgg71
  z51 := Tryd.sizeOf71
  v51 := Tryd.zeroValue71
  t53 := Tryd.underlying73
  a53 := Tryd.isAgg73
  z53 := Tryd.sizeOf73
  v53 := Tryd.zeroValue73 }
end Go.Proofs
