/- Texts of this proof, one behind the other: what each says stands ahead of it. -/
import Derived.Test.YtmokfheckngfiaaDoorCards
import Derived.Test.YtmokfheckngfiaaDoorTie
import Derived.Test.YtmokfheckngfiaaDoorM8
import Derived.WalkKit
import Derived.ProofKit
import Derived.OpenShut
import Derived.Below
import Derived.Carry
import Derived.ChangeArms
import Derived.ChangeSame
import Derived.Deep.Slices
import Derived.Lib.SmallJoins
import Derived.Deep.DeepHandedRow
import Derived.Lib.LaidTab
import Derived.SevenTiedAt
import Derived.Test.YtmokfheckngfiaaDoorM7
import Derived.Deep.RegionLaw
/- What the frames of the Split laws lean on: the borders, and a list of pairs that a call is handed; no condition. -/
namespace Go.Proofs.YtmokfheckngfiaaDoor
open Go.ChangeShapes Go.WideShapes Go.ChangeAt Go.RowKit Go.Deep Go.Joins

theorem laidOut : laidOutB Tryd.prog = true := by kernel_rfl
theorem own : ownKnob Tryd.prog.godebug = none := by kernel_rfl
theorem gBord : Tryd.prog.globalNamed "ferret/utfsplit.borders" = some 0 := by kernel_rfl
theorem yBord : (Tryd.prog.globals[0]?).map (·.type) = some 80 := by kernel_rfl
theorem tc3 : Tryd.prog.cellsOf 3 = 1 := by kernel_rfl
theorem tc80 : Tryd.prog.cellsOf 80 = 4 := by kernel_rfl
theorem at_take {cs : List Value} {k : Nat} {v : Value} (h : (cs.drop k).take 1 = [v]) : cs[k]? = some v := by
  have := congrArg (·[0]?) h
  simpa [List.getElem?_take, List.getElem?_drop] using this
theorem four_list {cs : List Value} {x y z u : Value} (hl : cs.length = 4) (q0 : cs[0]? = some x) (q1 : cs[1]? = some y) (q2 : cs[2]? = some z) (q3 : cs[3]? = some u) : cs = [x, y, z, u] := by
  match cs, hl, q0, q1, q2, q3 with
  | [a, b, c, d], _, q0, q1, q2, q3 =>
    simp at q0 q1 q2 q3
    subst q0 q1 q2 q3
    rfl
section
variable {H : Type} {enc : TypeId × Value → H} {w : World} {base : Nat} {sp : Nat → Bool} {held : Bool}
set_option maxRecDepth 100000 in
theorem bord_cells {fuel : Nat} {cs : List Value} {p : List MemPlace} (h : DataW.trod enc Tryd.prog w base sp held fuel 80 cs = some (Rows.laid_ferret_utfsplit_borders, p)) : cs = bordC.toList := by
  obtain ⟨xs, m, rfl, hx, hl, hxl, hall⟩ := DataW.trod_array Tryd.underlying80 h
  rw [tc80] at hl
  have hx3 : xs.map (·.1) = [.lit (.int .i64 128), .lit (.int .i64 2048), .lit (.int .i64 65536), .lit (.int .i64 1114112)] := by
    have := congrArg Prod.fst hx
    exact (DataW.agg.inj this).symm
  have row : ∀ i (hi : i < 4) (x : Int), (xs.map (·.1))[i]? = some (.lit (.int .i64 x)) → cs[i * 1]? = some (.int .i64 x) := by
    intro i hi x hd
    have h1 := hall i hi
    rw [tc3] at h1
    rw [List.getElem?_map] at hd
    obtain ⟨⟨d, q⟩, hq, rfl⟩ := Option.map_eq_some_iff.1 hd
    rw [hq] at h1
    obtain ⟨z, hz, hx', _⟩ := DataW.trod_int Tryd.underlying3 h1
    cases hx'
    exact at_take hz
  rw [hx3] at row
  exact four_list hl (row 0 (by decide) _ rfl) (row 1 (by decide) _ rfl) (row 2 (by decide) _ rfl) (row 3 (by decide) _ rfl)
end
set_option maxRecDepth 100000 in
theorem bord_of {W : World} (h : laidMet Tryd.prog [("ferret/coding.marks", Rows.laid_ferret_coding_marks), ("ferret/utfsplit.borders", Rows.laid_ferret_utfsplit_borders)] W) : Bord W := by
  obtain ⟨ps, ⟨g, t, cs, fuel, p, q, hg, ht, hvar, hd, ⟨g', t', cs', fuel', p', q', hg', ht', hvar', hd', _, rfl⟩, rfl⟩, _, hfree⟩ := h
  obtain rfl := Option.some.inj (gBord.symm.trans hg')
  obtain rfl := Option.some.inj (yBord.symm.trans ht')
  have e1 : cs' = bordC := by
    have := bord_cells hd'
    cases cs'
    simpa using congrArg List.toArray this
  subst e1
  unfold World.var? at hvar'
  rw [gBord] at hvar'
  simp only [Option.bind_some] at hvar'
  obtain ⟨⟨cc', tt', hh'⟩, _⟩ := hfree 0 0 (by simp [MemPlace.row, bordC])
  rw [hh'] at hvar'
  simp only [Option.some.injEq] at hvar'
  subst hvar'
  exact ⟨tt', hh'⟩

/-- A block that holds other cells. -/
def setC (cs : Array Value) : Obj → Obj
  | .cells _ t frozen => .cells cs t frozen
  | o => o
def marksC : Array Value := #[.string ⟨#[]⟩, .string ⟨#[239, 187, 191]⟩, .string ⟨#[255, 254]⟩, .string ⟨#[254, 255]⟩, .string ⟨#[]⟩]
/-- A world for the witness: the settled one, both tables holding what their initialisers lay. -/
noncomputable def laidWorld (os : Os) : World :=
  { World.holding Tryd.prog os ⟨#[], #[], []⟩ with heap := ((World.holding Tryd.prog os ⟨#[], #[], []⟩).heap.modify 0 (setC bordC)).modify 1 (setC marksC) }
theorem cells68 : Tryd.prog.cellsOf 68 = 2 := by kernel_rfl
theorem two_of {l : List Value} (h : l.length = 2) : ∃ a b, l = [a, b] := by
  match l, h with
  | [a, b], _ => exact ⟨a, b, rfl⟩
def rangeD {H : Type} (q : S.R2) : DataW H := .agg [.lit (.int .i64 q.1), .lit (.int .i64 q.2)]
theorem open_pairs {H : Type} {enc : TypeId × Value → H} {W : World} {a : Option Addr} {len cap : Nat} {d : DataW H} {p : List MemPlace}
    (h : DataW.Trod enc Tryd.prog W 0 (fun _ => true) true 42 (.slice a len cap) d p) :
    (a = none ∧ len = 0 ∧ cap = 0 ∧ d = .nil) ∨ ∃ (x : Addr) (q : Nat → S.R2) (sp : List (DataW H)), a = some x ∧ len ≤ cap ∧ sp.length = cap - len ∧
      d = .slice ((List.range len).map fun i => rangeD (q i)) sp ∧
      ∀ i, i < len → W.cell? (x.add (i * 2)) = some (.int .i64 (q i).1) ∧ W.cell? (x.add (i * 2 + 1)) = some (.int .i64 (q i).2) := by
  obtain ⟨fuel, hf⟩ := h
  rcases open_slice Tryd.underlying42 hf with ⟨hcs, hx⟩ | ⟨x, l, c, m, n, D, Pl, hcs, _, hl, _, hmm, hx, hel⟩
  · simp [Value.cells] at hcs
    obtain ⟨rfl, rfl, rfl⟩ := hcs
    simp only [Prod.mk.injEq] at hx
    exact .inl ⟨rfl, rfl, rfl, hx.1⟩
  · simp [Value.cells] at hcs
    obtain ⟨rfl, rfl, rfl⟩ := hcs
    simp only [Prod.mk.injEq] at hx
    have each : ∀ i, i < len → ∃ q : S.R2, D i = rangeD q ∧ W.cell? (x.add (i * 2)) = some (.int .i64 q.1) ∧ W.cell? (x.add (i * 2 + 1)) = some (.int .i64 q.2) := by
      intro i hi
      obtain ⟨cs', h1, h2⟩ := hel i (by rw [hmm]; simp; omega)
      rw [cells68] at h1
      obtain ⟨_, hlen, hcell⟩ := World.cells?_some h1
      obtain ⟨xs, k, _, hy, _, hxl, hall⟩ := DataW.trod_array Tryd.underlying68 h2
      obtain ⟨v0, v1, rfl⟩ := two_of hlen
      have e0 := hcell 0 (by omega)
      have e1 := hcell 1 (by omega)
      rw [add_add] at e0 e1
      have g0 := hall 0 (by decide)
      have g1 := hall 1 (by decide)
      match xs, hxl, hy, g0, g1 with
      | [y0, y1], _, hy, g0, g1 =>
        simp only [tc3, Nat.zero_mul, Nat.one_mul, List.drop_zero, List.drop_succ_cons, List.take_succ_cons, List.take_zero, List.getElem?_cons_zero, List.getElem?_cons_succ] at g0 g1
        obtain ⟨a, ha, ya, _⟩ := DataW.trod_int Tryd.underlying3 g0
        obtain ⟨n', hn, yn, _⟩ := DataW.trod_int Tryd.underlying3 g1
        simp only [List.cons.injEq, and_true] at ha hn
        subst ha hn ya yn
        simp only [Prod.mk.injEq] at hy
        exact ⟨(a, n'), by simpa [rangeD] using hy.1, by simpa using e0, by simpa using e1⟩
    obtain ⟨q, hq⟩ := choose_lt each
    refine .inr ⟨x, q, (List.range (m - len)).map fun j => D (len + j), rfl, hl, ?_, ?_, fun i hi => (hq i hi).2⟩
    · simp [hmm]
    · rw [hx.1]
      congr 1
      apply List.map_congr_left
      intro i hi
      exact (hq i (by simpa using hi)).1
theorem rg_of {w : World} {x : Addr} {len : Nat} {q : Nat → S.R2} (h : ∀ i, i < len → w.cell? (x.add (i * 2)) = some (.int .i64 (q i).1) ∧ w.cell? (x.add (i * 2 + 1)) = some (.int .i64 (q i).2)) :
    S.Rg w (some x) ((List.range len).map q) := by
  by_cases h0 : len = 0
  · subst h0
    exact .inl rfl
  · obtain ⟨b, off, spot⟩ := x
    have hspot : spot = none := by simpa [Addr.add] using World.cell?_spot (h 0 (by omega)).1
    subst hspot
    have e : ∀ j, (⟨b, off, none⟩ : Addr).add j = ⟨b, off + j, none⟩ := by intro j; unfold Addr.add; split <;> simp_all
    refine .inr ⟨b, off, rfl, ?_, fun i hi => ?_⟩
    · have hb := World.block_lt_of_cell? w _ (h 0 (by omega)).1
      rw [e] at hb
      exact hb
    · have hi' : i < len := by simpa using hi
      have := h i hi'
      simp only [e] at this
      simpa [Nat.add_assoc] using this
theorem bulk_ranges {H : Type} (q : Nat → S.R2) : ∀ l : List Nat, l.length ≤ Rows.uptoBulkAll (H := H) (l.map fun i => rangeD (q i))
  | [] => Nat.zero_le _
  | x :: l => by
    have := bulk_ranges (H := H) q l
    rw [List.map_cons, Rows.uptoBulkAll, List.length_cons]
    have h1 : 1 ≤ Rows.uptoBulk (H := H) (rangeD (q x)) := by
      unfold rangeD
      rw [Rows.uptoBulk]
      omega
    omega
end Go.Proofs.YtmokfheckngfiaaDoor

/- A part's row, put behind those that are there, with what keeps it as it is; conditions: those told. -/
namespace Go.Proofs.YtmokfheckngfiaaDoor
open Go.RowKit
open Go.Lib

/-- A cell that holds a row: its ranges lie in a block of their own kind. -/
def Rowed (w : World) (N : Nat) (x : Value) (z : List S.R2) : Prop := ∃ a c, x = .slice a z.length c ∧ S.Rg w a z ∧ ∀ b o', a = some ⟨b, o', none⟩ → N ≤ b ∧ ∃ cs, w.heap[b]? = some (.cells cs 38 (0, 0))
theorem own_block38 {w : World} {v : Value} {n : Nat} {xs : List Value} (h : w.ownsRow 0 38 2 v n xs) {g : Nat} (hg : v.ownBlock = some g) : ∃ cur, w.heap[g]? = some (.cells cur 38 (0, 0)) := by
  rcases h.2 with ⟨rfl, _⟩ | ⟨b, cap, cur, rfl, _, hh, _⟩
  · simp [Value.ownBlock] at hg
  · simp [Value.ownBlock] at hg
    subst hg
    exact ⟨cur, hh⟩
theorem Rowed.kept {w w' : World} {P : Nat → Prop} {N : Nat} {x : Value} {z : List S.R2} (h : Rowed w N x z) (t : Touch P w w') (hp : ∀ b cs, N ≤ b → w.heap[b]? = some (.cells cs 38 (0, 0)) → ¬ P b) : Rowed w' N x z := by
  obtain ⟨a, c, rfl, hr, hb⟩ := h
  refine ⟨a, c, rfl, hr.kept t (fun b o hab _ => ?_), fun b o hab => ?_⟩
  · obtain ⟨hN, cs, hc⟩ := hb b o hab
    exact hp b cs hN hc
  · obtain ⟨hN, cs, hc⟩ := hb b o hab
    exact ⟨hN, cs, (t.block b (lt_of_block hc) (hp b cs hN hc)).trans hc⟩
theorem Rowed.from {w : World} {N M : Nat} {x : Value} {z : List S.R2} (h : Rowed w N x z) (hM : M ≤ N) : Rowed w M x z := by
  obtain ⟨a, c, rfl, hr, hb⟩ := h
  exact ⟨a, c, rfl, hr, fun b o hab => ⟨Nat.le_trans hM (hb b o hab).1, (hb b o hab).2⟩⟩
theorem Rb.apart38 {P : Nat → Prop} {W0 wr : World} {q : Nat} {v : Value} {o : List Value} (h : Rb P W0 wr q v o) (p : Nat) (cs : Array Value) (hc : wr.heap[p]? = some (.cells cs 38 (0, 0))) : ¬ (p = q ∨ v.ownBlock = some p) := fun e => by
  rcases e with e | e
  · have := h.blk
    rw [← e, hc] at this
    simp at this
  · obtain ⟨cur, hh⟩ := own_block41 h.own e
    rw [hc] at hh
    simp at hh
def zOf (p : Nat × Nat) : List S.R2 := List.zip (en8 (p.1 : Int)) (en8 (p.2 : Int))
/-- Cells that hold the rows of some parts. -/
def RowsAt (w : World) (N : Nat) : List Value → List (Nat × Nat) → Prop
  | [], [] => True
  | x :: xs, p :: l => Rowed w N x (zOf p) ∧ RowsAt w N xs l
  | _, _ => False
theorem RowsAt.kept {w w' : World} {P : Nat → Prop} {N : Nat} (t : Touch P w w') (hp : ∀ b cs, N ≤ b → w.heap[b]? = some (.cells cs 38 (0, 0)) → ¬ P b) : ∀ {xs : List Value} {l : List (Nat × Nat)}, RowsAt w N xs l → RowsAt w' N xs l
  | [], [], _ => trivial
  | _ :: _, _ :: _, h => ⟨h.1.kept t hp, h.2.kept t hp⟩
theorem RowsAt.from {w : World} {N M : Nat} (hM : M ≤ N) : ∀ {xs : List Value} {l : List (Nat × Nat)}, RowsAt w N xs l → RowsAt w M xs l
  | [], [], _ => trivial
  | _ :: _, _ :: _, h => ⟨h.1.from hM, RowsAt.from hM h.2⟩
theorem RowsAt.new {w w' : World} {N : Nat} {xs : List Value} {l : List (Nat × Nat)} (h : RowsAt w N xs l) (t : Touch (fun _ => False) w w') : RowsAt w' N xs l := h.kept t (fun _ _ _ _ e => e)
theorem RowsAt.append {w : World} {N : Nat} : ∀ {xs ys : List Value} {l m : List (Nat × Nat)}, RowsAt w N xs l → RowsAt w N ys m → RowsAt w N (xs ++ ys) (l ++ m)
  | [], _, [], _, _, h => h
  | _ :: _, _, _ :: _, _, h, h' => ⟨h.1, RowsAt.append h.2 h'⟩
theorem RowsAt.len {w : World} {N : Nat} : ∀ {xs : List Value} {l : List (Nat × Nat)}, RowsAt w N xs l → xs.length = l.length
  | [], [], _ => rfl
  | _ :: _, _ :: _, h => congrArg (· + 1) (RowsAt.len h.2)
/-- What some parts come to: their rows behind those that are there. -/
def PutRows (w : World) (q : Nat) (v : Value) (o : List Value) (l : List (Nat × Nat)) (e : Ending) (w' : World) : Prop := e = .returned (.tuple #[]) ∧ ∃ v' os, Rb (fun k => k = q ∨ v.ownBlock = some k) w w' q v' (o ++ os) ∧ RowsAt w' w.heap.size os l
theorem rows_more {P : Nat → Prop} {W0 w w' : World} {q N : Nat} {v v' : Value} {o os os' : List Value} {l m : List (Nat × Nat)} (h : Rb P W0 w q v (o ++ os)) (hr : RowsAt w N os l) (h' : Rb (fun k => k = q ∨ v.ownBlock = some k) w w' q v' (o ++ os ++ os')) (hr' : RowsAt w' w.heap.size os' m) (hN : N ≤ w.heap.size) : Rb P W0 w' q v' (o ++ (os ++ os')) ∧ RowsAt w' N (os ++ os') (l ++ m) := by
  refine ⟨?_, RowsAt.append (hr.kept h'.touch (fun b cs _ hc => h.apart38 b cs hc)) (hr'.from hN)⟩
  rw [← List.append_assoc]
  exact h.back h'
set_option maxRecDepth 100000 in
set_option maxHeartbeats 8000000 in
theorem split1_all (f t : Int) (hf : okc 1 f = true) (ht : okc 1 t = true) (hl : (en8 f).length = (en8 t).length) (q : Nat) (v : Value) (o : List Value) (w : World) (h : Rb (fun k => k = q ∨ v.ownBlock = some k) w w q v o) (hb : o.length ≤ 1099511627) :
    Calls Tryd.prog 33 (#[.agg #[.int .i64 f, .int .i64 t]] ++ #[.pointer (some ⟨q, 0, none⟩)]) w fun e w' => e = .returned (.tuple #[]) ∧ ∃ v' x, Rb (fun k => k = q ∨ v.ownBlock = some k) w w' q v' (o ++ [x]) ∧ Rowed w' w.heap.size x (List.zip (en8 f) (en8 t)) := by
  have B := hid (block_new w #[.int .i64 f, .int .i64 t] 38)
  have TA := hid ((Touch.refl (fun _ => False) w).alloc (.cells #[.int .i64 f, .int .i64 t] 38))
  have O1 := hid (h.still TA.out)
  obtain ⟨z, hz⟩ : ∃ z, z = List.zip (en8 f) (en8 t) := ⟨_, rfl⟩
  have HR := hid (show ∀ w, Calls Tryd.prog 34 #[.agg #[.int .i64 f, .int .i64 t]] w fun e w' => ∃ v, e = .returned v ∧ S.OwE w w' 38 v z by rw [hz]; exact fun w => rowOf_any f t hf ht hl w)
  rw [← hz]
  clear hz
  have hqn := h.ne
  obtain ⟨av, kv, hv⟩ := own_shape h.own
  subst hv
  obtain ⟨i0, hi41, hz0, hz1, hz2⟩ := info_parts info41i
  have H := hid h
  clear h hf ht hl
  go_enter Tryd.func33, Tryd.ntmps33
  go_upto_region 1 with fail
  generalize (w.alloc (.cells #[.int .i64 f, .int .i64 t] 38)) = w1 at *
  obtain ⟨p, hp⟩ : ∃ p, p = w.heap.size := ⟨_, rfl⟩
  rw [← hp] at B ⊢
  clear hp
  have c0 : w1.cell? ⟨p, 0, none⟩ = some (.int .i64 f) := by simp [World.cell?, B.out]
  have c1 : w1.cell? ⟨p, 1, none⟩ = some (.int .i64 t) := by simp [World.cell?, B.out]
  obtain ⟨hq0, hqf⟩ := O1.out.cell
  have lq := lt_of_block O1.out.blk
  go_region_law (first
    | (refine step_call34 _ (by rfl) _ _ (by rfl) _ (by rfl) _ (HR.out _) ?_
       intro rv w2 how
       obtain ⟨ar, cr, hrv, hrg⟩ := how.rg
       subst hrv
       have T12 := hid (show Touch (fun _ => False) w1 w2 from ⟨how.touch.os, how.touch.tape, how.touch.output, how.touch.size, how.touch.block⟩)
       have O2 := hid (O1.out.still T12.out)
       have RGW := hid hrg
       have NEW := hid how.new
       have OWN := hid how.own
       clear hq0 hqf how hrg
       obtain ⟨hq0, hqf⟩ := O2.out.cell
       have hq1 : (w2.alloc (.cells #[.slice ar z.length cr] 41)).cell? ⟨q, 0, none⟩ = some (.slice av o.length kv) := by
         rw [← hq0]
         simp only [World.cell?, Below.heap_alloc _ _ _ (lt_of_block O2.out.blk)])
    | (refine step_append_own _ (by rfl) _ _ _ (by rfl) 0 41 i0 _ 1 24 Tryd.underlying32 hi41 hz0 hz1 hz2 rfl (by decide) _ _ _ (by rfl) ((O2.out.own.alloc _).drew) ⟨w2.heap.size, 0, none⟩ 1 1 [.slice ar z.length cr] (by rfl) (by rfl) (row_new w2 [.slice ar z.length cr] 41) (by intro u hu; simp at hu; subst hu; rfl) (by unfold maxLen; omega) (by omega) (Nat.zero_le _) (w2.heap.size + 1) (by simp) ?_
       intro v' w4 hown hgrow hat
       clear hq0 hqf
       obtain ⟨hq0, hqf⟩ := O2.out.mid ⟨hgrow.os, hgrow.tape, hgrow.output, hgrow.size, hgrow.block⟩
       obtain ⟨a2, k2, hv2⟩ := own_shape hown
       subst hv2))
  all_goals
    have O3 := hid (O2.out.app hown ⟨hgrow.os, hgrow.tape, hgrow.output, hgrow.size, hgrow.block⟩ hat)
    have TF := hid (show Touch (fun k => k = q ∨ (Value.slice av o.length kv).ownBlock = some k) w2 (w4.setCell ⟨q, 0, none⟩ (.slice a2 (o.length + 1) k2)) from (((Touch.refl _ w2).alloc _).grown ⟨hgrow.os, hgrow.tape, hgrow.output, hgrow.size, hgrow.block⟩ (fun k e _ => .inr e)).setCell (fun _ => .inl rfl) _)
    have RF := hid (RGW.out.kept TF.out (fun b o' hab _ hS => by
      have h1 : w1.heap.size ≤ b := NEW.out b (by rw [hab]; rfl)
      have h2 := lt_of_block H.out.blk
      have h3 := TA.out.size
      rcases hS with e | e
      · omega
      · have h4 := lt_of_block (own_block41 H.out.own e).choose_spec
        omega))
    have RW := hid (show Rowed (w4.setCell ⟨q, 0, none⟩ (.slice a2 (o.length + 1) k2)) w.heap.size (.slice ar z.length cr) z from ⟨ar, cr, rfl, RF.out, fun b o' hab => by
      have h1 : w1.heap.size ≤ b := NEW.out b (by rw [hab]; rfl)
      obtain ⟨cur, hcur⟩ := own_block38 OWN.out (g := b) (by rw [hab]; rfl)
      refine ⟨by have h3 := TA.out.size; omega, cur, (TF.out.block b (lt_of_block hcur) (fun hS => ?_)).trans hcur⟩
      have h2 := lt_of_block H.out.blk
      have h3 := TA.out.size
      rcases hS with e | e
      · omega
      · have h4 := lt_of_block (own_block41 H.out.own e).choose_spec
        omega⟩)
    clear hown hgrow hat hq0 hqf hq1 O2 TF RGW NEW T12 OWN RF
    go_wp2
    refine bodyPost_end (results_none rfl _ _ _) rfl ?_
    exact ⟨rfl, _, _, O3.out, RW.out⟩
end Go.Proofs.YtmokfheckngfiaaDoor
