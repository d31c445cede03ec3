/- SplitOne, for every number: of one scalar there is one row, of just its bytes, and of any other number there is none. -/
import Derived.Test.YtmokfheckngfiaaDoorCards
import Derived.Test.YtmokfheckngfiaaDoorTie
import Derived.Test.YtmokfheckngfiaaDoorM11
import Derived.WalkKit
import Derived.ProofKit
import Derived.OpenShut
import Derived.Below
import Derived.ChangeArms
import Derived.Deep.DeepHandedRow
import Derived.Lib.LaidTab
import Derived.SevenTiedAt
namespace Go.Proofs.YtmokfheckngfiaaDoor
open Go.ChangeShapes Go.WideShapes Go.ChangeAt Go.RowKit

theorem own : ownKnob Tryd.prog.godebug = none := by kernel_rfl
theorem gBord : Tryd.prog.globalNamed "ferret/utfsplit.borders" = some 0 := by kernel_rfl
theorem yBord : (Tryd.prog.globals[0]?).map (·.type) = some 80 := by kernel_rfl
theorem tc3 : Tryd.prog.cellsOf 3 = 1 := by kernel_rfl
theorem tc80 : Tryd.prog.cellsOf 80 = 4 := by kernel_rfl
theorem at_take {cs : List Value} {k : Nat} {v : Value} (h : (cs.drop k).take 1 = [v]) : cs[k]? = some v := by
  have := congrArg (·[0]?) h
  simpa [List.getElem?_take, List.getElem?_drop] using this
theorem four_list {cs : List Value} {x y z u : Value} (hl : cs.length = 4) (q0 : cs[0]? = some x) (q1 : cs[1]? = some y) (q2 : cs[2]? = some z) (q3 : cs[3]? = some u) : cs = [x, y, z, u] := by
  match cs, hl, q0, q1, q2, q3 with
  | [a, b, c, d], _, q0, q1, q2, q3 =>
    simp at q0 q1 q2 q3
    subst q0 q1 q2 q3
    rfl
section
variable {H : Type} {enc : TypeId × Value → H} {w : World} {base : Nat} {sp : Nat → Bool} {held : Bool}
set_option maxRecDepth 100000 in
theorem bord_cells {fuel : Nat} {cs : List Value} {p : List MemPlace} (h : DataW.trod enc Tryd.prog w base sp held fuel 80 cs = some (Rows.laid_ferret_utfsplit_borders, p)) : cs = bordC.toList := by
  obtain ⟨xs, m, rfl, hx, hl, hxl, hall⟩ := DataW.trod_array Tryd.underlying80 h
  rw [tc80] at hl
  have hx3 : xs.map (·.1) = [.lit (.int .i64 128), .lit (.int .i64 2048), .lit (.int .i64 65536), .lit (.int .i64 1114112)] := by
    have := congrArg Prod.fst hx
    exact (DataW.agg.inj this).symm
  have row : ∀ i (hi : i < 4) (x : Int), (xs.map (·.1))[i]? = some (.lit (.int .i64 x)) → cs[i * 1]? = some (.int .i64 x) := by
    intro i hi x hd
    have h1 := hall i hi
    rw [tc3] at h1
    rw [List.getElem?_map] at hd
    obtain ⟨⟨d, q⟩, hq, rfl⟩ := Option.map_eq_some_iff.1 hd
    rw [hq] at h1
    obtain ⟨z, hz, hx', _⟩ := DataW.trod_int Tryd.underlying3 h1
    cases hx'
    exact at_take hz
  rw [hx3] at row
  exact four_list hl (row 0 (by decide) _ rfl) (row 1 (by decide) _ rfl) (row 2 (by decide) _ rfl) (row 3 (by decide) _ rfl)
end
set_option maxRecDepth 100000 in
theorem bord_of {W : World} (h : laidMet Tryd.prog [("ferret/coding.marks", Rows.laid_ferret_coding_marks), ("ferret/utfsplit.borders", Rows.laid_ferret_utfsplit_borders)] W) : Bord W := by
  obtain ⟨ps, ⟨g, t, cs, fuel, p, q, hg, ht, hvar, hd, ⟨g', t', cs', fuel', p', q', hg', ht', hvar', hd', _, rfl⟩, rfl⟩, _, hfree⟩ := h
  obtain rfl := Option.some.inj (gBord.symm.trans hg')
  obtain rfl := Option.some.inj (yBord.symm.trans ht')
  have e1 : cs' = bordC := by
    have := bord_cells hd'
    cases cs'
    simpa using congrArg List.toArray this
  subst e1
  unfold World.var? at hvar'
  rw [gBord] at hvar'
  simp only [Option.bind_some] at hvar'
  obtain ⟨⟨cc', tt', hh'⟩, _⟩ := hfree 0 0 (by simp [MemPlace.row, bordC])
  rw [hh'] at hvar'
  simp only [Option.some.injEq] at hvar'
  subst hvar'
  exact ⟨tt', hh'⟩

set_option maxRecDepth 100000 in
theorem splitOne_contract (H : Type) (enc : TypeId × Value → H) (W : World) (base : Nat) (args : Array Value) (ds gs : List (DataW H)) (before : List MemPlace)
    (hval : ∀ (j : Nat) t v, Tryd.f5.params[j]? = some t → args[j]? = some v → Value.okWide Tryd.prog W .any base t v)
    (hW : DataW.Whole enc Tryd.prog Tryd.f5.params.toList Rows.splitOneSpec.vars false W args.toList ds gs before) (hL : laidMetH Tryd.prog Rows.splitOneRow.laid W) :
    Calls Tryd.prog 5 args W fun e W' => ∃ v, e = .returned v ∧ Rows.splitOneSpec.post enc Tryd.prog Tryd.f5 false true false false W args v W' := by
  have hW' := hW
  obtain ⟨p, q, hA0, hV, rfl, hfz, hnd⟩ := hW
  have hA : DataW.TrodAll enc Tryd.prog W 0 (fun _ => true) true Tryd.f5.params.toList args.toList ds p := hA0
  rw [Tryd.params5] at hA hval
  obtain ⟨v0, vs0, d0, ds0, p0, q0, hargs, rfl, rfl, h0, r0⟩ := trodAll_cons hA
  obtain ⟨rfl, rfl, rfl⟩ := trodAll_nil r0
  obtain rfl : args = #[v0] := by cases args; simp_all
  obtain ⟨rfl, rfl⟩ := trodVars_none hV
  obtain ⟨a0, rfl, rfl, rfl, w0⟩ := open_int Tryd.underlying3 (hval 0 3 v0 rfl rfl) h0
  clear hA0
  refine (splitOne_walk a0 W (bord_of hL)).mono fun e W' ⟨he, tc⟩ => ?_
  have bel := tc.below W.heap.size (Nat.le_refl _) (fun _ e => e.elim)
  subst he
  exact ⟨_, rfl, _, _, _, [], _, [], hW', trodAll_mk1 (shut_bool Tryd.underlying4 _), (trodAll_cons_mk (shut_int Tryd.underlying3 w0) trodAll_mk0), rfl, bel.frame _, fun h => by cases h⟩

/-- A block that holds other cells. -/
def setC (cs : Array Value) : Obj → Obj
  | .cells _ t frozen => .cells cs t frozen
  | o => o
def marksC : Array Value := #[.string ⟨#[]⟩, .string ⟨#[239, 187, 191]⟩, .string ⟨#[255, 254]⟩, .string ⟨#[254, 255]⟩, .string ⟨#[]⟩]
/-- A world for the witness: the settled one, both tables holding what their initialisers lay. -/
noncomputable def splitOne_laidWorld (os : Os) : World :=
  { World.holding Tryd.prog os ⟨#[], #[], []⟩ with heap := ((World.holding Tryd.prog os ⟨#[], #[], []⟩).heap.modify 0 (setC bordC)).modify 1 (setC marksC) }
theorem splitOne_laid_met (os : Os) : laidMet Tryd.prog Rows.splitOneRow.laid ((splitOne_laidWorld os).forCall (fun _ _ => 0) ⟨#[], #[.int .i64 0], []⟩).memory :=
  laidMet_of_run' 8 (by kernel_rfl) (by kernel_rfl)
theorem splitOne_reads (os : Os) {H : Type} (enc : TypeId × Value → H) : ∃ places, DataW.whole enc Tryd.prog ((splitOne_laidWorld os).forCall (fun _ _ => 0) ⟨#[], #[.int .i64 0], []⟩).memory Tryd.f5.params.toList Rows.splitOneSpec.vars false #[Value.int .i64 0].toList 8 = some ([.lit (.int .i64 0)], [], places) :=
  ⟨[], by kernel_rfl⟩

set_option maxRecDepth 100000 in
theorem splitOne_lifted (os : Os) (started : os.Started) (H : Type) (enc : TypeId × Value → H) (F : Stop.Interp) :
    ReturnsInHanded {} Tryd.checked os 5 .any ((OpenSpec.ofChange Rows.splitOneSpec).preRow enc Tryd.prog Tryd.f5 Rows.splitOneRow.domain false Rows.splitOneRow.laid) (((OpenSpec.ofChange Rows.splitOneSpec).at F).post enc Tryd.prog Tryd.f5 false true false false) := by
  obtain ⟨places, hx⟩ := splitOne_reads os enc
  refine returnsInHanded_of_row (C := Tryd.checked) (s := OpenSpec.ofChange Rows.splitOneSpec) own started (by kernel_rfl) Tryd.func5
    (witness_row_at (enc := enc) (C := Tryd.checked) false (splitOne_laidWorld os) #[.int .i64 0] rfl (by kernel_rfl) (by kernel_rfl) (by kernel_rfl)
      (OpenSpec.preRow_of_cond 8 hx (by kernel_rfl) (fun k hk => by cases hk) (by kernel_rfl) (splitOne_laid_met os))) ?_
  intro W base args ds gs before hval hW _ _ _ hL _ _
  exact splitOne_contract H enc W base args ds gs before hval hW hL

theorem splitOne_said : Rows.SplitOneSaid :=
  OpenClaim.holds_of_cond 5 Tryd.f5 rfl rfl rfl rfl rfl rfl rfl ⟨rfl, rfl, rfl, rfl, rfl⟩ rfl rfl rfl rfl rfl (by kernel_rfl) Tryd.func5 (by kernel_rfl)
    (of_decide_eq_true (by kernel_rfl)) (by unfold Func.isWrapper; first | (rw [if_pos (by decide +kernel)]; kernel_rfl) | (rw [if_neg (by decide +kernel)]; exact ⟨rfl, rfl⟩))
    (fun os started H enc _ F => by rw [OpenClaim.pre_eq_preRow]; exact splitOne_lifted os started H enc F)

theorem splitOne_plain (f : FuncId) (fn : Func) (hf : Tryd.pinned.checked.prog.funcNamed "ferret/ferretlaw13.SplitOne" = some f) (hfn : Tryd.pinned.checked.prog.funcs[f]? = some fn) :
    true = Tryd.pinned.checked.prog.looks [] ∧ ∀ (j : Nat) t, fn.params[j]? = some t → Tryd.pinned.checked.prog.wantsStandIn t = false := by
  obtain rfl : f = 5 := Option.some.inj ((show Tryd.prog.funcNamed "ferret/ferretlaw13.SplitOne" = some 5 by kernel_rfl).symm.trans hf) |>.symm
  obtain rfl : fn = Tryd.f5 := (Option.some.inj (Tryd.func5.symm.trans hfn)).symm
  refine ⟨by kernel_rfl, fun j t ht => ?_⟩
  rw [Tryd.params5] at ht
  obtain rfl : t = 3 := by simpa using Array.mem_of_getElem? ht
  exact (show Tryd.prog.wantsStandIn 3 = false by kernel_rfl)

theorem splitOne_card : Rows.SplitOneCardSaid :=
  Claim7.holds_tied_plain_at .later [] _ _ _ _ splitOne_said (fun _ h => by cases h) (by kernel_rfl) (fun _ h => by cases h) splitOne_row_tie rfl ⟨rfl, rfl⟩ (by kernel_rfl) rfl splitOne_plain (by kernel_rfl)
#print axioms splitOne_card
end Go.Proofs.YtmokfheckngfiaaDoor
