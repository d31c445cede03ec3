/- CodingBytes, for all texts of at most 1048576 bytes (all that the statement's second form asks): by Latin1 each byte is its number. -/
import Derived.Test.YtpjnnbegimaaeaaDoorCards
import Derived.Test.YtpjnnbegimaaeaaDoorTie
import Derived.Test.YtpjnnbegimaaeaaDoorM10
import Derived.Test.YtpjnnbegimaaeaaDoorM11
import Derived.WalkKit
import Derived.ProofKit
import Derived.OpenShut
import Derived.Below
import Derived.Deep.DeepHandedRow
import Derived.Lib.LaidTab
import Derived.SevenTiedAt
namespace Go.Proofs.YtpjnnbegimaaeaaDoor
open Go.ChangeShapes Go.WideShapes Go.ChangeAt Go.RowKit

theorem own : ownKnob Tryd.prog.godebug = none := by kernel_rfl

/-- A string reads in every world as it reads in one. -/
theorem shut_str {H : Type} {enc : TypeId × Value → H} {w w' : World} {base base' : Nat} {sp sp' : Nat → Bool} {held held' : Bool} {s : ByteArray} {d : DataW H} {ps : List MemPlace} (h : DataW.Trod enc Tryd.prog w base sp held 9 (.string s) d ps) : DataW.Trod enc Tryd.prog w' base' sp' held' 9 (.string s) (.lit (.string s.data.toList)) [] := by
  obtain ⟨fuel, hf⟩ := h
  obtain ⟨s', h, hx, hw⟩ := DataW.trod_string Tryd.underlying9 hf
  simp only [Value.cells, List.cons.injEq, Value.string.injEq, and_true] at h
  subst h
  exact ⟨1, by simp [DataW.trod, Value.cells, Tryd.underlying9, hw]⟩

set_option maxRecDepth 100000 in
theorem codingBytes_contract (H : Type) (enc : TypeId × Value → H) (W : World) (base : Nat) (args : Array Value) (ds gs : List (DataW H)) (before : List MemPlace)
    (hval : ∀ (j : Nat) t v, Tryd.f3.params[j]? = some t → args[j]? = some v → Value.okWide Tryd.prog W .any base t v)
    (hW : DataW.Whole enc Tryd.prog Tryd.f3.params.toList Rows.codingBytesSpec.vars false W args.toList ds gs before) (hk : Rows.uptoSmall H (ds ++ gs) = true) (hL : laidMetH Tryd.prog Rows.codingBytesUptoRow.laid W) :
    Calls Tryd.prog 3 args W fun e W' => ∃ v, e = .returned v ∧ Rows.codingBytesSpec.post enc Tryd.prog Tryd.f3 false true false false W args v W' := by
  have hW' := hW
  obtain ⟨p, q, hA0, hV, rfl, hfz, hnd⟩ := hW
  have hA : DataW.TrodAll enc Tryd.prog W 0 (fun _ => true) true Tryd.f3.params.toList args.toList ds p := hA0
  rw [Tryd.params3] at hA hval
  obtain ⟨v0, vs0, d0, ds0, p0, q0, hargs, rfl, rfl, h0, r0⟩ := trodAll_cons hA
  obtain ⟨v1, vs1, d1, ds1, p1, q1, rfl, rfl, rfl, h1, r1⟩ := trodAll_cons r0
  obtain ⟨rfl, rfl, rfl⟩ := trodAll_nil r1
  obtain rfl : args = #[v0, v1] := by cases args; simp_all
  obtain ⟨rfl, rfl⟩ := trodVars_none hV
  have hb : Rows.uptoBulkAll ([d0, d1] ++ ([] : List (DataW H))) ≤ 1048576 := of_decide_eq_true hk
  simp only [List.append_nil, Rows.uptoBulkAll] at hb
  obtain ⟨s, rfl⟩ := okWide_string Tryd.underlying9 (hval 0 9 v0 rfl rfl)
  have k0 := h0
  obtain ⟨rfl, rfl⟩ : d0 = .lit (.string s.data.toList) ∧ p0 = [] := by
    obtain ⟨fuel, hf⟩ := h0
    obtain ⟨s', h, hx, _⟩ := DataW.trod_string Tryd.underlying9 hf
    simp only [Value.cells, List.cons.injEq, Value.string.injEq, and_true] at h
    subst h
    simpa only [Prod.mk.injEq] using hx
  obtain ⟨a2, rfl⟩ := okWide_bool Tryd.underlying4 (hval 1 4 v1 rfl rfl)
  obtain ⟨rfl, rfl⟩ : d1 = .lit (.bool a2) ∧ p1 = [] := by
    obtain ⟨fuel, hf⟩ := h1
    obtain ⟨s', h, hx⟩ := DataW.trod_bool Tryd.underlying4 hf
    simp only [Value.cells, List.cons.injEq, Value.bool.injEq, and_true] at h
    subst h
    simpa only [Prod.mk.injEq] using hx
  have hs : s.size ≤ 1048576 := by
    have : s.size = s.data.toList.length := by rw [Array.length_toList]; rfl
    simp only [Rows.uptoBulk] at hb
    omega
  clear hA0
  have tabs : Tabs W := tabs_of hL
  refine (codingBytes_walk s a2 W tabs hs).mono fun e W' ⟨he, tc⟩ => ?_
  have bel := tc.below W.heap.size (Nat.le_refl _) (fun _ e => e.elim)
  subst he
  exact ⟨_, rfl, _, _, _, [], _, [], hW', trodAll_mk1 (shut_bool Tryd.underlying4 _), (trodAll_cons_mk (shut_str k0) (trodAll_cons_mk (shut_bool Tryd.underlying4 _) trodAll_mk0)), rfl, bel.frame _, fun h => by cases h⟩

/-- A block that holds other cells. -/
def setC (cs : Array Value) : Obj → Obj
  | .cells _ t frozen => .cells cs t frozen
  | o => o
/-- A world for the witness: the settled one, both tables holding what their initialisers lay. -/
noncomputable def codingBytes_laidWorld (os : Os) : World :=
  { World.holding Tryd.prog os ⟨#[], #[], []⟩ with heap := ((World.holding Tryd.prog os ⟨#[], #[], []⟩).heap.modify 0 (setC marksC)).modify 1 (setC leadsC) }
theorem codingBytes_laid_met (os : Os) : laidMet Tryd.prog Rows.codingBytesUptoRow.laid ((codingBytes_laidWorld os).forCall (fun _ _ => 0) ⟨#[], #[.string ⟨#[]⟩, .bool false], []⟩).memory :=
  laidMet_of_run' 8 (by kernel_rfl) (by kernel_rfl)
theorem codingBytes_reads (os : Os) {H : Type} (enc : TypeId × Value → H) : ∃ places, DataW.whole enc Tryd.prog ((codingBytes_laidWorld os).forCall (fun _ _ => 0) ⟨#[], #[.string ⟨#[]⟩, .bool false], []⟩).memory Tryd.f3.params.toList (Rows.OpenSpec.upto Rows.codingBytesSpec).vars false #[Value.string ⟨#[]⟩, Value.bool false].toList 8 = some ([.lit (.string []), .lit (.bool false)], [], places) :=
  ⟨[], by kernel_rfl⟩

set_option maxRecDepth 100000 in
theorem codingBytes_lifted (os : Os) (started : os.Started) (H : Type) (enc : TypeId × Value → H) (F : Stop.Interp) :
    ReturnsInHanded {} Tryd.checked os 3 .any ((Rows.OpenSpec.upto Rows.codingBytesSpec).preRow enc Tryd.prog Tryd.f3 Rows.codingBytesUptoRow.domain false Rows.codingBytesUptoRow.laid) (((Rows.OpenSpec.upto Rows.codingBytesSpec).at F).post enc Tryd.prog Tryd.f3 false true false false) := by
  obtain ⟨places, hx⟩ := codingBytes_reads os enc
  refine returnsInHanded_of_row (C := Tryd.checked) (s := Rows.OpenSpec.upto Rows.codingBytesSpec) own started (by kernel_rfl) Tryd.func3
    (witness_row_at (enc := enc) (C := Tryd.checked) false (codingBytes_laidWorld os) #[.string ⟨#[]⟩, .bool false] rfl (by kernel_rfl) (by kernel_rfl) (by kernel_rfl)
      (OpenSpec.preRow_of_cond 8 hx (by kernel_rfl) (fun k hk => by cases hk; rfl) (by kernel_rfl) (codingBytes_laid_met os))) ?_
  intro W base args ds gs before hval hW _ hcond _ hL _ _
  exact codingBytes_contract H enc W base args ds gs before hval hW (hcond _ rfl) hL

theorem codingBytes_said : Rows.CodingBytesUptoSaid :=
  OpenClaim.holds_of_cond 3 Tryd.f3 rfl rfl rfl rfl rfl rfl rfl ⟨rfl, rfl, rfl, rfl, rfl⟩ rfl rfl rfl rfl rfl (by kernel_rfl) Tryd.func3 (by kernel_rfl)
    (of_decide_eq_true (by kernel_rfl)) (by unfold Func.isWrapper; first | (rw [if_pos (by decide +kernel)]; kernel_rfl) | (rw [if_neg (by decide +kernel)]; exact ⟨rfl, rfl⟩))
    (fun os started H enc _ F => by rw [OpenClaim.pre_eq_preRow]; exact codingBytes_lifted os started H enc F)

theorem codingBytes_plain (f : FuncId) (fn : Func) (hf : Tryd.pinned.checked.prog.funcNamed "ferret/ferretlaw07.CodingBytes" = some f) (hfn : Tryd.pinned.checked.prog.funcs[f]? = some fn) :
    false = Tryd.pinned.checked.prog.looks [] ∧ ∀ (j : Nat) t, fn.params[j]? = some t → Tryd.pinned.checked.prog.wantsStandIn t = false := by
  obtain rfl : f = 3 := Option.some.inj ((show Tryd.prog.funcNamed "ferret/ferretlaw07.CodingBytes" = some 3 by kernel_rfl).symm.trans hf) |>.symm
  obtain rfl : fn = Tryd.f3 := (Option.some.inj (Tryd.func3.symm.trans hfn)).symm
  refine ⟨by kernel_rfl, fun j t ht => ?_⟩
  rw [Tryd.params3] at ht
  rcases (show t = 9 ∨ t = 4 by simpa using Array.mem_of_getElem? ht) with rfl | rfl
  · exact (show Tryd.prog.wantsStandIn 9 = false by kernel_rfl)
  · exact (show Tryd.prog.wantsStandIn 4 = false by kernel_rfl)

theorem codingBytes_card : Rows.CodingBytesUptoCardSaid :=
  Claim7.holds_tied_plain_at .later [] _ _ _ _ codingBytes_said (fun _ h => by cases h) (by kernel_rfl) (fun _ h => by cases h) codingBytesUpto_row_tie rfl ⟨rfl, rfl⟩ (by kernel_rfl) rfl codingBytes_plain (by kernel_rfl)
#print axioms codingBytes_card
end Go.Proofs.YtpjnnbegimaaeaaDoor
