/- JsonLists, for all inputs: values put together are read as a list of them, blanks or not. -/
import Derived.Test.YtabhlhgfacpohaaDoorCards
import Derived.Test.YtabhlhgfacpohaaDoorTie
import Derived.Test.YtabhlhgfacpohaaDoorM1
import Derived.Test.YtabhlhgfacpohaaDoorVv
import Derived.Deep.Strs
import Derived.ChangeArms
import Derived.Carry
import Derived.SizedLaws
import Derived.WalkKit
import Derived.ProofKit
import Derived.OpenShut
import Derived.ShutString
import Derived.Below
import Derived.Deep.DeepHandedRow
import Derived.Lib.LaidTab
import Derived.SevenTiedAt
namespace Go.Proofs.YtabhlhgfacpohaaDoor
open Go.ChangeShapes Go.WideShapes Go.ChangeAt Go.RowKit
open Go.ChangeMaps (open_string shut_string)

theorem mem_all {H : Type} {e : TypeId} : ∀ (ds : List (DataW H)) (d : DataW H) (n : Nat), d ∈ ds → n ∈ d.weights Tryd.prog e → n ∈ DataW.weightsAll Tryd.prog e ds
  | [], _, _, hd, _ => by cases hd
  | x :: ds, d, n, hd, hn => by
    rw [DataW.weightsAll]
    rcases List.mem_cons.1 hd with e | e
    · rw [e] at hn
      exact List.mem_append_left _ hn
    · exact List.mem_append_right _ (mem_all ds d n e hn)
theorem str_weight {H : Type} {ts : List TypeId} {ds : List (DataW H)} (h : (DataW.weightsEach Tryd.prog ts ds).all (· ≤ reachBytes) = true) {j : Nat} {elems spare : List (DataW H)} (ht : ts[j]? = some 23) (hd : ds[j]? = some (.slice elems spare)) (L : List UInt8) (hm : DataW.lit (.string L) ∈ elems) : L.length ≤ reachBytes := by
  have := List.all_eq_true.1 h L.length (DataW.weights_mem_each ht hd L.length (by
    rw [DataW.weights, Tryd.underlying23]
    refine List.mem_cons_of_mem _ (List.mem_append_left _ (mem_all elems _ _ hm ?_))
    rw [DataW.weights]
    simp))
  simpa using this
theorem laidOut : laidOutB Tryd.prog = true := by kernel_rfl
theorem own : ownKnob Tryd.prog.godebug = none := by kernel_rfl
set_option maxRecDepth 100000 in
theorem jsonLists_contract (H : Type) (enc : TypeId × Value → H) (W : World) (base : Nat) (args : Array Value) (ds gs : List (DataW H)) (before : List MemPlace)
    (hval : ∀ (j : Nat) t v, Tryd.f5.params[j]? = some t → args[j]? = some v → Value.okWide Tryd.prog W .any base t v)
    (hW : DataW.Whole enc Tryd.prog Tryd.f5.params.toList Rows.jsonListsSpec.vars false W args.toList ds gs before) (hsz0 : (DataW.weightsEach Tryd.prog (Tryd.f5.params.toList ++ (OpenSpec.ofChange Rows.jsonListsSpec).bare.plain.varTypes Tryd.prog) (ds ++ gs)).all (· ≤ reachBytes) = true) (hL : laidMet Tryd.prog Rows.jsonListsRow.laid W) :
    Calls Tryd.prog 5 args W fun e W' => ∃ v, e = .returned v ∧ Rows.jsonListsSpec.post enc Tryd.prog Tryd.f5 false true false false W args v W' := by
  have hW' := hW
  obtain ⟨p, q, hA0, hV, rfl, hfz, hnd⟩ := hW
  have hA : DataW.TrodAll enc Tryd.prog W 0 (fun _ => true) true Tryd.f5.params.toList args.toList ds p := hA0
  have hsz : (DataW.weightsEach Tryd.prog (Tryd.f5.params.toList ++ Rows.jsonListsSpec.plain.varTypes Tryd.prog) (ds ++ gs)).all (· ≤ reachBytes) = true := hsz0
  rw [Tryd.params5] at hA hval hsz
  obtain ⟨v0, vs0, d0, ds0, p0, q0, hargs, rfl, rfl, h0, r0⟩ := trodAll_cons hA
  obtain ⟨v1, vs1, d1, ds1, p1, q1, rfl, rfl, rfl, h1, r1⟩ := trodAll_cons r0
  obtain ⟨rfl, rfl, rfl⟩ := trodAll_nil r1
  obtain rfl : args = #[v0, v1] := by cases args; simp_all
  obtain ⟨rfl, rfl⟩ := trodVars_none hV
  obtain ⟨a0, len0, cap0, rfl⟩ := okWide_slice Tryd.underlying23 (hval 0 23 v0 rfl rfl)
  have k0 := h0
  have lt0 : ∀ x ∈ p0, x.block < W.heap.size := by obtain ⟨m, hm⟩ := k0; exact DataW.trod_lt m _ _ _ hm
  obtain ⟨z0, w0, y0, u0⟩ : ∃ Z, SR2 W a0 len0 Z ∧ len0 ≤ 140737488355328 ∧ ∀ i, i < len0 → (Z i).size ≤ 140737488355328 := by
    obtain ⟨fuel, hf⟩ := h0
    rcases Go.Deep.open_strs Tryd.underlying23 Tryd.underlying9 (by kernel_rfl) hf with ⟨hcs, _⟩ | ⟨x, l, c, m, Sx, hcs, _, hl, hm, hmm, hx, hcell⟩
    · simp [Value.cells] at hcs
      obtain ⟨rfl, rfl, rfl⟩ := hcs
      exact ⟨fun _ => ⟨#[]⟩, .inl rfl, by omega, fun i hi => by omega⟩
    · simp [Value.cells] at hcs
      obtain ⟨rfl, rfl, rfl⟩ := hcs
      have hlm : len0 ≤ m := by
        rw [hmm]
        split <;> omega
      simp only [Prod.mk.injEq] at hx
      have hs1 := sized_slice hsz (j := 0) (t := 23) (e := 9) rfl (by rw [hx.1]; rfl) Tryd.underlying23
      rw [show Tryd.prog.bytesOf 9 = 16 by kernel_rfl] at hs1
      simp only [List.length_map, List.length_range, reachBytes] at hs1
      have hs2 : ∀ i, i < len0 → (Sx i).size ≤ 140737488355328 := fun i hi => by
        have := str_weight hsz (j := 0) rfl (by rw [hx.1]; rfl) (Sx i).data.toList (List.mem_map.2 ⟨i, List.mem_range.2 hi, rfl⟩)
        rw [size_list] at this
        unfold reachBytes at this
        omega
      refine ⟨Sx, ?_, by omega, hs2⟩
      by_cases h0 : len0 = 0
      · exact .inl h0
      · exact .inr ⟨x, rfl, by have := World.block_lt_of_cell? W _ (hcell 0 (by omega)).1; rwa [add_block] at this, fun i hi => (hcell i (by omega)).1⟩
  obtain ⟨a1, rfl⟩ := okWide_bool Tryd.underlying4 (hval 1 4 v1 rfl rfl)
  obtain ⟨rfl, rfl⟩ : d1 = .lit (.bool a1) ∧ p1 = [] := by
    obtain ⟨fuel, hf⟩ := h1
    obtain ⟨s', h, hx⟩ := DataW.trod_bool Tryd.underlying4 hf
    simp only [Value.cells, List.cons.injEq, Value.bool.injEq, and_true] at h
    subst h
    simpa only [Prod.mk.injEq] using hx
  clear hA0
  have tabs : Tabs W := tabs_of hL
  refine (jsonLists_walk a0 len0 cap0 z0 a1 W tabs w0 y0 u0).mono fun e W' ⟨he, tc⟩ => ?_
  have bel := tc.below W.heap.size (Nat.le_refl _) (fun _ e => e.elim)
  subst he
  exact ⟨_, rfl, _, _, _, [], _, [], hW', trodAll_mk1 (shut_bool Tryd.underlying4 _), (trodAll_cons_mk (Below.trod laidOut (by kernel_rfl) (of_decide_eq_true (by kernel_rfl)) k0 bel lt0) (trodAll_cons_mk (shut_bool Tryd.underlying4 _) trodAll_mk0)), rfl, bel.frame _, fun h => by cases h⟩

/-- A block that holds other cells. -/
def setC (cs : Array Value) : Obj → Obj
  | .cells _ t frozen => .cells cs t frozen
  | o => o
/-- A world for the witness: the settled one, both tables holding what their initialisers lay. -/
noncomputable def laidWorld (os : Os) : World :=
  { World.holding Tryd.prog os ⟨#[], #[], []⟩ with heap := ((World.holding Tryd.prog os ⟨#[], #[], []⟩).heap.modify 0 (setC marksC)).modify 1 (setC leadsC) }
theorem jsonLists_laid_met (os : Os) : laidMet Tryd.prog Rows.jsonListsRow.laid ((laidWorld os).forCall (fun _ _ => 0) ⟨#[], #[.slice none 0 0, .bool false], []⟩).memory :=
  laidMet_of_run' 8 (by kernel_rfl) (by kernel_rfl)
theorem jsonLists_reads (os : Os) {H : Type} (enc : TypeId × Value → H) : ∃ places, DataW.whole enc Tryd.prog ((laidWorld os).forCall (fun _ _ => 0) ⟨#[], #[.slice none 0 0, .bool false], []⟩).memory Tryd.f5.params.toList (OpenSpec.ofChange Rows.jsonListsSpec).vars false #[Value.slice none 0 0, Value.bool false].toList 8 = some ([.nil, .lit (.bool false)], [], places) :=
  ⟨[], by kernel_rfl⟩

set_option maxRecDepth 100000 in
theorem jsonLists_lifted (os : Os) (started : os.Started) (H : Type) (enc : TypeId × Value → H) (F : Stop.Interp) :
    ReturnsInHanded {} Tryd.checked os 5 .any ((OpenSpec.ofChange Rows.jsonListsSpec).preRow enc Tryd.prog Tryd.f5 Rows.jsonListsRow.domain false Rows.jsonListsRow.laid) (((OpenSpec.ofChange Rows.jsonListsSpec).at F).post enc Tryd.prog Tryd.f5 false true false false) := by
  obtain ⟨places, hx⟩ := jsonLists_reads os enc
  refine returnsInHanded_of_row (C := Tryd.checked) (s := OpenSpec.ofChange Rows.jsonListsSpec) own started (by kernel_rfl) Tryd.func5
    (witness_row_at (enc := enc) (C := Tryd.checked) false (laidWorld os) #[.slice none 0 0, .bool false] rfl (by kernel_rfl) (by kernel_rfl) (by kernel_rfl)
      (OpenSpec.preRow_of_cond 8 hx (by kernel_rfl) (fun k hk => by cases hk) (by kernel_rfl) (jsonLists_laid_met os))) ?_
  intro W base args ds gs before hval hW _ _ hsz hL _ _
  exact jsonLists_contract H enc W base args ds gs before hval hW hsz hL

theorem jsonLists_said : Rows.JsonListsSaid :=
  OpenClaim.holds_of_cond 5 Tryd.f5 rfl rfl rfl rfl rfl rfl rfl ⟨rfl, rfl, rfl, rfl, rfl⟩ rfl rfl rfl rfl rfl (by kernel_rfl) Tryd.func5 (by kernel_rfl)
    (of_decide_eq_true (by kernel_rfl)) (by unfold Func.isWrapper; first | (rw [if_pos (by decide +kernel)]; kernel_rfl) | (rw [if_neg (by decide +kernel)]; exact ⟨rfl, rfl⟩))
    (fun os started H enc _ F => by rw [OpenClaim.pre_eq_preRow]; exact jsonLists_lifted os started H enc F)

theorem jsonLists_plain (f : FuncId) (fn : Func) (hf : Tryd.pinned.checked.prog.funcNamed "ferret/ferretlaw22.JsonLists" = some f) (hfn : Tryd.pinned.checked.prog.funcs[f]? = some fn) :
    true = Tryd.pinned.checked.prog.looks [] ∧ ∀ (j : Nat) t, fn.params[j]? = some t → Tryd.pinned.checked.prog.wantsStandIn t = false := by
  obtain rfl : f = 5 := Option.some.inj ((show Tryd.prog.funcNamed "ferret/ferretlaw22.JsonLists" = some 5 by kernel_rfl).symm.trans hf) |>.symm
  obtain rfl : fn = Tryd.f5 := (Option.some.inj (Tryd.func5.symm.trans hfn)).symm
  refine ⟨by kernel_rfl, fun j t ht => ?_⟩
  rw [Tryd.params5] at ht
  have hm : t = 23 ∨ t = 4 := by simpa using Array.mem_of_getElem? ht
  rcases hm with rfl | rfl
  · exact (show Tryd.prog.wantsStandIn 23 = false by kernel_rfl)
  · exact (show Tryd.prog.wantsStandIn 4 = false by kernel_rfl)

theorem jsonLists_card : Rows.JsonListsCardSaid :=
  Claim7.holds_tied_plain_at .later [] _ _ _ _ jsonLists_said (fun _ h => by cases h) (by kernel_rfl) (fun _ h => by cases h) jsonLists_row_tie rfl ⟨rfl, rfl⟩ (by kernel_rfl) rfl jsonLists_plain (by kernel_rfl)
#print axioms jsonLists_card
end Go.Proofs.YtabhlhgfacpohaaDoor
