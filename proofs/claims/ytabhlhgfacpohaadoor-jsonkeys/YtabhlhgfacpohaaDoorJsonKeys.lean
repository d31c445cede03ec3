/- JsonKeys, for all inputs: an object of any keys and texts is read as it was written; the order stays, and keys may come twice. -/
import Derived.Test.YtabhlhgfacpohaaDoorCards
import Derived.Test.YtabhlhgfacpohaaDoorTie
import Derived.Test.YtabhlhgfacpohaaDoorM1
import Derived.Test.YtabhlhgfacpohaaDoorJk
import Derived.Deep.Strs
import Derived.ChangeArms
import Derived.Carry
import Derived.SizedLaws
import Derived.WalkKit
import Derived.ProofKit
import Derived.OpenShut
import Derived.ShutString
import Derived.Below
import Derived.Deep.DeepHandedRow
import Derived.Lib.LaidTab
import Derived.SevenTiedAt
namespace Go.Proofs.YtabhlhgfacpohaaDoor
open Go.ChangeShapes Go.WideShapes Go.ChangeAt Go.RowKit
open Go.ChangeMaps (open_string shut_string)

theorem mem_all {H : Type} {e : TypeId} : ∀ (ds : List (DataW H)) (d : DataW H) (n : Nat), d ∈ ds → n ∈ d.weights Tryd.prog e → n ∈ DataW.weightsAll Tryd.prog e ds
  | [], _, _, hd, _ => by cases hd
  | x :: ds, d, n, hd, hn => by
    rw [DataW.weightsAll]
    rcases List.mem_cons.1 hd with e | e
    · rw [e] at hn
      exact List.mem_append_left _ hn
    · exact List.mem_append_right _ (mem_all ds d n e hn)
theorem str_weight {H : Type} {ts : List TypeId} {ds : List (DataW H)} (h : (DataW.weightsEach Tryd.prog ts ds).all (· ≤ reachBytes) = true) {j : Nat} {elems spare : List (DataW H)} (ht : ts[j]? = some 23) (hd : ds[j]? = some (.slice elems spare)) (L : List UInt8) (hm : DataW.lit (.string L) ∈ elems) : L.length ≤ reachBytes := by
  have := List.all_eq_true.1 h L.length (DataW.weights_mem_each ht hd L.length (by
    rw [DataW.weights, Tryd.underlying23]
    refine List.mem_cons_of_mem _ (List.mem_append_left _ (mem_all elems _ _ hm ?_))
    rw [DataW.weights]
    simp))
  simpa using this
theorem laidOut : laidOutB Tryd.prog = true := by kernel_rfl
theorem own : ownKnob Tryd.prog.godebug = none := by kernel_rfl
set_option maxRecDepth 100000 in
theorem jsonKeys_contract (H : Type) (enc : TypeId × Value → H) (W : World) (base : Nat) (args : Array Value) (ds gs : List (DataW H)) (before : List MemPlace)
    (hval : ∀ (j : Nat) t v, Tryd.f6.params[j]? = some t → args[j]? = some v → Value.okWide Tryd.prog W .any base t v)
    (hW : DataW.Whole enc Tryd.prog Tryd.f6.params.toList Rows.jsonKeysSpec.vars false W args.toList ds gs before) (hsz0 : (DataW.weightsEach Tryd.prog (Tryd.f6.params.toList ++ (OpenSpec.ofChange Rows.jsonKeysSpec).bare.plain.varTypes Tryd.prog) (ds ++ gs)).all (· ≤ reachBytes) = true) (hL : laidMet Tryd.prog Rows.jsonKeysRow.laid W) :
    Calls Tryd.prog 6 args W fun e W' => ∃ v, e = .returned v ∧ Rows.jsonKeysSpec.post enc Tryd.prog Tryd.f6 false true false false W args v W' := by
  have hW' := hW
  obtain ⟨p, q, hA0, hV, rfl, hfz, hnd⟩ := hW
  have hA : DataW.TrodAll enc Tryd.prog W 0 (fun _ => true) true Tryd.f6.params.toList args.toList ds p := hA0
  have hsz : (DataW.weightsEach Tryd.prog (Tryd.f6.params.toList ++ Rows.jsonKeysSpec.plain.varTypes Tryd.prog) (ds ++ gs)).all (· ≤ reachBytes) = true := hsz0
  rw [Tryd.params6] at hA hval hsz
  obtain ⟨v0, vs0, d0, ds0, p0, q0, hargs, rfl, rfl, h0, r0⟩ := trodAll_cons hA
  obtain ⟨v1, vs1, d1, ds1, p1, q1, rfl, rfl, rfl, h1, r1⟩ := trodAll_cons r0
  obtain ⟨rfl, rfl, rfl⟩ := trodAll_nil r1
  obtain rfl : args = #[v0, v1] := by cases args; simp_all
  obtain ⟨rfl, rfl⟩ := trodVars_none hV
  obtain ⟨a0, len0, cap0, rfl⟩ := okWide_slice Tryd.underlying23 (hval 0 23 v0 rfl rfl)
  have k0 := h0
  have lt0 : ∀ x ∈ p0, x.block < W.heap.size := by obtain ⟨m, hm⟩ := k0; exact DataW.trod_lt m _ _ _ hm
  obtain ⟨z0, w0, y0, u0⟩ : ∃ Z, SR W a0 len0 Z ∧ len0 ≤ 140737488355328 ∧ ∀ i, i < len0 → (Z i).size ≤ 140737488355328 := by
    obtain ⟨fuel, hf⟩ := h0
    rcases Go.Deep.open_strs Tryd.underlying23 Tryd.underlying9 (by kernel_rfl) hf with ⟨hcs, _⟩ | ⟨x, l, c, m, Sx, hcs, _, hl, hm, hmm, hx, hcell⟩
    · simp [Value.cells] at hcs
      obtain ⟨rfl, rfl, rfl⟩ := hcs
      exact ⟨fun _ => ⟨#[]⟩, .inl rfl, by omega, fun i hi => by omega⟩
    · simp [Value.cells] at hcs
      obtain ⟨rfl, rfl, rfl⟩ := hcs
      have hlm : len0 ≤ m := by
        rw [hmm]
        split <;> omega
      simp only [Prod.mk.injEq] at hx
      have hs1 := sized_slice hsz (j := 0) (t := 23) (e := 9) rfl (by rw [hx.1]; rfl) Tryd.underlying23
      rw [show Tryd.prog.bytesOf 9 = 16 by kernel_rfl] at hs1
      simp only [List.length_map, List.length_range, reachBytes] at hs1
      have hs2 : ∀ i, i < len0 → (Sx i).size ≤ 140737488355328 := fun i hi => by
        have := str_weight hsz (j := 0) rfl (by rw [hx.1]; rfl) (Sx i).data.toList (List.mem_map.2 ⟨i, List.mem_range.2 hi, rfl⟩)
        rw [size_list] at this
        unfold reachBytes at this
        omega
      refine ⟨Sx, ?_, by omega, hs2⟩
      by_cases h0 : len0 = 0
      · exact .inl h0
      · exact .inr ⟨x, rfl, by have := World.block_lt_of_cell? W _ (hcell 0 (by omega)).1; rwa [add_block] at this, fun i hi => (hcell i (by omega)).1⟩
  obtain ⟨a1, len1, cap1, rfl⟩ := okWide_slice Tryd.underlying23 (hval 1 23 v1 rfl rfl)
  have k1 := h1
  have lt1 : ∀ x ∈ p1, x.block < W.heap.size := by obtain ⟨m, hm⟩ := k1; exact DataW.trod_lt m _ _ _ hm
  obtain ⟨z1, w1, y1, u1⟩ : ∃ Z, SR W a1 len1 Z ∧ len1 ≤ 140737488355328 ∧ ∀ i, i < len1 → (Z i).size ≤ 140737488355328 := by
    obtain ⟨fuel, hf⟩ := h1
    rcases Go.Deep.open_strs Tryd.underlying23 Tryd.underlying9 (by kernel_rfl) hf with ⟨hcs, _⟩ | ⟨x, l, c, m, Sx, hcs, _, hl, hm, hmm, hx, hcell⟩
    · simp [Value.cells] at hcs
      obtain ⟨rfl, rfl, rfl⟩ := hcs
      exact ⟨fun _ => ⟨#[]⟩, .inl rfl, by omega, fun i hi => by omega⟩
    · simp [Value.cells] at hcs
      obtain ⟨rfl, rfl, rfl⟩ := hcs
      have hlm : len1 ≤ m := by
        rw [hmm]
        split <;> omega
      simp only [Prod.mk.injEq] at hx
      have hs1 := sized_slice hsz (j := 1) (t := 23) (e := 9) rfl (by rw [hx.1]; rfl) Tryd.underlying23
      rw [show Tryd.prog.bytesOf 9 = 16 by kernel_rfl] at hs1
      simp only [List.length_map, List.length_range, reachBytes] at hs1
      have hs2 : ∀ i, i < len1 → (Sx i).size ≤ 140737488355328 := fun i hi => by
        have := str_weight hsz (j := 1) rfl (by rw [hx.1]; rfl) (Sx i).data.toList (List.mem_map.2 ⟨i, List.mem_range.2 hi, rfl⟩)
        rw [size_list] at this
        unfold reachBytes at this
        omega
      refine ⟨Sx, ?_, by omega, hs2⟩
      by_cases h0 : len1 = 0
      · exact .inl h0
      · exact .inr ⟨x, rfl, by have := World.block_lt_of_cell? W _ (hcell 0 (by omega)).1; rwa [add_block] at this, fun i hi => (hcell i (by omega)).1⟩
  clear hA0
  have tabs : Tabs W := tabs_of hL
  refine (jsonKeys_walk a0 a1 len0 cap0 len1 cap1 z0 z1 W tabs w0 w1 y0 y1 u0 u1).mono fun e W' ⟨he, tc⟩ => ?_
  have bel := tc.below W.heap.size (Nat.le_refl _) (fun _ e => e.elim)
  subst he
  exact ⟨_, rfl, _, _, _, [], _, [], hW', trodAll_mk1 (shut_bool Tryd.underlying4 _), (trodAll_cons_mk (Below.trod laidOut (by kernel_rfl) (of_decide_eq_true (by kernel_rfl)) k0 bel lt0) (trodAll_cons_mk (Below.trod laidOut (by kernel_rfl) (of_decide_eq_true (by kernel_rfl)) k1 bel lt1) trodAll_mk0)), rfl, bel.frame _, fun h => by cases h⟩

/-- A block that holds other cells. -/
def setC (cs : Array Value) : Obj → Obj
  | .cells _ t frozen => .cells cs t frozen
  | o => o
/-- A world for the witness: the settled one, both tables holding what their initialisers lay. -/
noncomputable def laidWorld (os : Os) : World :=
  { World.holding Tryd.prog os ⟨#[], #[], []⟩ with heap := ((World.holding Tryd.prog os ⟨#[], #[], []⟩).heap.modify 0 (setC marksC)).modify 1 (setC leadsC) }
theorem jsonKeys_laid_met (os : Os) : laidMet Tryd.prog Rows.jsonKeysRow.laid ((laidWorld os).forCall (fun _ _ => 0) ⟨#[], #[.slice none 0 0, .slice none 0 0], []⟩).memory :=
  laidMet_of_run' 8 (by kernel_rfl) (by kernel_rfl)
theorem jsonKeys_reads (os : Os) {H : Type} (enc : TypeId × Value → H) : ∃ places, DataW.whole enc Tryd.prog ((laidWorld os).forCall (fun _ _ => 0) ⟨#[], #[.slice none 0 0, .slice none 0 0], []⟩).memory Tryd.f6.params.toList (OpenSpec.ofChange Rows.jsonKeysSpec).vars false #[Value.slice none 0 0, Value.slice none 0 0].toList 8 = some ([.nil, .nil], [], places) :=
  ⟨[], by kernel_rfl⟩

set_option maxRecDepth 100000 in
theorem jsonKeys_lifted (os : Os) (started : os.Started) (H : Type) (enc : TypeId × Value → H) (F : Stop.Interp) :
    ReturnsInHanded {} Tryd.checked os 6 .any ((OpenSpec.ofChange Rows.jsonKeysSpec).preRow enc Tryd.prog Tryd.f6 Rows.jsonKeysRow.domain false Rows.jsonKeysRow.laid) (((OpenSpec.ofChange Rows.jsonKeysSpec).at F).post enc Tryd.prog Tryd.f6 false true false false) := by
  obtain ⟨places, hx⟩ := jsonKeys_reads os enc
  refine returnsInHanded_of_row (C := Tryd.checked) (s := OpenSpec.ofChange Rows.jsonKeysSpec) own started (by kernel_rfl) Tryd.func6
    (witness_row_at (enc := enc) (C := Tryd.checked) false (laidWorld os) #[.slice none 0 0, .slice none 0 0] rfl (by kernel_rfl) (by kernel_rfl) (by kernel_rfl)
      (OpenSpec.preRow_of_cond 8 hx (by kernel_rfl) (fun k hk => by cases hk) (by kernel_rfl) (jsonKeys_laid_met os))) ?_
  intro W base args ds gs before hval hW _ _ hsz hL _ _
  exact jsonKeys_contract H enc W base args ds gs before hval hW hsz hL

theorem jsonKeys_said : Rows.JsonKeysSaid :=
  OpenClaim.holds_of_cond 6 Tryd.f6 rfl rfl rfl rfl rfl rfl rfl ⟨rfl, rfl, rfl, rfl, rfl⟩ rfl rfl rfl rfl rfl (by kernel_rfl) Tryd.func6 (by kernel_rfl)
    (of_decide_eq_true (by kernel_rfl)) (by unfold Func.isWrapper; first | (rw [if_pos (by decide +kernel)]; kernel_rfl) | (rw [if_neg (by decide +kernel)]; exact ⟨rfl, rfl⟩))
    (fun os started H enc _ F => by rw [OpenClaim.pre_eq_preRow]; exact jsonKeys_lifted os started H enc F)

theorem jsonKeys_plain (f : FuncId) (fn : Func) (hf : Tryd.pinned.checked.prog.funcNamed "ferret/ferretlaw22.JsonKeys" = some f) (hfn : Tryd.pinned.checked.prog.funcs[f]? = some fn) :
    true = Tryd.pinned.checked.prog.looks [] ∧ ∀ (j : Nat) t, fn.params[j]? = some t → Tryd.pinned.checked.prog.wantsStandIn t = false := by
  obtain rfl : f = 6 := Option.some.inj ((show Tryd.prog.funcNamed "ferret/ferretlaw22.JsonKeys" = some 6 by kernel_rfl).symm.trans hf) |>.symm
  obtain rfl : fn = Tryd.f6 := (Option.some.inj (Tryd.func6.symm.trans hfn)).symm
  refine ⟨by kernel_rfl, fun j t ht => ?_⟩
  rw [Tryd.params6] at ht
  have hm : t = 23 := by simpa using Array.mem_of_getElem? ht
  subst hm
  exact (show Tryd.prog.wantsStandIn 23 = false by kernel_rfl)

theorem jsonKeys_card : Rows.JsonKeysCardSaid :=
  Claim7.holds_tied_plain_at .later [] _ _ _ _ jsonKeys_said (fun _ h => by cases h) (by kernel_rfl) (fun _ h => by cases h) jsonKeys_row_tie rfl ⟨rfl, rfl⟩ (by kernel_rfl) rfl jsonKeys_plain (by kernel_rfl)
#print axioms jsonKeys_card
end Go.Proofs.YtabhlhgfacpohaaDoor
