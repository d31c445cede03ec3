/- ArgsPacks, for all inputs of at most 1048576 values and letters together (all that the statement's second form asks): texts packed are the document's, any text unpacked is, and what was packed is unpacked again. -/
import Derived.Test.YtmeekjfnmdbnpaaDoorZt
import Derived.Test.YtmeekjfnmdbnpaaDoorPw
import Derived.Deep.Strs
import Derived.WalkKit
import Derived.ProofKit
import Derived.OpenShut
import Derived.ShutString
import Derived.Below
import Derived.Carry
import Derived.ChangeArms
import Derived.ChangeSame
import Derived.ChangeOld
import Derived.Deep.Slices
import Derived.Lib.SmallJoins
import Derived.Deep.DeepHandedRow
import Derived.Deep.DeepWitnessRowRef
import Derived.Lib.LaidTab
import Derived.Stop.LaidErr
import Derived.FnData
import Derived.SevenTiedAt
namespace Go.Proofs.YtmeekjfnmdbnpaaDoor
open Go.ChangeShapes Go.WideShapes Go.ChangeAt Go.RowKit
open Go.ChangeMaps (open_string shut_string)

theorem laidOut : laidOutB Tryd.prog = true := by kernel_rfl
theorem bulk_wt {H : Type} (q : Nat → ByteArray) : ∀ l : List Nat, wt (l.map fun i => (q i).data.toList) ≤ 50 * Rows.uptoBulkAll (l.map fun i => (.lit (.string (q i).data.toList) : DataW H))
  | [] => Nat.zero_le _
  | x :: l => by
    have := bulk_wt (H := H) q l
    rw [List.map_cons, List.map_cons, Rows.uptoBulkAll, Rows.uptoBulk, wt]
    omega
theorem add_at (b o j : Nat) : (⟨b, o, none⟩ : Addr).add j = ⟨b, o + j, none⟩ := by
  unfold Addr.add
  split
  · rename_i h0
    rw [h0, Nat.add_zero]
  · rfl
theorem nl_of {w : World} {x : Addr} {len cap : Nat} {S : Nat → ByteArray} (hc : ∀ i, i < len → w.cell? (x.add i) = some (.string (S i))) : Nl w (.slice (some x) len cap) ((List.range len).map fun i => (S i).data.toList) := by
  refine ⟨some x, cap, by simp, ?_⟩
  by_cases h0 : len = 0
  · subst h0; exact .inl rfl
  · obtain ⟨b, off, spot⟩ := x
    have hspot : spot = none := by simpa [Addr.add] using World.cell?_spot (hc 0 (by omega))
    subst hspot
    have hb := World.block_lt_of_cell? w _ (hc 0 (by omega))
    rw [add_at] at hb
    refine .inr ⟨b, off, rfl, hb, fun j hj => ?_⟩
    have hj' : j < len := by simpa using hj
    have := hc j hj'
    rw [add_at] at this
    rw [this]
    simp [sv]

set_option maxRecDepth 100000 in
theorem argsPacks_contract (H : Type) (enc : TypeId × Value → H) (W : World) (base : Nat) (args : Array Value) (ds gs : List (DataW H)) (before : List MemPlace)
    (hval : ∀ (j : Nat) t v, Tryd.f4.params[j]? = some t → args[j]? = some v → Value.okWide Tryd.prog W .any base t v)
    (hW : DataW.Whole enc Tryd.prog Tryd.f4.params.toList Rows.argsPacksSpec.vars false W args.toList ds gs before) (hk : Rows.uptoSmall H (ds ++ gs) = true) (hL : laidMet Tryd.prog Rows.argsCutRow.laid W) :
    Calls Tryd.prog 4 args W fun e W' => ∃ v, e = .returned v ∧ Rows.argsPacksSpec.post enc Tryd.prog Tryd.f4 false true false false W args v W' := by
  have hW' := hW
  obtain ⟨p, q, hA0, hV, rfl, hfz, hnd⟩ := hW
  have hA : DataW.TrodAll enc Tryd.prog W 0 (fun _ => true) true Tryd.f4.params.toList args.toList ds p := hA0
  rw [Tryd.params4] at hA hval
  obtain ⟨v0, vs0, d0, ds0, p0, q0, hargs, rfl, rfl, h0, r0⟩ := trodAll_cons hA
  obtain ⟨v1, vs1, d1, ds1, p1, q1, rfl, rfl, rfl, h1, r1⟩ := trodAll_cons r0
  obtain ⟨rfl, rfl, rfl⟩ := trodAll_nil r1
  obtain rfl : args = #[v0, v1] := by cases args; simp_all
  obtain ⟨rfl, rfl⟩ := trodVars_none hV
  have hb : Rows.uptoBulkAll ([d0, d1] ++ ([] : List (DataW H))) ≤ 1048576 := of_decide_eq_true hk
  simp only [List.append_nil, Rows.uptoBulkAll] at hb
  obtain ⟨a1, rfl, hd1, rfl, w1⟩ := open_string Tryd.underlying9 (hval 1 9 v1 rfl rfl) h1
  have z1 : a1.size ≤ Rows.uptoBulk d1 := by
    rw [hd1]
    simp only [Rows.uptoBulk, Array.length_toList]
    have e : a1.data.size = a1.size := rfl
    omega
  obtain ⟨a0, len0, cap0, rfl⟩ := okWide_slice Tryd.underlying24 (hval 0 24 v0 rfl rfl)
  have k0 := h0
  have lt0 : ∀ x ∈ p0, x.block < W.heap.size := by obtain ⟨m, hm⟩ := k0; exact DataW.trod_lt m _ _ _ hm
  obtain ⟨ns, hlen, hN, hnil, hwt⟩ : ∃ ns : List Bs, ns.length = len0 ∧ Nl W (.slice a0 len0 cap0) ns ∧ (a0 = none → cap0 = 0 ∧ ns = []) ∧ wt ns ≤ 50 * Rows.uptoBulk d0 := by
    obtain ⟨fuel, hf⟩ := h0
    rcases Go.Deep.open_strs Tryd.underlying24 Tryd.underlying9 (by kernel_rfl) hf with ⟨hcs, _⟩ | ⟨x, l, c, m, S, hcs, _, hl, hm, hmm, hx, hcell⟩
    · simp [Value.cells] at hcs
      obtain ⟨rfl, rfl, rfl⟩ := hcs
      exact ⟨[], rfl, ⟨none, 0, rfl, .inl rfl⟩, fun _ => ⟨rfl, rfl⟩, Nat.zero_le _⟩
    · simp [Value.cells] at hcs
      obtain ⟨rfl, rfl, rfl⟩ := hcs
      simp only [Prod.mk.injEq] at hx
      simp only [if_true] at hmm
      refine ⟨_, by simp, nl_of (S := S) (fun i hi => (hcell i (by omega)).1), fun e => (by cases e), ?_⟩
      rw [hx.1, Rows.uptoBulk]
      have := bulk_wt (H := H) S (List.range len0)
      omega
  subst hlen
  clear hA0
  refine (argsPacks_walk a0 cap0 ns a1 W hN hnil (by omega) (by omega) (sx_of hL)).mono fun e W' ⟨he, bel⟩ => ?_
  subst he
  exact ⟨_, rfl, _, _, _, [], _, [], hW', trodAll_mk1 (shut_bool Tryd.underlying4 _), (trodAll_cons_mk (Below.trod laidOut (by kernel_rfl) (of_decide_eq_true (by kernel_rfl)) k0 bel lt0) (trodAll_cons_mk (hd1 ▸ shut_string Tryd.underlying9 w1) trodAll_mk0)), rfl, bel.frame _, fun h => by cases h⟩

theorem argsPacks_laid_met (os : Os) : laidMet Tryd.prog Rows.argsPacksUptoRow.laid ((laidWorld os).forCall (fun _ _ => 0) ⟨#[], #[.slice none 0 0, .string ⟨#[]⟩], []⟩).memory :=
  laidMet_of_run' 8 (by kernel_rfl) (by kernel_rfl)
theorem argsPacks_reads (os : Os) {H : Type} (enc : TypeId × Value → H) : ∃ places, DataW.whole enc Tryd.prog ((laidWorld os).forCall (fun _ _ => 0) ⟨#[], #[.slice none 0 0, .string ⟨#[]⟩], []⟩).memory Tryd.f4.params.toList (Rows.OpenSpec.upto Rows.argsPacksSpec).vars false #[Value.slice none 0 0, Value.string ⟨#[]⟩].toList 8 = some ([.nil, .lit (.string [])], [], places) :=
  ⟨[], by kernel_rfl⟩

set_option maxRecDepth 100000 in
theorem argsPacks_lifted (os : Os) (started : os.Started) (H : Type) (enc : TypeId × Value → H) (F : Stop.Interp) :
    ReturnsInHanded {} Tryd.checked os 4 .any ((Rows.OpenSpec.upto Rows.argsPacksSpec).preRow enc Tryd.prog Tryd.f4 Rows.argsPacksUptoRow.domain false Rows.argsPacksUptoRow.laid) (((Rows.OpenSpec.upto Rows.argsPacksSpec).at F).post enc Tryd.prog Tryd.f4 false true false false) := by
  obtain ⟨places, hx⟩ := argsPacks_reads os enc
  refine returnsInHanded_of_row (C := Tryd.checked) (s := Rows.OpenSpec.upto Rows.argsPacksSpec) own started (by kernel_rfl) Tryd.func4
    (witness_row_atRef (enc := enc) (C := Tryd.checked) false (laidWorld os) #[.slice none 0 0, .string ⟨#[]⟩] rfl (by kernel_rfl) (by kernel_rfl) (by kernel_rfl)
      (OpenSpec.preRow_of_cond 8 hx (by kernel_rfl) (fun k hk => by cases hk; rfl) (by kernel_rfl) (argsPacks_laid_met os))) ?_
  intro W base args ds gs before hval hW _ hcond _ hL _ _
  exact argsPacks_contract H enc W base args ds gs before hval hW (hcond _ rfl) hL

theorem argsPacks_said : Rows.ArgsPacksUptoSaid :=
  OpenClaim.holds_of_cond 4 Tryd.f4 rfl rfl rfl rfl rfl rfl rfl ⟨rfl, rfl, rfl, rfl, rfl⟩ rfl rfl rfl rfl rfl (by kernel_rfl) Tryd.func4 (by kernel_rfl)
    (of_decide_eq_true (by kernel_rfl)) (by unfold Func.isWrapper; first | (rw [if_pos (by decide +kernel)]; kernel_rfl) | (rw [if_neg (by decide +kernel)]; exact ⟨rfl, rfl⟩))
    (fun os started H enc _ F => by rw [OpenClaim.pre_eq_preRow]; exact argsPacks_lifted os started H enc F)

theorem argsPacks_plain (f : FuncId) (fn : Func) (hf : Tryd.pinned.checked.prog.funcNamed "ferret/ferretlaw25.ArgsPacks" = some f) (hfn : Tryd.pinned.checked.prog.funcs[f]? = some fn) :
    true = Tryd.pinned.checked.prog.looks [] ∧ ∀ (j : Nat) t, fn.params[j]? = some t → Tryd.pinned.checked.prog.wantsStandIn t = false := by
  obtain rfl : f = 4 := Option.some.inj ((show Tryd.prog.funcNamed "ferret/ferretlaw25.ArgsPacks" = some 4 by kernel_rfl).symm.trans hf) |>.symm
  obtain rfl : fn = Tryd.f4 := (Option.some.inj (Tryd.func4.symm.trans hfn)).symm
  refine ⟨by kernel_rfl, fun j t ht => ?_⟩
  rw [Tryd.params4] at ht
  have hm : t = 24 ∨ t = 9 := by simpa using Array.mem_of_getElem? ht
  rcases hm with rfl | rfl
  · exact (show Tryd.prog.wantsStandIn 24 = false by kernel_rfl)
  · exact (show Tryd.prog.wantsStandIn 9 = false by kernel_rfl)

theorem argsPacks_card : Rows.ArgsPacksUptoCardSaid :=
  Claim7.holds_tied_plain_at .later [] _ _ _ _ argsPacks_said (fun _ h => by cases h) (by kernel_rfl) (fun _ h => by cases h) argsPacksUpto_row_tie rfl ⟨rfl, rfl⟩ (by kernel_rfl) rfl argsPacks_plain (by kernel_rfl)
#print axioms argsPacks_card
end Go.Proofs.YtmeekjfnmdbnpaaDoor
