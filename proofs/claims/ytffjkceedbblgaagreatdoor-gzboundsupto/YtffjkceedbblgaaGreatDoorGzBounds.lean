/- GzBounds, for all inputs of at most 1048576 values and letters together (all that the statement's second form asks): the bound for all parts of a file together is just their length. -/
import Derived.Test.YtffjkceedbblgaaGreatDoorM21
import Derived.Test.YtffjkceedbblgaaGreatDoorM40
import Derived.Test.YtffjkceedbblgaaGreatDoorWe
import Derived.Deep.Strs
namespace Go.Proofs.YtffjkceedbblgaaGreatDoor
open Go.ChangeShapes Go.WideShapes Go.ChangeAt Go.RowKit
open Go.ChangeMaps (open_string shut_string)

theorem laidOut : laidOutB Tryz.prog = true := by kernel_rfl
theorem bulk_texts {H : Type} (S : Nat → ByteArray) : ∀ l : List Nat, tot (l.map S) + l.length ≤ Rows.uptoBulkAll (l.map fun i => (.lit (.string (S i).data.toList) : DataW H))
  | [] => Nat.le_refl _
  | x :: l => by
    have := bulk_texts (H := H) S l
    rw [List.map_cons, List.map_cons, tot_cons, Rows.uptoBulkAll, Rows.uptoBulk, List.length_cons, ba_len]
    omega
theorem ts_of {w : World} {x : Addr} {len cap : Nat} {S : Nat → ByteArray} (hc : ∀ i, i < len → w.cell? (x.add i) = some (.string (S i))) : Ts w (.slice (some x) len cap) ((List.range len).map S) := by
  refine ⟨some x, cap, by simp, ?_⟩
  by_cases h0 : len = 0
  · subst h0; exact .inl rfl
  · obtain ⟨b, off, spot⟩ := x
    have hspot : spot = none := by simpa [Addr.add] using World.cell?_spot (hc 0 (by omega))
    subst hspot
    have e : ∀ j, (⟨b, off, none⟩ : Addr).add j = ⟨b, off + j, none⟩ := by intro j; unfold Addr.add; split <;> simp_all
    have hb := World.block_lt_of_cell? w _ (hc 0 (by omega))
    rw [e] at hb
    refine .inr ⟨b, off, rfl, hb, fun j hj => ?_⟩
    have hj' : j < len := by simpa using hj
    have := hc j hj'
    rw [e] at this
    rw [this]
    simp
set_option maxRecDepth 100000 in
theorem gzBounds_contract (H : Type) (enc : TypeId × Value → H) (W : World) (base : Nat) (args : Array Value) (ds gs : List (DataW H)) (before : List MemPlace)
    (hval : ∀ (j : Nat) t v, Tryz.f4.params[j]? = some t → args[j]? = some v → Value.okWide Tryz.prog W .any base t v)
    (hW : DataW.Whole enc Tryz.prog Tryz.f4.params.toList Rows.gzBoundsSpec.vars false W args.toList ds gs before) (hk : Rows.uptoSmall H (ds ++ gs) = true) (hL : laidMetH Tryz.prog Rows.gzBoundsUptoRow.laid W) :
    Calls Tryz.prog 4 args W fun e W' => ∃ v, e = .returned v ∧ Rows.gzBoundsSpec.post enc Tryz.prog Tryz.f4 false true false false W args v W' := by
  have hW' := hW
  obtain ⟨p, q, hA0, hV, rfl, hfz, hnd⟩ := hW
  have hA : DataW.TrodAll enc Tryz.prog W 0 (fun _ => true) true Tryz.f4.params.toList args.toList ds p := hA0
  rw [Tryz.params4] at hA hval
  obtain ⟨v0, vs0, d0, ds0, p0, q0, hargs, rfl, rfl, h0, r0⟩ := trodAll_cons hA
  obtain ⟨rfl, rfl, rfl⟩ := trodAll_nil r0
  obtain rfl : args = #[v0] := by cases args; simp_all
  obtain ⟨rfl, rfl⟩ := trodVars_none hV
  have hb : Rows.uptoBulkAll ([d0] ++ ([] : List (DataW H))) ≤ 1048576 := of_decide_eq_true hk
  simp only [List.append_nil, Rows.uptoBulkAll] at hb
  obtain ⟨a0, len0, cap0, rfl⟩ := okWide_slice Tryz.underlying34 (hval 0 34 v0 rfl rfl)
  have k0 := h0
  have lt0 : ∀ x ∈ p0, x.block < W.heap.size := by obtain ⟨m, hm⟩ := k0; exact DataW.trod_lt m _ _ _ hm
  obtain ⟨ts, hN, hlen, htot⟩ : ∃ ts : List ByteArray, Ts W (.slice a0 len0 cap0) ts ∧ ts.length ≤ Rows.uptoBulk d0 ∧ tot ts ≤ Rows.uptoBulk d0 := by
    obtain ⟨fuel, hf⟩ := h0
    rcases Go.Deep.open_strs Tryz.underlying34 Tryz.underlying9 (by kernel_rfl) hf with ⟨hcs, _⟩ | ⟨x, l, c, m, S, hcs, _, hl, hm, hmm, hx, hcell⟩
    · simp [Value.cells] at hcs
      obtain ⟨rfl, rfl, rfl⟩ := hcs
      exact ⟨[], ⟨none, 0, rfl, .inl rfl⟩, Nat.zero_le _, Nat.zero_le _⟩
    · simp [Value.cells] at hcs
      obtain ⟨rfl, rfl, rfl⟩ := hcs
      simp only [Prod.mk.injEq] at hx
      simp only [if_true] at hmm
      have := bulk_texts (H := H) S (List.range len0)
      refine ⟨_, ts_of (S := S) (fun i hi => (hcell i (by omega)).1), ?_, ?_⟩
      · rw [hx.1, Rows.uptoBulk]
        simp only [List.length_map, List.length_range] at this ⊢
        omega
      · rw [hx.1, Rows.uptoBulk]
        omega
  clear hA0
  refine (gzBounds_walk _ ts W (quart_of hL) hN (by omega) (by omega)).mono fun e W' ⟨he, tc⟩ => ?_
  have bel := tc.below W.heap.size (Nat.le_refl _) (fun _ e => e.elim)
  subst he
  exact ⟨_, rfl, _, _, _, [], _, [], hW', trodAll_mk1 (shut_bool Tryz.underlying4 _), (trodAll_cons_mk (Below.trod laidOut (by kernel_rfl) (of_decide_eq_true (by kernel_rfl)) k0 bel lt0) trodAll_mk0), rfl, bel.frame _, fun h => by cases h⟩

theorem gzBounds_laid_met (os : Os) : laidMet Tryz.prog Rows.gzBoundsUptoRow.laid ((laidWorld os).forCall (fun _ _ => 0) ⟨#[], #[.slice none 0 0], []⟩).memory :=
  laidMet_of_run' 8 (by kernel_rfl) (by kernel_rfl)
theorem gzBounds_reads (os : Os) {H : Type} (enc : TypeId × Value → H) : ∃ places, DataW.whole enc Tryz.prog ((laidWorld os).forCall (fun _ _ => 0) ⟨#[], #[.slice none 0 0], []⟩).memory Tryz.f4.params.toList (Rows.OpenSpec.upto Rows.gzBoundsSpec).vars false #[Value.slice none 0 0].toList 8 = some ([.nil], [], places) :=
  ⟨[], by kernel_rfl⟩

set_option maxRecDepth 100000 in
theorem gzBounds_lifted (os : Os) (started : os.Started) (H : Type) (enc : TypeId × Value → H) (F : Stop.Interp) :
    ReturnsInHanded {} Tryz.checked os 4 .any ((Rows.OpenSpec.upto Rows.gzBoundsSpec).preRow enc Tryz.prog Tryz.f4 Rows.gzBoundsUptoRow.domain false Rows.gzBoundsUptoRow.laid) (((Rows.OpenSpec.upto Rows.gzBoundsSpec).at F).post enc Tryz.prog Tryz.f4 false true false false) := by
  obtain ⟨places, hx⟩ := gzBounds_reads os enc
  refine returnsInHanded_of_row (C := Tryz.checked) (s := Rows.OpenSpec.upto Rows.gzBoundsSpec) own started (by kernel_rfl) Tryz.func4
    (witness_row_at (enc := enc) (C := Tryz.checked) false (laidWorld os) #[.slice none 0 0] rfl (by kernel_rfl) (by kernel_rfl) (by kernel_rfl)
      (OpenSpec.preRow_of_cond 8 hx (by kernel_rfl) (fun k hk => by cases hk; rfl) (by kernel_rfl) (gzBounds_laid_met os))) ?_
  intro W base args ds gs before hval hW _ hcond _ hL _ _
  exact gzBounds_contract H enc W base args ds gs before hval hW (hcond _ rfl) hL

theorem gzBounds_said : Rows.GzBoundsUptoSaid :=
  OpenClaim.holds_of_cond 4 Tryz.f4 rfl rfl rfl rfl rfl rfl rfl ⟨rfl, rfl, rfl, rfl, rfl⟩ rfl rfl rfl rfl rfl (by kernel_rfl) Tryz.func4 (by kernel_rfl)
    (of_decide_eq_true (by kernel_rfl)) (by unfold Func.isWrapper; first | (rw [if_pos (by decide +kernel)]; kernel_rfl) | (rw [if_neg (by decide +kernel)]; exact ⟨rfl, rfl⟩))
    (fun os started H enc _ F => by rw [OpenClaim.pre_eq_preRow]; exact gzBounds_lifted os started H enc F)

theorem gzBounds_plain (f : FuncId) (fn : Func) (hf : Tryz.pinned.checked.prog.funcNamed "ferret/ferretlaw05.GzBounds" = some f) (hfn : Tryz.pinned.checked.prog.funcs[f]? = some fn) :
    false = Tryz.pinned.checked.prog.looks [] ∧ ∀ (j : Nat) t, fn.params[j]? = some t → Tryz.pinned.checked.prog.wantsStandIn t = false := by
  obtain rfl : f = 4 := Option.some.inj ((show Tryz.prog.funcNamed "ferret/ferretlaw05.GzBounds" = some 4 by kernel_rfl).symm.trans hf) |>.symm
  obtain rfl : fn = Tryz.f4 := (Option.some.inj (Tryz.func4.symm.trans hfn)).symm
  refine ⟨by kernel_rfl, fun j t ht => ?_⟩
  rw [Tryz.params4] at ht
  obtain rfl : t = 34 := by simpa using Array.mem_of_getElem? ht
  exact (show Tryz.prog.wantsStandIn 34 = false by kernel_rfl)

theorem gzBounds_card : Rows.GzBoundsUptoCardSaid :=
  Claim7.holds_tied_plain_at .later [] _ _ _ _ gzBounds_said (fun _ h => by cases h) (by kernel_rfl) (fun _ h => by cases h) gzBoundsUpto_row_tie rfl ⟨rfl, rfl⟩ (by kernel_rfl) rfl gzBounds_plain (by kernel_rfl)
#print axioms gzBounds_card
end Go.Proofs.YtffjkceedbblgaaGreatDoor
