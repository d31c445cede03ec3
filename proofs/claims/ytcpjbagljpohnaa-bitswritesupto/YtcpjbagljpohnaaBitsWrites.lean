/- BitsWrites: for every list of steps that holds at most 1048576 values and letters, all bytes of the writer are the document's, and no writer writes nothing. -/
import Derived.Test.YtcpjbagljpohnaaRows
import Derived.WalkKit
import Derived.ProofKit
import Derived.OpenShut
import Derived.JoinedCond
import Derived.ChangeOld
import Derived.Below
import Derived.Test.YtcpjbagljpohnaaWrites
import Derived.Test.YtcpjbagljpohnaaActs
namespace Go.Proofs.Ytcpjbagljpohnaa
open Go.ChangeShapes Go.WideShapes Go.ChangeAt Go.RowKit

theorem own : ownKnob Try.prog.godebug = none := by kernel_rfl
theorem laidOut : laidOutB Try.prog = true := by kernel_rfl

theorem bulk_append {H : Type} (l r : List (DataW H)) : Rows.uptoBulkAll (l ++ r) = Rows.uptoBulkAll l + Rows.uptoBulkAll r := by
  induction l with
  | nil => simp [Rows.uptoBulkAll]
  | cons x l ih => simp only [List.cons_append, Rows.uptoBulkAll, ih]; omega

theorem bulk_cost {H : Type} (A N V : Nat → Int) (T : Nat → ByteArray) (len : Nat) : cost T len = 8 * Rows.uptoBulkAll ((List.range len).map fun i => actD (H := H) (A i) (N i) (V i) (T i)) := by
  induction len with
  | zero => rfl
  | succ n ih =>
    rw [List.range_succ, List.map_append, bulk_append, cost, ih]
    have e : (T n).data.toList.length = (T n).size := by rw [Array.length_toList]; rfl
    simp only [List.map_cons, List.map_nil, Rows.uptoBulkAll, actD, Rows.uptoBulk, e]
    omega

theorem cost_len (T : Nat → ByteArray) : ∀ n, 40 * n ≤ cost T n
  | 0 => Nat.le_refl _
  | n + 1 => by have := cost_len T n; rw [cost]; omega

set_option maxRecDepth 100000 in
set_option maxHeartbeats 1000000 in
theorem writes_none (a : Option Addr) (cap : Nat) (w : World) :
    Calls Try.prog 4 #[.slice a 0 cap] w fun e w' => e = .returned (.bool true) ∧ Below w.heap.size w w' := by
  go_enter Try.func4, Try.ntmps4
  go_wp2_with fail
  refine (speaks_any _).mono ?_
  rintro e w1 ⟨rfl, hb0⟩
  have X := hid (ws_new hb0)
  clear hb0
  go_wp2_with fail
  refine wp_loop_rounds 1 ?_
  rw [rounds_succ]
  go_wp2_with fail
  refine (all_any _ _ _ X.out.wr).mono ?_
  rintro e w3 ⟨rfl, rfl⟩
  go_wp2_with fail
  refine (pack_none _).mono ?_
  rintro e w4 ⟨rfl, ht⟩
  have X2 := hid (X.out.new ht)
  clear X ht
  go_wp2_with fail
  refine (all_nil _).mono ?_
  rintro e w5 ⟨rfl, rfl⟩
  go_wp2
  go_ret
  exact ⟨rfl, X2.out.bel⟩

theorem bitsWrites_walk (a : Option Addr) (len cap : Nat) (A N V : Nat → Int) (T : Nat → ByteArray) (w : World) (h : IsActs w a len A N V T) (hc : cost T len ≤ 8388608) :
    Calls Try.prog 4 #[.slice a len cap] w fun e w' => e = .returned (.bool true) ∧ Below w.heap.size w w' := by
  have hl := cost_len T len
  rcases h with rfl | ⟨b, o, rfl, hb, hcell⟩
  · exact writes_none a cap w
  · exact writes_core b o len cap w A N V T hb (by omega) hc hcell

theorem bitsWrites_contract (H : Type) (enc : TypeId × Value → H) (W : World) (base : Nat) (args : Array Value) (ds gs : List (DataW H)) (before : List MemPlace)
    (hval : ∀ (j : Nat) t v, Try.f4.params[j]? = some t → args[j]? = some v → Value.okWide Try.prog W .any base t v)
    (hW : DataW.Whole enc Try.prog Try.f4.params.toList Rows.bitsWritesSpec.vars false W args.toList ds gs before) (hk : Rows.uptoSmall H (ds ++ gs) = true) :
    Calls Try.prog 4 args W fun e W' => ∃ v, e = .returned v ∧ Rows.bitsWritesSpec.post enc Try.prog Try.f4 false true false false W args v W' := by
  have hW' := hW
  obtain ⟨p, q, hA0, hV, rfl, hfz, hnd⟩ := hW
  have hA : DataW.TrodAll enc Try.prog W 0 (fun _ => true) true Try.f4.params.toList args.toList ds p := hA0
  rw [Try.params4] at hA hval
  obtain ⟨v0, vs0, d0, ds0, p0, q0, hargs, rfl, rfl, h0, r0⟩ := trodAll_cons hA
  obtain ⟨rfl, rfl, rfl⟩ := trodAll_nil r0
  obtain rfl : args = #[v0] := by cases args; simp_all
  obtain ⟨rfl, rfl⟩ := trodVars_none hV
  obtain ⟨a0, len0, cap0, rfl⟩ := okWide_slice Try.underlying22 (hval 0 22 v0 rfl rfl)
  have k0 := h0
  have lt0 : ∀ x ∈ p0, x.block < W.heap.size := by obtain ⟨m, hm⟩ := k0; exact DataW.trod_lt m _ _ _ hm
  have hb : Rows.uptoBulkAll ([d0] ++ ([] : List (DataW H))) ≤ 1048576 := of_decide_eq_true hk
  obtain ⟨AA, NN, VV, TT, w0, z0⟩ : ∃ AA NN VV TT, IsActs W a0 len0 AA NN VV TT ∧ cost TT len0 ≤ 8388608 := by
    rcases open_acts h0 with ⟨rfl, rfl, rfl, rfl⟩ | ⟨x, AA, NN, VV, TT, sp, rfl, hl, hsp, rfl, hcell⟩
    · exact ⟨fun _ => 0, fun _ => 0, fun _ => 0, fun _ => ByteArray.empty, .inl rfl, by simp [cost]⟩
    · refine ⟨AA, NN, VV, TT, isActs_of hcell, ?_⟩
      rw [bulk_cost (H := H) AA NN VV TT]
      simp only [List.append_nil, Rows.uptoBulkAll, Rows.uptoBulk] at hb
      omega
  clear hA0
  refine (bitsWrites_walk a0 len0 cap0 AA NN VV TT W w0 z0).mono fun e W' ⟨he, bel⟩ => ?_
  subst he
  exact ⟨_, rfl, _, _, _, [], _, [], hW', trodAll_mk1 (shut_bool Try.underlying4 _), (trodAll_cons_mk (Below.trod laidOut (by kernel_rfl) (of_decide_eq_true (by kernel_rfl)) k0 bel lt0) trodAll_mk0), rfl, bel.frame _, fun h => by cases h⟩

set_option maxRecDepth 100000 in
theorem bitsWrites_lifted (os : Os) (started : os.Started) (H : Type) (enc : TypeId × Value → H) (F : Stop.Interp) :
    ReturnsInHanded {} Try.checked os 4 .any ((Rows.OpenSpec.upto Rows.bitsWritesSpec).pre6 enc Try.prog Try.f4 Rows.bitsWritesUptoRow.domain false) (((Rows.OpenSpec.upto Rows.bitsWritesSpec).at F).post enc Try.prog Try.f4 false true false false) := by
  refine returnsInHanded_of_cond (C := Try.checked) (s := Rows.OpenSpec.upto Rows.bitsWritesSpec) (k := Rows.uptoSmall) rfl own started (by kernel_rfl) Try.func4
    (OpenSpec.witness (enc := enc) (C := Try.checked) (s := Rows.OpenSpec.upto Rows.bitsWritesSpec) (k := Rows.uptoSmall) rfl false ⟨#[], #[.slice none 0 0], []⟩ 8 (by kernel_rfl) (by kernel_rfl) (by kernel_rfl)
      (x := ([.nil], [], [])) (by kernel_rfl) rfl (by kernel_rfl)) ?_
  intro W base args ds gs before hval hW _ hk _
  exact bitsWrites_contract H enc W base args ds gs before hval hW hk

theorem bitsWrites_holds : Rows.BitsWritesUptoSaid :=
  OpenClaim.holds_of_cond 4 Try.f4 rfl rfl rfl rfl rfl rfl rfl ⟨rfl, rfl, rfl, rfl, rfl⟩ rfl rfl rfl rfl rfl (by kernel_rfl) Try.func4 (by kernel_rfl)
    (of_decide_eq_true (by kernel_rfl)) (by unfold Func.isWrapper; first | (rw [if_pos (by decide +kernel)]; kernel_rfl) | (rw [if_neg (by decide +kernel)]; exact ⟨rfl, rfl⟩))
    (fun os started H enc _ F => bitsWrites_lifted os started H enc F)
#print axioms bitsWrites_holds
end Go.Proofs.Ytcpjbagljpohnaa
