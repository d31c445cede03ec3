/- InflateCut: what is cut off its end is missed, or it unpacks as it did; for every input. -/
import Derived.Test.YtokelpnmeknncabMInflatecut24
import Derived.Test.YtokelpnmeknncabRows
import Derived.WalkKit
import Derived.ProofKit
import Derived.OpenShut
import Derived.ShutString
import Derived.ChangeOld
import Derived.Below
import Derived.SizedLaws
import Derived.Deep.DeepCutAuto
import Derived.Deep.CutRange
namespace Go.Proofs.Ytokelpnmeknncab
open Go.ChangeShapes Go.WideShapes Go.ChangeAt Go.RowKit
open Go.ChangeMaps (open_string shut_string)

theorem own : ownKnob Try.prog.godebug = none := by kernel_rfl

set_option maxRecDepth 100000 in
set_option maxHeartbeats 4000000 in
theorem inflateCut_walk (data : ByteArray) (cut : Int) (w : World) (hd : data.size ≤ 140737488351232) (_h1 : (Lit.int .i64 cut).wf = true) :
    Calls Try.prog 8 #[.string data, .int .i64 cut] w fun e w' => e = .returned (.bool true) ∧ Below w.heap.size w w' := by
  go_enter Try.func8, Try.ntmps8
  go_wp2_with fail
  refine (speaks3_yes w).mono ?_
  rintro e w1 ⟨rfl, ht⟩
  have T1 := hid ht
  clear ht
  obtain ⟨c, hc⟩ : ∃ c : Nat, (c : Int) = if cut < 0 ∨ (data.size : Int) < cut then 1 else cut := by
    by_cases h : cut < 0 ∨ (data.size : Int) < cut
    · exact ⟨1, by rw [if_pos h]; rfl⟩
    · exact ⟨cut.toNat, by rw [if_neg h]; omega⟩
  have HC := hid hc
  have hcb : c ≤ 140737488351232 := by
    by_cases h : cut < 0 ∨ (data.size : Int) < cut
    · rw [if_pos h] at hc; omega
    · rw [if_neg h] at hc; omega
  clear hc
  go_upto_region 3 with fail
  go_cut [20] (fun x wc => x = .bool (decide (cut < 0 ∨ (data.size : Int) < cut)) ∧ w1 = wc)
  case first =>
    by_cases q1 : cut < 0
    · go_wp2
      go_meet
      case rel => exact ⟨congrArg Value.bool (decide_eq_true (by omega)).symm, rfl⟩
    · by_cases q2 : (data.size : Int) < cut
      · go_wp2
        go_meet
        case rel => exact ⟨congrArg Value.bool (decide_eq_true (by omega)).symm, rfl⟩
      · go_wp2
        go_meet
        case rel => exact ⟨congrArg Value.bool (decide_eq_false (by omega)).symm, rfl⟩
  obtain ⟨rfl, rfl⟩ := hcut
  go_upto_if 20 with fail
  go_cut [1] (fun x wc => x = .int .i64 (c : Nat) ∧ w1 = wc)
  case first =>
    by_cases q : cut < 0 ∨ (data.size : Int) < cut
    · have hb : decide (cut < 0 ∨ (data.size : Int) < cut) = true := decide_eq_true q
      have Q := hid q
      clear q
      rw [hb]
      go_wp2
      go_meet
      case rel => exact ⟨by rw [HC.out, if_pos Q.out], rfl⟩
    · have hb : decide (cut < 0 ∨ (data.size : Int) < cut) = false := decide_eq_false q
      have Q := hid q
      clear q
      rw [hb]
      go_wp2
      go_meet
      case rel => exact ⟨by rw [HC.out, if_neg Q.out], rfl⟩
  obtain ⟨rfl, rfl⟩ := hcut
  clear HC
  have U1 := hid (Unpack_says data 0 1048576 w1 hd (by omega) (by decide) (.inl (by decide)))
  go_wp2_with fail
  refine U1.out.mono ?_
  rintro e w2 ⟨S, N, C, A, rfl, hs1, tc1⟩
  rw [extract_all] at hs1
  have S1 := hid hs1
  have T2 := hid (T1.out.trans tc1 (fun _ _ e => e))
  clear hs1 tc1 U1
  by_cases hcs : c ≤ data.size
  · have U2 := hid (fun wq => Unpack_says (data.extract 0 (data.size - c)) 0 1048576 wq (by rw [ByteArray.size_extract]; omega) (by omega) (by decide) (.inl (by decide)))
    rw [extract_all (data.extract 0 (data.size - c))] at U2
    go_wp2_with fail
    refine (U2.out _).mono ?_
    rintro e w3 ⟨S2, N2, C2, A2, rfl, hs2, tc2⟩
    have hsay := cut_says S1.out hs2
    have FB := hid (show w3.heap[w2.heap.size]? = some (.cells #[.int .i64 (C : Nat), .int .i64 (A : Nat)] 43 (0, 0)) from by
      rw [tc2.block _ (by simp) id]
      exact two_new _ _ _)
    have T3 := hid ((T2.out.alloc _).trans tc2 (fun _ _ e => e))
    have k0 := cell_two0 FB.out
    have k1 := cell_two1 FB.out
    have hlt2 : w2.heap.size < w3.heap.size := lt_of_block FB.out
    clear hs2 tc2 U2
    rcases hsay with ⟨rfl, rfl, rfl, rfl, rfl, rfl⟩ | ⟨rfl, rfl⟩ | ⟨g0, g3, rfl, rfl, rfl⟩
    · go_wp2
      go_ret
      exact ⟨rfl, (T3.out.alloc _).below _ (Nat.le_refl _) (fun _ e => e.elim)⟩
    · go_wp2
      go_ret
      exact ⟨rfl, (T3.out.alloc _).below _ (Nat.le_refl _) (fun _ e => e.elim)⟩
    · have b0 : ((C : Int) == 0) = false := by simp; omega
      have b3 : ((C : Int) == 3) = false := by simp; omega
      clear g0 g3
      go_wp2
      go_ret
      exact ⟨rfl, (T3.out.alloc _).below _ (Nat.le_refl _) (fun _ e => e.elim)⟩
  · have U2 := hid (fun wq => Unpack_says ByteArray.empty 0 1048576 wq (by decide) (by decide) (by decide) (.inl (by decide)))
    rw [extract_all ByteArray.empty] at U2
    go_wp2_with fail
    refine (U2.out _).mono ?_
    rintro e w3 ⟨S2, N2, C2, A2, rfl, hs2, tc2⟩
    have hsay := cut_says (k := 0) S1.out (by rw [show data.extract 0 0 = ByteArray.empty from by apply ByteArray.ext; rw [ByteArray.data_extract]; simp]; exact hs2)
    have FB := hid (show w3.heap[w2.heap.size]? = some (.cells #[.int .i64 (C : Nat), .int .i64 (A : Nat)] 43 (0, 0)) from by
      rw [tc2.block _ (by simp) id]
      exact two_new _ _ _)
    have T3 := hid ((T2.out.alloc _).trans tc2 (fun _ _ e => e))
    have k0 := cell_two0 FB.out
    have k1 := cell_two1 FB.out
    have hlt2 : w2.heap.size < w3.heap.size := lt_of_block FB.out
    clear hs2 tc2 U2
    rcases hsay with ⟨rfl, rfl, rfl, rfl, rfl, rfl⟩ | ⟨rfl, rfl⟩ | ⟨g0, g3, rfl, rfl, rfl⟩
    · go_wp2
      go_ret
      exact ⟨rfl, (T3.out.alloc _).below _ (Nat.le_refl _) (fun _ e => e.elim)⟩
    · go_wp2
      go_ret
      exact ⟨rfl, (T3.out.alloc _).below _ (Nat.le_refl _) (fun _ e => e.elim)⟩
    · have b0 : ((C : Int) == 0) = false := by simp; omega
      have b3 : ((C : Int) == 3) = false := by simp; omega
      clear g0 g3
      go_wp2
      go_ret
      exact ⟨rfl, (T3.out.alloc _).below _ (Nat.le_refl _) (fun _ e => e.elim)⟩
set_option maxRecDepth 100000 in
theorem inflateCut_lifted (os : Os) (started : os.Started) (H : Type) (enc : TypeId × Value → H) :
    ReturnsInHanded {} Try.checked os 8 .any (Rows.inflateCutSpec.pre6 enc Try.prog Try.f8 Rows.inflateCutRow.domain false) (Rows.inflateCutSpec.post enc Try.prog Try.f8 false true false false) := by
  refine returnsInHanded_of_change_sized (C := Try.checked) own started (by kernel_rfl) Try.func8
    (ChangeSpec.witness6 (enc := enc) (C := Try.checked) false ⟨#[], #[.string ByteArray.empty, .int .i64 0], []⟩ 8 (by kernel_rfl) (by kernel_rfl) (by kernel_rfl) (by kernel_rfl)) ?_
  intro W base args ds gs before hval0 hW hcnd hsz0 _
  have hsz : (DataW.weightsEach Try.prog (Try.f8.params.toList ++ Rows.inflateCutSpec.plain.varTypes Try.prog) (ds ++ gs)).all (· ≤ reachBytes) = true := hsz0
  clear hsz0
  have hval : ∀ (j : Nat) t v, Try.f8.params[j]? = some t → args[j]? = some v → Value.okWide Try.prog W .any base t v := hval0
  have hW' := hW
  obtain ⟨p, q, hA0, hV, rfl, hfz, hnd⟩ := hW
  have hA : DataW.TrodAll enc Try.prog W 0 (fun _ => true) true Try.f8.params.toList args.toList ds p := hA0
  rw [Try.params8] at hA hval hsz
  obtain ⟨v0, vs0, d0, ds0, p0, q0, hargs, rfl, rfl, h0, r0⟩ := trodAll_cons hA
  obtain ⟨v1, vs1, d1, ds1, p1, q1, rfl, rfl, rfl, h1, r1⟩ := trodAll_cons r0
  obtain ⟨rfl, rfl, rfl⟩ := trodAll_nil r1
  obtain rfl : args = #[v0, v1] := by cases args; simp_all
  obtain ⟨rfl, rfl⟩ := trodVars_none hV
  obtain ⟨a0, rfl, rfl, rfl, w0⟩ := open_string Try.underlying9 (hval 0 9 v0 rfl rfl) h0
  have z0 : a0.size ≤ 140737488351232 := by
    have := sized_string hsz (j := 0) (t := 9) rfl rfl
    simpa [reachBytes] using this
  obtain ⟨a1, rfl, rfl, rfl, w1⟩ := open_int Try.underlying3 (hval 1 3 v1 rfl rfl) h1
  clear hA0 hval0
  refine (inflateCut_walk a0 a1 W z0 w1).mono fun e W' ⟨he, bel⟩ => ?_
  subst he
  exact ⟨_, rfl, _, _, _, [], _, [], hW', trodAll_mk1 (shut_bool Try.underlying4 _), (trodAll_cons_mk (shut_string Try.underlying9 w0) (trodAll_cons_mk (shut_int Try.underlying3 w1) trodAll_mk0)), rfl, bel.frame _, fun h => by cases h⟩

theorem inflateCut_holds : Rows.InflateCutSaid :=
  OpenClaim.holds_of_wide 8 Try.f8 rfl rfl rfl rfl rfl rfl rfl ⟨rfl, rfl, rfl, rfl, rfl⟩ rfl rfl rfl rfl rfl (by kernel_rfl) Try.func8 (by kernel_rfl)
    (of_decide_eq_true (by kernel_rfl)) (by unfold Func.isWrapper; first | (rw [if_pos (by decide +kernel)]; kernel_rfl) | (rw [if_neg (by decide +kernel)]; exact ⟨rfl, rfl⟩))
    (fun os started H enc _ => inflateCut_lifted os started H enc)
#print axioms inflateCut_holds
end Go.Proofs.Ytokelpnmeknncab
