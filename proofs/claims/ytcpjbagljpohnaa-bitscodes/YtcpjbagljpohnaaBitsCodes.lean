/- BitsCodes: for every two numbers, a code is its number's bits the other way round, and calls with a number of bits that does not fit put nothing; no condition. -/
import Derived.Test.YtcpjbagljpohnaaRows
import Derived.WalkKit
import Derived.ProofKit
import Derived.OpenShut
import Derived.ShutString
import Derived.Below
import Derived.SizedLaws
import Derived.Test.YtcpjbagljpohnaaDuo
namespace Go.Proofs.Ytcpjbagljpohnaa
open Go.ChangeShapes Go.WideShapes Go.ChangeAt Go.RowKit
open Go.ChangeMaps (open_string shut_string)

theorem own : ownKnob Try.prog.godebug = none := by kernel_rfl
theorem i64_and31 (n : Int) : bits .and .i64 n 31 = n % 32 := i64_and_mask n 5 (by decide)
theorem ibit_shift (v : Int) (i : Nat) : (List.range 1).map (ibit (v / 2 ^ i)) = [ibit v i] := by simp [ibit]

set_option maxHeartbeats 400000 in
theorem bitsCodes_walk (a0 a1 : Int) (w : World) (_w0 : (Lit.int .i64 a0).wf = true) (_w1 : (Lit.int .i64 a1).wf = true) :
    Calls Try.prog 8 #[.int .i64 a0, .int .i64 a1] w fun e w' => e = .returned (.bool true) ∧ Below w.heap.size w w' := by
  go_enter Try.func8, Try.ntmps8
  go_wp2_with fail
  refine (speaks_any _).mono ?_
  rintro e w1 ⟨rfl, hb⟩
  have D0 : Hid _ := duo_new w1 w.heap.size w hb (Nat.le_refl _)
  clear hb
  go_wp2_with fail
  rw [i64_and31]
  obtain ⟨n, hn, hle⟩ : ∃ n : Nat, a1 % 32 = n ∧ n ≤ 31 := ⟨(a1 % 32).toNat, by omega, by omega⟩
  rw [hn]
  clear hn
  refine (code_yes w1.heap.size [] a0 n _ D0.out.wa (by simp; omega) (by omega)).mono ?_
  rintro e w2 ⟨rfl, s⟩
  have D1 : Hid _ := D0.out.step s
  clear D0 s
  go_wp2_with fail
  go_loopw [7] (fun i wr => ∃ j : Nat, j ≤ n ∧ i = .int .i64 (n - 1 - j) ∧ Duo w.heap.size w wr w1.heap.size (w1.heap.size + 1) ((List.range n).map (fun i => ibit a0 (n - 1 - i))) ((List.range j).map (fun i => ibit a0 (n - 1 - i)))) (fun i _ => (intOf i + 1).toNat)
  case atStart => exact ⟨0, Nat.zero_le _, by go_num, by simpa using D1.out⟩
  case round =>
    obtain ⟨j, hj, rfl, hd⟩ := hrel
    by_cases hlt : j < n
    · have hge : (0 : Int) ≤ (n : Int) - 1 - j := by omega
      have D2 : Hid _ := hd
      clear hd D1
      go_wp2_with fail
      refine (put_int (w1.heap.size + 1) _ _ 1 _ D2.out.wb (by decide) (by decide) (by simp; omega)).mono ?_
      rintro e w3 ⟨rfl, s⟩
      have D3 : Hid _ := (D2.out.swap.step s).swap
      clear D2 s
      go_wp2
      go_roundw
      case rel =>
        refine ⟨j + 1, by omega, by go_num, ?_⟩
        have := D3.out
        rw [show (1 : Int).toNat = 1 from rfl, ibit_shift] at this
        rw [List.range_succ, List.map_append]
        exact this
      case measure => simp [intOf]; omega
    · obtain rfl : j = n := by omega
      have hge : ¬ (0 : Int) ≤ (j : Int) - 1 - j := by omega
      have D2 : Hid _ := hd
      clear hd D1
      go_wp2_with fail
      refine (all_any _ _ _ D2.out.wa).mono ?_
      rintro e w3 ⟨rfl, rfl⟩
      go_wp2_with fail
      refine (put_int _ _ _ 0 _ D2.out.wa (by decide) (by decide) (by simp; omega)).mono ?_
      rintro e w4 ⟨rfl, s⟩
      have D3 : Hid _ := D2.out.step s
      clear D2 s
      go_wp2_with fail
      refine (code_no _ _ _ _ (by decide)).mono ?_
      rintro e w5 ⟨rfl, rfl⟩
      go_wp2_with fail
      refine (put_no _ _ _ _ (by decide)).mono ?_
      rintro e w6 ⟨rfl, rfl⟩
      go_wp2_with fail
      refine (all_any _ _ _ D3.out.wb).mono ?_
      rintro e w7 ⟨rfl, rfl⟩
      have hl : ((strOf (Bt.pack ((List.range j).map (fun i => ibit a0 (j - 1 - i))))).size : Int) = ((j : Int) + 7) / 8 := by rw [size_strOf, Bt.length_pack]; simp
      have hl : ((((strOf (Bt.pack ((List.range j).map (fun i => ibit a0 (j - 1 - i))))).size : Int) == ((j : Int) + 7) / 8)) = true := by simpa using hl
      go_wp2_with fail
      refine (all_any _ _ _ D3.out.wa).mono ?_
      rintro e w8 ⟨rfl, rfl⟩
      go_wp2
      go_ret
      exact ⟨ret_bool (by simp), D3.out.bel⟩
set_option maxRecDepth 100000 in
theorem bitsCodes_lifted (os : Os) (started : os.Started) (H : Type) (enc : TypeId × Value → H) :
    ReturnsInHanded {} Try.checked os 8 .any (Rows.bitsCodesSpec.pre6 enc Try.prog Try.f8 Rows.bitsCodesRow.domain false) (Rows.bitsCodesSpec.post enc Try.prog Try.f8 false true false false) := by
  refine returnsInHanded_of_change_sized (C := Try.checked) own started (by kernel_rfl) Try.func8
    (ChangeSpec.witness6 (enc := enc) (C := Try.checked) false ⟨#[], #[.int .i64 0, .int .i64 0], []⟩ 8 (by kernel_rfl) (by kernel_rfl) (by kernel_rfl) (by kernel_rfl)) ?_
  intro W base args ds gs before hval0 hW hcnd hsz0 _
  have hsz : (DataW.weightsEach Try.prog (Try.f8.params.toList ++ Rows.bitsCodesSpec.plain.varTypes Try.prog) (ds ++ gs)).all (· ≤ reachBytes) = true := hsz0
  clear hsz0
  have hval : ∀ (j : Nat) t v, Try.f8.params[j]? = some t → args[j]? = some v → Value.okWide Try.prog W .any base t v := hval0
  have hW' := hW
  obtain ⟨p, q, hA0, hV, rfl, hfz, hnd⟩ := hW
  have hA : DataW.TrodAll enc Try.prog W 0 (fun _ => true) true Try.f8.params.toList args.toList ds p := hA0
  rw [Try.params8] at hA hval hsz
  obtain ⟨v0, vs0, d0, ds0, p0, q0, hargs, rfl, rfl, h0, r0⟩ := trodAll_cons hA
  obtain ⟨v1, vs1, d1, ds1, p1, q1, rfl, rfl, rfl, h1, r1⟩ := trodAll_cons r0
  obtain ⟨rfl, rfl, rfl⟩ := trodAll_nil r1
  obtain rfl : args = #[v0, v1] := by cases args; simp_all
  obtain ⟨rfl, rfl⟩ := trodVars_none hV
  obtain ⟨a0, rfl, rfl, rfl, w0⟩ := open_int Try.underlying3 (hval 0 3 v0 rfl rfl) h0
  obtain ⟨a1, rfl, rfl, rfl, w1⟩ := open_int Try.underlying3 (hval 1 3 v1 rfl rfl) h1
  clear hA0 hval0
  refine (bitsCodes_walk a0 a1 W w0 w1).mono fun e W' ⟨he, bel⟩ => ?_
  subst he
  exact ⟨_, rfl, _, _, _, [], _, [], hW', trodAll_mk1 (shut_bool Try.underlying4 _), (trodAll_cons_mk (shut_int Try.underlying3 w0) (trodAll_cons_mk (shut_int Try.underlying3 w1) trodAll_mk0)), rfl, bel.frame _, fun h => by cases h⟩

theorem bitsCodes_holds : Rows.BitsCodesSaid :=
  OpenClaim.holds_of_wide 8 Try.f8 rfl rfl rfl rfl rfl rfl rfl ⟨rfl, rfl, rfl, rfl, rfl⟩ rfl rfl rfl rfl rfl (by kernel_rfl) Try.func8 (by kernel_rfl)
    (of_decide_eq_true (by kernel_rfl)) (by unfold Func.isWrapper; first | (rw [if_pos (by decide +kernel)]; kernel_rfl) | (rw [if_neg (by decide +kernel)]; exact ⟨rfl, rfl⟩))
    (fun os started H enc _ => bitsCodes_lifted os started H enc)
#print axioms bitsCodes_holds
end Go.Proofs.Ytcpjbagljpohnaa
