/- InflateUnpacks, for all inputs of at most 1048576 values and letters together: any bytes from any place: what they unpack to and where they end, or what is wrong, and where, is what the document says. -/
import Derived.Test.YtokelpnmeknncabM31
import Derived.Test.YtokelpnmeknncabM32
import Derived.Test.YtokelpnmeknncabM33
import Derived.Test.YtokelpnmeknncabRows
import Derived.WalkKit
import Derived.ProofKit
import Derived.OpenShut
import Derived.ShutString
import Derived.ChangeOld
import Derived.Below
import Derived.SizedLaws
import Derived.Deep.CondSized
namespace Go.Proofs.Ytokelpnmeknncab
open Go.ChangeShapes Go.WideShapes Go.ChangeAt Go.RowKit
open Go.ChangeMaps (open_string shut_string)

theorem own : ownKnob Try.prog.godebug = none := by kernel_rfl

theorem rUnpack_says (data : ByteArray) (f m : Nat) (w : World) (hd : data.size ≤ 140737488351232) (hf : f ≤ data.size) (hm1 : m ≤ 9223372036854775807) (hc : m ≤ 70368744177664 ∨ 400000 * data.size ≤ 70368744177664) :
    Calls Try.prog 21 #[.string data, .int .i64 (f : Nat), .int .i64 (m : Nat)] w fun e w' => ∃ S N C A, e = .returned (.tuple #[.string S, .int .i64 (N : Nat), .int .i64 (C : Nat), .int .i64 (A : Nat)]) ∧ Says (data.extract f data.size) f m S N C A ∧ Touch (fun _ => False) w w' := by
  refine (rUnpack_in data f m w hd hf hm1 hc).mono ?_
  rintro e w' ⟨⟨er, t', out', hun, ht', hres⟩, tc⟩
  have hsz : (data.extract f data.size).size = data.size - f := by rw [ByteArray.size_extract]; omega
  rcases hres with ⟨h0, rfl⟩ | ⟨h0, rfl⟩
  · exact ⟨_, _, 0, 0, rfl, ⟨er, t', out', hun, by omega, .inl ⟨h0, rfl, rfl, rfl, rfl⟩⟩, tc⟩
  · exact ⟨_, 0, er, _, rfl, ⟨er, t', out', hun, by omega, .inr ⟨h0, rfl, rfl, rfl, rfl⟩⟩, tc⟩

theorem says_same {s : ByteArray} {f m : Nat} {S S2 : ByteArray} {N C A N2 C2 A2 : Nat} (h : Says s f m S N C A) (k : Says s f m S2 N2 C2 A2) : S2 = S ∧ N2 = N ∧ C2 = C ∧ A2 = A := by
  obtain ⟨er, t', out', hun, _, hr⟩ := h
  obtain ⟨er2, t2, out2, hun2, _, hr2⟩ := k
  obtain ⟨rfl, rfl, rfl⟩ := hun.det hun2
  rcases hr with ⟨h0, rfl, rfl, rfl, rfl⟩ | ⟨h0, rfl, rfl, rfl, rfl⟩
  · rcases hr2 with ⟨_, rfl, rfl, rfl, rfl⟩ | ⟨k0, _⟩
    · exact ⟨rfl, rfl, rfl, rfl⟩
    · exact absurd h0 k0
  · rcases hr2 with ⟨k0, _⟩ | ⟨_, rfl, rfl, rfl, rfl⟩
    · exact absurd k0 h0
    · exact ⟨rfl, rfl, rfl, rfl⟩

set_option maxRecDepth 100000 in
set_option maxHeartbeats 4000000 in
theorem inflateUnpacks_walk (data : ByteArray) (fr most : Int) (w : World) (hd : data.size ≤ 1048576) (hm : most ≤ 9223372036854775807) :
    Calls Try.prog 5 #[.string data, .int .i64 fr, .int .i64 most] w fun e w' => e = .returned (.bool true) ∧ Below w.heap.size w w' := by
  by_cases h : fr < 0 ∨ (data.size : Int) < fr ∨ most < 0
  · have U := hid (fun wq => Unpack_arg data fr most wq h)
    have R := hid (fun wq => rUnpack_arg data fr most wq h)
    clear h
    go_enter Try.func5, Try.ntmps5
    go_wp2_with fail
    refine (speaks3_yes w).mono ?_
    rintro e w1 ⟨rfl, ht⟩
    have T1 := hid ht
    clear ht
    go_wp2_with fail
    refine (U.out _).mono ?_
    rintro e w2 ⟨rfl, tc⟩
    have T2 := hid (T1.out.trans tc (fun _ _ e => e))
    have FB := hid (two_new (w := w2) (.int .i64 1) (.int .i64 0) 43)
    clear tc
    go_wp2_with fail
    refine (R.out _).mono ?_
    rintro e w3 ⟨rfl, rfl⟩
    have k0 := cell_two0 FB.out
    have k1 := cell_two1 FB.out
    go_wp2
    go_ret
    exact ⟨rfl, (T2.out.alloc _).below _ (Nat.le_refl _) (fun _ e => e.elim)⟩
  · obtain ⟨f, rfl⟩ := Int.eq_ofNat_of_zero_le (show 0 ≤ fr by omega)
    obtain ⟨m, rfl⟩ := Int.eq_ofNat_of_zero_le (show 0 ≤ most by omega)
    have U := hid (fun wq => Unpack_says data f m wq (by omega) (by omega) (by omega) (.inr (by omega)))
    have R := hid (fun wq => rUnpack_says data f m wq (by omega) (by omega) (by omega) (.inr (by omega)))
    clear h
    go_enter Try.func5, Try.ntmps5
    go_wp2_with fail
    refine (speaks3_yes w).mono ?_
    rintro e w1 ⟨rfl, ht⟩
    have T1 := hid ht
    clear ht
    go_wp2_with fail
    refine (U.out _).mono ?_
    rintro e w2 ⟨S, N, C, A, rfl, hs1, tc⟩
    have T2 := hid (T1.out.trans tc (fun _ _ e => e))
    have S1 := hid hs1
    clear tc hs1
    go_wp2_with fail
    refine (R.out _).mono ?_
    rintro e w3 ⟨S2, N2, C2, A2, rfl, hs2, tc2⟩
    obtain ⟨rfl, rfl, rfl, rfl⟩ := says_same S1.out hs2
    have FB := hid (show w3.heap[w2.heap.size]? = some (.cells #[.int .i64 (C2 : Nat), .int .i64 (A2 : Nat)] 43 (0, 0)) from by
      rw [tc2.block _ (by simp) id]
      exact two_new _ _ _)
    have T3 := hid ((T2.out.alloc (.cells #[.int .i64 (C2 : Nat), .int .i64 (A2 : Nat)] 43)).trans tc2 (fun _ _ e => e))
    have k0 := cell_two0 FB.out
    have k1 := cell_two1 FB.out
    clear hs2 tc2 S1
    go_wp2
    go_ret
    exact ⟨rfl, T3.out.below _ (Nat.le_refl _) (fun _ e => e.elim)⟩

set_option maxRecDepth 100000 in
theorem inflateUnpacks_contract (H : Type) (enc : TypeId × Value → H) (W : World) (base : Nat) (args : Array Value) (ds gs : List (DataW H)) (before : List MemPlace)
    (hval : ∀ (j : Nat) t v, Try.f5.params[j]? = some t → args[j]? = some v → Value.okWide Try.prog W .any base t v)
    (hW : DataW.Whole enc Try.prog Try.f5.params.toList Rows.inflateUnpacksSpec.vars false W args.toList ds gs before) (hk : Rows.uptoSmall H (ds ++ gs) = true) :
    Calls Try.prog 5 args W fun e W' => ∃ v, e = .returned v ∧ Rows.inflateUnpacksSpec.post enc Try.prog Try.f5 false true false false W args v W' := by
  have hW' := hW
  obtain ⟨p, q, hA0, hV, rfl, hfz, hnd⟩ := hW
  have hA : DataW.TrodAll enc Try.prog W 0 (fun _ => true) true Try.f5.params.toList args.toList ds p := hA0
  rw [Try.params5] at hA hval
  obtain ⟨v0, vs0, d0, ds0, p0, q0, hargs, rfl, rfl, h0, r0⟩ := trodAll_cons hA
  obtain ⟨v1, vs1, d1, ds1, p1, q1, rfl, rfl, rfl, h1, r1⟩ := trodAll_cons r0
  obtain ⟨v2, vs2, d2, ds2, p2, q2, rfl, rfl, rfl, h2, r2⟩ := trodAll_cons r1
  obtain ⟨rfl, rfl, rfl⟩ := trodAll_nil r2
  obtain rfl : args = #[v0, v1, v2] := by cases args; simp_all
  obtain ⟨rfl, rfl⟩ := trodVars_none hV
  obtain ⟨a0, rfl, rfl, rfl, w0⟩ := open_string Try.underlying9 (hval 0 9 v0 rfl rfl) h0
  obtain ⟨a1, rfl, rfl, rfl, w1⟩ := open_int Try.underlying3 (hval 1 3 v1 rfl rfl) h1
  obtain ⟨a2, rfl, rfl, rfl, w2⟩ := open_int Try.underlying3 (hval 2 3 v2 rfl rfl) h2
  have hb := (of_decide_eq_true hk : Rows.uptoBulkAll _ ≤ 1048576)
  have hsum : a0.size ≤ 1048576 := by
    simp only [List.append_nil, Rows.uptoBulkAll, Rows.uptoBulk, Array.length_toList] at hb
    have e0 : a0.data.size = a0.size := rfl
    omega
  clear hA0 hb
  refine (inflateUnpacks_walk a0 a1 a2 W hsum (by have h3 := w2; simp only [Lit.wf, Bool.and_eq_true, decide_eq_true_eq] at h3; exact h3.2)).mono fun e W' ⟨he, bel⟩ => ?_
  subst he
  exact ⟨_, rfl, _, _, _, [], _, [], hW', trodAll_mk1 (shut_bool Try.underlying4 _), (trodAll_cons_mk (shut_string Try.underlying9 w0) (trodAll_cons_mk (shut_int Try.underlying3 w1) (trodAll_cons_mk (shut_int Try.underlying3 w2) trodAll_mk0))), rfl, bel.frame _, fun h => by cases h⟩

set_option maxRecDepth 100000 in
theorem inflateUnpacks_lifted (os : Os) (started : os.Started) (H : Type) (enc : TypeId × Value → H) (F : Stop.Interp) :
    ReturnsInHanded {} Try.checked os 5 .any ((Rows.OpenSpec.upto Rows.inflateUnpacksSpec).pre6 enc Try.prog Try.f5 Rows.inflateUnpacksUptoRow.domain false) (((Rows.OpenSpec.upto Rows.inflateUnpacksSpec).at F).post enc Try.prog Try.f5 false true false false) := by
  refine returnsInHanded_of_cond (C := Try.checked) (s := Rows.OpenSpec.upto Rows.inflateUnpacksSpec) (k := Rows.uptoSmall) rfl own started (by kernel_rfl) Try.func5
    (OpenSpec.witness (enc := enc) (C := Try.checked) (s := Rows.OpenSpec.upto Rows.inflateUnpacksSpec) (k := Rows.uptoSmall) rfl false ⟨#[], #[.string ByteArray.empty, .int .i64 0, .int .i64 0], []⟩ 8 (by kernel_rfl) (by kernel_rfl) (by kernel_rfl)
      (x := ([.lit (.string []), .lit (.int .i64 0), .lit (.int .i64 0)], [], [])) (by kernel_rfl) rfl (by kernel_rfl)) ?_
  intro W base args ds gs before hval hW _ hk _
  exact inflateUnpacks_contract H enc W base args ds gs before hval hW hk

theorem inflateUnpacks_holds : Rows.InflateUnpacksUptoSaid :=
  OpenClaim.holds_of_cond 5 Try.f5 rfl rfl rfl rfl rfl rfl rfl ⟨rfl, rfl, rfl, rfl, rfl⟩ rfl rfl rfl rfl rfl (by kernel_rfl) Try.func5 (by kernel_rfl)
    (of_decide_eq_true (by kernel_rfl)) (by unfold Func.isWrapper; first | (rw [if_pos (by decide +kernel)]; kernel_rfl) | (rw [if_neg (by decide +kernel)]; exact ⟨rfl, rfl⟩))
    (fun os started H enc _ F => inflateUnpacks_lifted os started H enc F)
#print axioms inflateUnpacks_holds
end Go.Proofs.Ytokelpnmeknncab
