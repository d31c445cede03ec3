/- InflateMore, for all inputs of at most 1048576 bytes together: bytes behind the last block change nothing; a bound that is too low is told. -/
import Derived.Test.YtokelpnmeknncabM24
import Derived.Test.YtokelpnmeknncabM25
import Derived.Test.YtokelpnmeknncabRows
import Derived.WalkKit
import Derived.ProofKit
import Derived.OpenShut
import Derived.ShutString
import Derived.ChangeOld
import Derived.Below
import Derived.SizedLaws
import Derived.Deep.CondSized
namespace Go.Proofs.Ytokelpnmeknncab
open Go.ChangeShapes Go.WideShapes Go.ChangeAt Go.RowKit
open Go.ChangeMaps (open_string shut_string)

theorem own : ownKnob Try.prog.godebug = none := by kernel_rfl

theorem says_err {s : ByteArray} {f m : Nat} {S : ByteArray} {N C A : Nat} (h : Says s f m S N C A) : C ≠ 0 ∧ S = ByteArray.empty ∧ N = 0 ∨ C = 0 ∧ A = 0 := by
  obtain ⟨er, t', out', hun, ht', hr⟩ := h
  rcases hr with ⟨h0, hS, hN, hC, hA⟩ | ⟨h0, hS, hN, hC, hA⟩
  · exact .inr ⟨hC, hA⟩
  · exact .inl ⟨by omega, hS, hN⟩
theorem says_len {s : ByteArray} {f m : Nat} {S : ByteArray} {N C A : Nat} (h : Says s f m S N C A) : S.size ≤ m := by
  obtain ⟨er, t', out', hun, ht', hr⟩ := h
  rcases hr with ⟨h0, hS, hN, hC, hA⟩ | ⟨h0, hS, hN, hC, hA⟩
  · subst h0
    have := (Inf.un_bound hun rfl).2
    rw [hS, size_strOf]
    rcases Nat.lt_or_ge m out'.length with h | h
    · obtain ⟨t3, o3, h3⟩ := (this m).2 (by simp) h
      exact absurd (hun.det h3).1 (by decide)
    · exact h
  · rw [hS]
    simp

set_option maxRecDepth 100000 in
set_option maxHeartbeats 4000000 in
theorem inflateMore_walk (data more ahead : ByteArray) (w : World) (hd : data.size + more.size + ahead.size ≤ 1048576) :
    Calls Try.prog 6 #[.string data, .string more, .string ahead] w fun e w' => e = .returned (.bool true) ∧ Below w.heap.size w w' := by
  go_enter Try.func6, Try.ntmps6
  go_wp2_with fail
  refine (speaks3_yes w).mono ?_
  rintro e w1 ⟨rfl, ht⟩
  have T1 := hid ht
  clear ht
  have U1 := hid (Unpack_says data 0 1048576 w1 (by omega) (by omega) (by decide) (.inl (by decide)))
  go_wp2_with fail
  refine U1.out.mono ?_
  rintro e w2 ⟨S, N, C, A, rfl, hs1, tc1⟩
  rw [extract_all] at hs1
  have hSl := says_len hs1
  have S1 := hid hs1
  have T2 := hid (T1.out.trans tc1 (fun _ _ e => e))
  clear hs1 tc1 U1
  have U2 := hid (fun wq => Unpack_says (ahead ++ data ++ more) ahead.size 1048576 wq (by simp; omega) (by simp; omega) (by decide) (.inl (by decide)))
  rw [extract_mid] at U2
  go_wp2_with fail
  refine (U2.out _).mono ?_
  rintro e w3 ⟨S2, N2, C2, A2, rfl, hs2, tc2⟩
  have FB := hid (show w3.heap[w2.heap.size]? = some (.cells #[.int .i64 (C : Nat), .int .i64 (A : Nat)] 43 (0, 0)) from by
    rw [tc2.block _ (by simp) id]
    exact two_new _ _ _)
  have T3 := hid ((T2.out.alloc (.cells #[.int .i64 (C : Nat), .int .i64 (A : Nat)] 43)).trans tc2 (fun _ _ e => e))
  have k0 := cell_two0 FB.out
  have k1 := cell_two1 FB.out
  have hlt2 : w2.heap.size < w3.heap.size := lt_of_block FB.out
  have S2h := hid hs2
  clear hs2 tc2 U2
  rcases says_err S1.out with ⟨g0, rfl, rfl⟩ | ⟨rfl, rfl⟩
  · have b0 : ((C : Int) == 0) = false := by simp; omega
    have b1 : ((C : Int) != 0) = true := by simp; omega
    clear g0
    go_wp2
    go_ret
    exact ⟨rfl, (T3.out.alloc _).below _ (Nat.le_refl _) (fun _ e => e.elim)⟩
  · obtain ⟨rfl, rfl, rfl, rfl, hN⟩ := more_says S1.out S2h.out
    obtain ⟨hb1, hb2⟩ := bound_says S1.out
    have HB1 := hid hb1
    have HB2 := hid hb2
    have HSL := hid hSl
    clear hb1 hb2
    have U3 := hid (fun wq => Unpack_says data 0 S2.size wq (by omega) (by omega) (by omega) (.inl (by omega)))
    rw [extract_all] at U3
    have hNb : N ≤ 1048576 := by omega
    go_wp2_with fail
    refine (U3.out _).mono ?_
    rintro e w4 ⟨S3, N3, C3, A3, rfl, hs3, tc3⟩
    obtain ⟨rfl, rfl, rfl, rfl⟩ := HB1.out _ _ _ _ hs3
    have FB4 := hid (show w4.heap[w2.heap.size]? = some (.cells #[.int .i64 0, .int .i64 0] 43 (0, 0)) from by
      rw [tc3.block _ (by simp; omega) id, Below.heap_alloc _ _ _ hlt2]
      exact FB.out)
    have T4 := hid ((T3.out.alloc (.cells #[.int .i64 0, .int .i64 0] 43)).trans tc3 (fun _ _ e => e))
    have m0 := cell_two0 FB4.out
    have m1 := cell_two1 FB4.out
    have hlt4 : w2.heap.size < w4.heap.size := lt_of_block FB4.out
    clear hs3 tc3 U3
    by_cases hS : S3 = ByteArray.empty
    · subst hS
      go_wp2
      go_ret
      exact ⟨rfl, (T4.out.alloc _).below _ (Nat.le_refl _) (fun _ e => e.elim)⟩
    · have hpos : 0 < S3.size := by
        rcases Nat.eq_zero_or_pos S3.size with h | h
        · refine absurd ?_ hS
          apply ByteArray.ext
          have : S3.data.size = 0 := h
          simpa using Array.eq_empty_of_size_eq_zero this
        · exact h
      have hSb : S3.toList.isEmpty = false := by
        rw [Go.ByteArray.toList_eq]
        cases hl : S3.data.toList with
        | nil =>
          have : S3.data.toList.length = 0 := by rw [hl]; rfl
          rw [Array.length_toList] at this
          exact absurd hpos (by show ¬ 0 < S3.data.size; omega)
        | cons _ _ => rfl
      have U4 := hid (fun wq => Unpack_says data 0 (S3.size - 1) wq (by omega) (by omega) (by omega) (.inl (by omega)))
      rw [extract_all] at U4
      have HS := hid hS
      clear hS
      go_wp2_with fail
      rw [show ((S3.size : Int) - 1) = ((S3.size - 1 : Nat) : Int) by omega]
      refine (U4.out _).mono ?_
      rintro e w5 ⟨S4, N4, C4, A4, rfl, hs4, tc4⟩
      obtain rfl := HB2.out hpos _ _ _ _ hs4
      have FB5 := hid (show w5.heap[w4.heap.size]? = some (.cells #[.int .i64 0, .int .i64 0] 43 (0, 0)) from by
        rw [tc4.block _ (by simp) id]
        exact two_new _ _ _)
      have T5 := hid ((T4.out.alloc (.cells #[.int .i64 0, .int .i64 0] 43)).trans tc4 (fun _ _ e => e))
      have n0 := cell_two0 FB5.out
      have n1 := cell_two1 FB5.out
      have nf0 := free_two (i := 0) FB5.out
      have nf1 := free_two (i := 1) FB5.out
      have hsz4 := T4.out.size
      clear hs4 tc4 U4
      go_wp2
      go_ret
      exact ⟨rfl, ((T5.out.setCell (fun h => absurd h (by simp; omega)) _).setCell (fun h => absurd h (by simp; omega)) _).below _ (Nat.le_refl _) (fun _ e => e.elim)⟩
set_option maxRecDepth 100000 in
theorem inflateMore_contract (H : Type) (enc : TypeId × Value → H) (W : World) (base : Nat) (args : Array Value) (ds gs : List (DataW H)) (before : List MemPlace)
    (hval : ∀ (j : Nat) t v, Try.f6.params[j]? = some t → args[j]? = some v → Value.okWide Try.prog W .any base t v)
    (hW : DataW.Whole enc Try.prog Try.f6.params.toList Rows.inflateMoreSpec.vars false W args.toList ds gs before) (hk : Rows.uptoSmall H (ds ++ gs) = true) :
    Calls Try.prog 6 args W fun e W' => ∃ v, e = .returned v ∧ Rows.inflateMoreSpec.post enc Try.prog Try.f6 false true false false W args v W' := by
  have hW' := hW
  obtain ⟨p, q, hA0, hV, rfl, hfz, hnd⟩ := hW
  have hA : DataW.TrodAll enc Try.prog W 0 (fun _ => true) true Try.f6.params.toList args.toList ds p := hA0
  rw [Try.params6] at hA hval
  obtain ⟨v0, vs0, d0, ds0, p0, q0, hargs, rfl, rfl, h0, r0⟩ := trodAll_cons hA
  obtain ⟨v1, vs1, d1, ds1, p1, q1, rfl, rfl, rfl, h1, r1⟩ := trodAll_cons r0
  obtain ⟨v2, vs2, d2, ds2, p2, q2, rfl, rfl, rfl, h2, r2⟩ := trodAll_cons r1
  obtain ⟨rfl, rfl, rfl⟩ := trodAll_nil r2
  obtain rfl : args = #[v0, v1, v2] := by cases args; simp_all
  obtain ⟨rfl, rfl⟩ := trodVars_none hV
  obtain ⟨a0, rfl, rfl, rfl, w0⟩ := open_string Try.underlying9 (hval 0 9 v0 rfl rfl) h0
  obtain ⟨a1, rfl, rfl, rfl, w1⟩ := open_string Try.underlying9 (hval 1 9 v1 rfl rfl) h1
  obtain ⟨a2, rfl, rfl, rfl, w2⟩ := open_string Try.underlying9 (hval 2 9 v2 rfl rfl) h2
  have hb : Rows.uptoBulkAll ([.lit (.string a0.data.toList), .lit (.string a1.data.toList), .lit (.string a2.data.toList)] ++ ([] : List (DataW H))) ≤ 1048576 := of_decide_eq_true hk
  have hsum : a0.size + a1.size + a2.size ≤ 1048576 := by
    simp only [List.append_nil, Rows.uptoBulkAll, Rows.uptoBulk, Array.length_toList] at hb
    have e0 : a0.data.size = a0.size := rfl
    have e1 : a1.data.size = a1.size := rfl
    have e2 : a2.data.size = a2.size := rfl
    omega
  clear hA0 hb
  refine (inflateMore_walk a0 a1 a2 W hsum).mono fun e W' ⟨he, bel⟩ => ?_
  subst he
  exact ⟨_, rfl, _, _, _, [], _, [], hW', trodAll_mk1 (shut_bool Try.underlying4 _), (trodAll_cons_mk (shut_string Try.underlying9 w0) (trodAll_cons_mk (shut_string Try.underlying9 w1) (trodAll_cons_mk (shut_string Try.underlying9 w2) trodAll_mk0))), rfl, bel.frame _, fun h => by cases h⟩

set_option maxRecDepth 100000 in
theorem inflateMore_lifted (os : Os) (started : os.Started) (H : Type) (enc : TypeId × Value → H) (F : Stop.Interp) :
    ReturnsInHanded {} Try.checked os 6 .any ((Rows.OpenSpec.upto Rows.inflateMoreSpec).pre6 enc Try.prog Try.f6 Rows.inflateMoreUptoRow.domain false) (((Rows.OpenSpec.upto Rows.inflateMoreSpec).at F).post enc Try.prog Try.f6 false true false false) := by
  refine returnsInHanded_of_cond (C := Try.checked) (s := Rows.OpenSpec.upto Rows.inflateMoreSpec) (k := Rows.uptoSmall) rfl own started (by kernel_rfl) Try.func6
    (OpenSpec.witness (enc := enc) (C := Try.checked) (s := Rows.OpenSpec.upto Rows.inflateMoreSpec) (k := Rows.uptoSmall) rfl false ⟨#[], #[.string ByteArray.empty, .string ByteArray.empty, .string ByteArray.empty], []⟩ 8 (by kernel_rfl) (by kernel_rfl) (by kernel_rfl)
      (x := ([.lit (.string []), .lit (.string []), .lit (.string [])], [], [])) (by kernel_rfl) rfl (by kernel_rfl)) ?_
  intro W base args ds gs before hval hW _ hk _
  exact inflateMore_contract H enc W base args ds gs before hval hW hk

theorem inflateMore_holds : Rows.InflateMoreUptoSaid :=
  OpenClaim.holds_of_cond 6 Try.f6 rfl rfl rfl rfl rfl rfl rfl ⟨rfl, rfl, rfl, rfl, rfl⟩ rfl rfl rfl rfl rfl (by kernel_rfl) Try.func6 (by kernel_rfl)
    (of_decide_eq_true (by kernel_rfl)) (by unfold Func.isWrapper; first | (rw [if_pos (by decide +kernel)]; kernel_rfl) | (rw [if_neg (by decide +kernel)]; exact ⟨rfl, rfl⟩))
    (fun os started H enc _ F => inflateMore_lifted os started H enc F)
#print axioms inflateMore_holds
end Go.Proofs.Ytokelpnmeknncab
