/- SetsEach, for all inputs of at most 1048576 values together: what each number is in, it is in what is made of that. -/
import Derived.Test.YtpjnnbegimaaeabM2
import Derived.Test.YtpjnnbegimaaeabM3
import Derived.Test.YtpjnnbegimaaeabM4
import Derived.Test.YtpjnnbegimaaeabM5
namespace Go.Proofs.Ytpjnnbegimaaeab
open Go.ChangeShapes Go.WideShapes Go.ChangeAt Go.RowKit

theorem has_out {s : List R2} (h : Canon s) {r : Int} (hr : ¬ (0 ≤ r ∧ r ≤ 1114111)) : hasB r s = false := by
  rw [← Bool.not_eq_true, hasB_iff]
  rintro ⟨q, hq, h1, h2⟩
  have := h.in_ q hq
  unfold inB at this
  omega

theorem has_or {s t n : List R2} {r : Int} {A B : Bool} (h : ∀ x, In x n ↔ In x s ∨ In x t) (hA : hasB r s = A) (hB : hasB r t = B) : hasB r n = (A || B) := by
  refine hasB_eq ?_
  rw [h, Bool.or_eq_true, ← hA, ← hB, hasB_iff, hasB_iff]
theorem has_and {s t n : List R2} {r : Int} {A B : Bool} (h : ∀ x, In x n ↔ In x s ∧ In x t) (hA : hasB r s = A) (hB : hasB r t = B) : hasB r n = (A && B) := by
  refine hasB_eq ?_
  rw [h, Bool.and_eq_true, ← hA, ← hB, hasB_iff, hasB_iff]
theorem has_less {s t n : List R2} {r : Int} {A B : Bool} (h : ∀ x, In x n ↔ In x s ∧ ¬ In x t) (hA : hasB r s = A) (hB : hasB r t = B) : hasB r n = (A && !B) := by
  refine hasB_eq ?_
  rw [h, Bool.and_eq_true, Bool.not_eq_true', ← Bool.not_eq_true, ← hA, ← hB, hasB_iff, hasB_iff]
theorem has_not {s n : List R2} {r : Int} {A : Bool} (h : ∀ x, In x n ↔ (0 ≤ x ∧ x ≤ 1114111) ∧ ¬ In x s) (hA : hasB r s = A) : hasB r n = (decide (0 ≤ r ∧ r ≤ 1114111) && !A) := by
  refine hasB_eq ?_
  rw [h, Bool.and_eq_true, decide_eq_true_eq, Bool.not_eq_true', ← Bool.not_eq_true, ← hA, hasB_iff]

/-- What a number is in, in the three cases that there are. -/
theorem three {s t : List R2} (hs : Canon s) (ht : Canon t) (r : Int) : (0 ≤ r ∧ r ≤ 1114111) ∨ (r < 0 ∧ hasB r s = false ∧ hasB r t = false) ∨ (1114111 < r ∧ hasB r s = false ∧ hasB r t = false) := by
  rcases Int.lt_or_le r 0 with h | h
  · exact .inr (.inl ⟨h, has_out hs (by omega), has_out ht (by omega)⟩)
  · rcases Int.lt_or_le 1114111 r with k | k
    · exact .inr (.inr ⟨k, has_out hs (by omega), has_out ht (by omega)⟩)
    · exact .inl ⟨h, k⟩

set_option maxRecDepth 100000 in
set_option maxHeartbeats 8000000 in
theorem setsEach_walk (a1 : Option Addr) (c1 : Nat) (l : List R2) (a2 : Option Addr) (c2 : Nat) (m : List R2) (r : Int) (w : World) (hl : Rg w a1 l) (hb : l.length ≤ 1048576) (hm : Rg w a2 m) (hb2 : m.length ≤ 1048576) :
    Calls Try.prog 5 #[.slice a1 l.length c1, .slice a2 m.length c2, .int .i64 r] w fun e w' => e = .returned (.bool true) ∧ Below w.heap.size w w' := by
  have HL := hid hl
  have HM := hid hm
  clear hl hm
  go_enter Try.func5, Try.ntmps5
  go_wp2_with fail
  refine (speaks_yes w).mono ?_
  rintro e w1 ⟨rfl, tc⟩
  have T1 := hid tc
  have K := hid (made_any a1 c1 l w1 (HL.out.new tc) (by omega))
  clear tc
  go_wp2_with fail
  refine K.out.mono ?_
  rintro e w2 ⟨v, v2, s, rfl, hcn, hin, ow, ow2⟩
  have T2 := hid (T1.out.trans ow.touch (fun _ _ e => e))
  obtain ⟨sa, sc, hv, hrg⟩ := ow.rg
  subst hv
  have CS := hid ow.cap
  obtain ⟨sa2, sc2, hv2⟩ := own_shape ow2.own
  subst hv2
  have RS2 := hid hrg
  have HCS := hid hcn
  have K2 := hid (made_any a2 c2 m w2 (HM.out.new T2.out) (by omega))
  clear ow ow2 hcn hin hrg K
  go_wp2_with fail
  refine K2.out.mono ?_
  rintro e w3 ⟨v, v2, t, rfl, hcn, hin, ow, ow2⟩
  have T3 := hid (T2.out.trans ow.touch (fun _ _ e => e))
  obtain ⟨ta, tc, hv, hrg⟩ := ow.rg
  subst hv
  have CT := hid ow.cap
  obtain ⟨ta2, tc2, hv2⟩ := own_shape ow2.own
  subst hv2
  have RT3 := hid hrg
  have RS3 := hid (RS2.out.new ow.touch)
  have HCT := hid hcn
  clear ow ow2 hcn hin hrg K2
  obtain ⟨A, hA⟩ : ∃ A, hasB r s = A := ⟨_, rfl⟩
  obtain ⟨B, hB⟩ : ∃ B, hasB r t = B := ⟨_, rfl⟩
  have HA := hid hA
  have HB := hid hB
  have H3 := three HCS.out HCT.out r
  rw [hA, hB] at H3
  clear hA hB
  have KS := hid (fun (wq : World) (tq : Touch (fun _ => False) w3 wq) => has_says sa sc s r wq (RS3.out.new tq) HCS.out)
  rw [HA.out] at KS
  have KT := hid (fun (wq : World) (tq : Touch (fun _ => False) w3 wq) => has_says ta tc t r wq (RT3.out.new tq) HCT.out)
  rw [HB.out] at KT
  obtain ⟨I, hI⟩ : ∃ I, decide (0 ≤ r ∧ r ≤ 1114111) = I := ⟨_, rfl⟩
  have HI := hid hI
  have HX : (I = true ∧ 0 ≤ r ∧ r ≤ 1114111) ∨ (I = false ∧ r < 0 ∧ A = false ∧ B = false) ∨ (I = false ∧ 0 ≤ r ∧ 1114111 < r ∧ A = false ∧ B = false) := by
    rw [← hI]
    rcases H3 with h | h | h
    · exact .inl ⟨decide_eq_true h, h⟩
    · exact .inr (.inl ⟨decide_eq_false (by omega), h⟩)
    · exact .inr (.inr ⟨decide_eq_false (by omega), by omega, h⟩)
  clear H3 hI
  go_wp2_with fail
  refine (KS.out w3 (Touch.refl _ _)).mono ?_
  rintro e w4 ⟨rfl, tc4⟩
  have T34 := hid tc4
  clear tc4
  go_wp2_with fail
  refine (KT.out w4 T34.out).mono ?_
  rintro e w5 ⟨rfl, tc5⟩
  have T35 := hid (T34.out.trans tc5 (fun _ _ e => e))
  clear tc5 KS KT
  go_upto_region 6 with fail
  go_cut [13] (fun v wd => v = .bool I ∧ w5 = wd)
  case first =>
    rcases HX with ⟨rfl, h0, h1⟩ | ⟨rfl, h0, hA', hB'⟩ | ⟨rfl, h0, h1, hA', hB'⟩
    all_goals
      try clear hA' hB'
      go_wp2
      go_meet
      case rel => first | exact ⟨rfl, rfl⟩ | exact ⟨by rw [decide_eq_false (by omega)], rfl⟩
  obtain ⟨rfl, rfl⟩ := hcut
  have HXX := hid HX
  clear HX
  cases A <;> cases B <;> cases I
  all_goals
    go_wp2_with fail
    refine (or_says sa ta sc tc s t w5 (RS3.out.new T35.out) (RT3.out.new T35.out) HCS.out HCT.out).mono ?_
    rintro e w6 ⟨v, n, rfl, hcn, hin, ow⟩
    have Tw6 := hid (T35.out.trans ow.touch (fun _ _ e => e))
    obtain ⟨va, vc, hv, hrg⟩ := ow.rg
    subst hv
    have KH := hid (has_says va vc n r w6 hrg hcn)
    rw [has_or hin HA.out HB.out] at KH
    clear ow hcn hin hrg
    skip
    go_wp2_with fail
    refine KH.out.mono ?_
    rintro e w7 ⟨rfl, tq⟩
    have Tw7 := hid (Tw6.out.trans tq (fun _ _ e => e))
    clear tq KH
    go_wp2_with fail
    refine (and_says sa ta sc tc s t w7 (RS3.out.new Tw7.out) (RT3.out.new Tw7.out) CS.out CT.out HCS.out HCT.out).mono ?_
    rintro e w8 ⟨v, n, rfl, hcn, hin, ow⟩
    have Tw8 := hid (Tw7.out.trans ow.touch (fun _ _ e => e))
    obtain ⟨va, vc, hv, hrg⟩ := ow.rg
    subst hv
    have KH := hid (has_says va vc n r w8 hrg hcn)
    rw [has_and hin HA.out HB.out] at KH
    clear ow hcn hin hrg
    skip
    go_wp2_with fail
    refine KH.out.mono ?_
    rintro e w9 ⟨rfl, tq⟩
    have Tw9 := hid (Tw8.out.trans tq (fun _ _ e => e))
    clear tq KH
    go_wp2_with fail
    refine (not_says sa sc s w9 (RS3.out.new Tw9.out) HCS.out).mono ?_
    rintro e w10 ⟨v, n, rfl, hcn, hin, ow⟩
    have Tw10 := hid (Tw9.out.trans ow.touch (fun _ _ e => e))
    obtain ⟨va, vc, hv, hrg⟩ := ow.rg
    subst hv
    have KH := hid (has_says va vc n r w10 hrg hcn)
    rw [has_not hin HA.out] at KH
    clear ow hcn hin hrg
    rw [HI.out] at KH
    go_wp2_with fail
    refine KH.out.mono ?_
    rintro e w11 ⟨rfl, tq⟩
    have Tw11 := hid (Tw10.out.trans tq (fun _ _ e => e))
    clear tq KH
    go_wp2_with fail
    refine (less_says sa ta sc tc s t w11 (RS3.out.new Tw11.out) (RT3.out.new Tw11.out) CS.out HCS.out HCT.out).mono ?_
    rintro e w12 ⟨v, n, rfl, hcn, hin, ow⟩
    have Tw12 := hid (Tw11.out.trans ow.touch (fun _ _ e => e))
    obtain ⟨va, vc, hv, hrg⟩ := ow.rg
    subst hv
    have KH := hid (has_says va vc n r w12 hrg hcn)
    rw [has_less hin HA.out HB.out] at KH
    clear ow hcn hin hrg
    skip
    go_wp2_with fail
    refine KH.out.mono ?_
    rintro e w13 ⟨rfl, tq⟩
    have Tw13 := hid (Tw12.out.trans tq (fun _ _ e => e))
    clear tq KH
    go_wp2
    go_ret
    exact ⟨rfl, (T3.out.trans Tw13.out (fun _ _ e => e)).below _ (Nat.le_refl _) (fun _ e => e.elim)⟩

set_option maxRecDepth 100000 in
theorem setsEach_contract (H : Type) (enc : TypeId × Value → H) (W : World) (base : Nat) (args : Array Value) (ds gs : List (DataW H)) (before : List MemPlace)
    (hval : ∀ (j : Nat) t v, Try.f5.params[j]? = some t → args[j]? = some v → Value.okWide Try.prog W .any base t v)
    (hW : DataW.Whole enc Try.prog Try.f5.params.toList Rows.setsEachSpec.vars false W args.toList ds gs before) (hk : Rows.uptoSmall H (ds ++ gs) = true) :
    Calls Try.prog 5 args W fun e W' => ∃ v, e = .returned v ∧ Rows.setsEachSpec.post enc Try.prog Try.f5 false true false false W args v W' := by
  have hW' := hW
  obtain ⟨p, q, hA0, hV, rfl, hfz, hnd⟩ := hW
  have hA : DataW.TrodAll enc Try.prog W 0 (fun _ => true) true Try.f5.params.toList args.toList ds p := hA0
  rw [Try.params5] at hA hval
  obtain ⟨v0, vs0, d0, ds0, p0, q0, hargs, rfl, rfl, h0, r0⟩ := trodAll_cons hA
  obtain ⟨v1, vs1, d1, ds1, p1, q1, rfl, rfl, rfl, h1, r1⟩ := trodAll_cons r0
  obtain ⟨v2, vs2, d2, ds2, p2, q2, rfl, rfl, rfl, h2, r2⟩ := trodAll_cons r1
  obtain ⟨rfl, rfl, rfl⟩ := trodAll_nil r2
  obtain rfl : args = #[v0, v1, v2] := by cases args; simp_all
  obtain ⟨rfl, rfl⟩ := trodVars_none hV
  have hb : Rows.uptoBulkAll ([d0, d1, d2] ++ ([] : List (DataW H))) ≤ 1048576 := of_decide_eq_true hk
  simp only [List.append_nil, Rows.uptoBulkAll] at hb
  obtain ⟨a0, len0, cap0, rfl⟩ := okWide_slice Try.underlying22 (hval 0 22 v0 rfl rfl)
  have k0 := h0
  have lt0 : ∀ x ∈ p0, x.block < W.heap.size := by obtain ⟨m, hm⟩ := k0; exact DataW.trod_lt m _ _ _ hm
  obtain ⟨l0, rfl, w0, y0⟩ : ∃ l : List R2, len0 = l.length ∧ Rg W a0 l ∧ l.length ≤ Rows.uptoBulk d0 := by
    rcases open_ranges h0 with ⟨rfl, rfl, rfl, rfl⟩ | ⟨x, q, sp, rfl, hl, hsp, rfl, hcell⟩
    · exact ⟨[], rfl, .inl rfl, Nat.zero_le _⟩
    · refine ⟨(List.range len0).map q, by simp, rg_of hcell, ?_⟩
      rw [Rows.uptoBulk]
      have := bulk_ranges (H := H) q (List.range len0)
      rw [List.length_map]
      omega
  obtain ⟨a1, len1, cap1, rfl⟩ := okWide_slice Try.underlying22 (hval 1 22 v1 rfl rfl)
  have k1 := h1
  have lt1 : ∀ x ∈ p1, x.block < W.heap.size := by obtain ⟨m, hm⟩ := k1; exact DataW.trod_lt m _ _ _ hm
  obtain ⟨l1, rfl, w1, y1⟩ : ∃ l : List R2, len1 = l.length ∧ Rg W a1 l ∧ l.length ≤ Rows.uptoBulk d1 := by
    rcases open_ranges h1 with ⟨rfl, rfl, rfl, rfl⟩ | ⟨x, q, sp, rfl, hl, hsp, rfl, hcell⟩
    · exact ⟨[], rfl, .inl rfl, Nat.zero_le _⟩
    · refine ⟨(List.range len1).map q, by simp, rg_of hcell, ?_⟩
      rw [Rows.uptoBulk]
      have := bulk_ranges (H := H) q (List.range len1)
      rw [List.length_map]
      omega
  obtain ⟨a2, rfl, rfl, rfl, w2⟩ := open_int Try.underlying3 (hval 2 3 v2 rfl rfl) h2
  clear hA0
  refine (setsEach_walk a0 cap0 l0 a1 cap1 l1 a2 W w0 (by omega) w1 (by omega)).mono fun e W' ⟨he, bel⟩ => ?_
  subst he
  exact ⟨_, rfl, _, _, _, [], _, [], hW', trodAll_mk1 (shut_bool Try.underlying4 _), (trodAll_cons_mk (Below.trod laidOut (by kernel_rfl) (of_decide_eq_true (by kernel_rfl)) k0 bel lt0) (trodAll_cons_mk (Below.trod laidOut (by kernel_rfl) (of_decide_eq_true (by kernel_rfl)) k1 bel lt1) (trodAll_cons_mk (shut_int Try.underlying3 w2) trodAll_mk0))), rfl, bel.frame _, fun h => by cases h⟩

set_option maxRecDepth 100000 in
theorem setsEach_lifted (os : Os) (started : os.Started) (H : Type) (enc : TypeId × Value → H) (F : Stop.Interp) :
    ReturnsInHanded {} Try.checked os 5 .any ((Rows.OpenSpec.upto Rows.setsEachSpec).pre6 enc Try.prog Try.f5 Rows.setsEachUptoRow.domain false) (((Rows.OpenSpec.upto Rows.setsEachSpec).at F).post enc Try.prog Try.f5 false true false false) := by
  refine returnsInHanded_of_cond (C := Try.checked) (s := Rows.OpenSpec.upto Rows.setsEachSpec) (k := Rows.uptoSmall) rfl own started (by kernel_rfl) Try.func5
    (OpenSpec.witness (enc := enc) (C := Try.checked) (s := Rows.OpenSpec.upto Rows.setsEachSpec) (k := Rows.uptoSmall) rfl false ⟨#[], #[.slice none 0 0, .slice none 0 0, .int .i64 0], []⟩ 8 (by kernel_rfl) (by kernel_rfl) (by kernel_rfl)
      (x := ([.nil, .nil, .lit (.int .i64 0)], [], [])) (by kernel_rfl) rfl (by kernel_rfl)) ?_
  intro W base args ds gs before hval hW _ hk _
  exact setsEach_contract H enc W base args ds gs before hval hW hk

theorem setsEach_holds : Rows.SetsEachUptoSaid :=
  OpenClaim.holds_of_cond 5 Try.f5 rfl rfl rfl rfl rfl rfl rfl ⟨rfl, rfl, rfl, rfl, rfl⟩ rfl rfl rfl rfl rfl (by kernel_rfl) Try.func5 (by kernel_rfl)
    (of_decide_eq_true (by kernel_rfl)) (by unfold Func.isWrapper; first | (rw [if_pos (by decide +kernel)]; kernel_rfl) | (rw [if_neg (by decide +kernel)]; exact ⟨rfl, rfl⟩))
    (fun os started H enc _ F => setsEach_lifted os started H enc F)
#print axioms setsEach_holds

end Go.Proofs.Ytpjnnbegimaaeab
