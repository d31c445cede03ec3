/- SetsLaws, for all inputs of at most 1048576 values together: what holds of any three sets. -/
import Derived.Test.YtpjnnbegimaaeabM2
import Derived.Test.YtpjnnbegimaaeabM3
import Derived.Test.YtpjnnbegimaaeabM5
namespace Go.Proofs.Ytpjnnbegimaaeab
open Go.ChangeShapes Go.WideShapes Go.ChangeAt Go.RowKit

theorem in_rng {s : List R2} (h : Canon s) {x : Int} (hx : In x s) : 0 ≤ x ∧ x ≤ 1114111 := by
  obtain ⟨q, hq, h1, h2⟩ := hx
  have := h.in_ q hq
  unfold inB at this
  omega
theorem size_last {p q r s : Int} (h1 : 0 ≤ q ∧ q ≤ 1114112) (h2 : 0 ≤ r ∧ r ≤ 1114112) (h4 : 0 ≤ s ∧ s ≤ 1114112) (h : p = q + r - s) : (p == wrap64 (wrap64 (q + r) - s)) = true := by
  rw [IntWalk.wrap64_in (q + r) (by omega), IntWalk.wrap64_in _ (by omega), beq_iff_eq]
  exact h
theorem law1 {A B : Prop} : (A ∨ B) ↔ (B ∨ A) := by by_cases a : A <;> by_cases b : B <;> simp [a, b]
theorem law2 {A B : Prop} : (A ∧ B) ↔ (B ∧ A) := by by_cases a : A <;> by_cases b : B <;> simp [a, b]
theorem law3 {A B C : Prop} : (A ∨ (B ∨ C)) ↔ ((A ∨ B) ∨ C) := by by_cases a : A <;> by_cases b : B <;> by_cases c : C <;> simp [a, b, c]
theorem law4 {A B C : Prop} : (A ∧ (B ∨ C)) ↔ ((A ∧ B) ∨ (A ∧ C)) := by by_cases a : A <;> by_cases b : B <;> by_cases c : C <;> simp [a, b, c]
theorem law5 {R A : Prop} (h : A → R) : A ↔ (R ∧ ¬ (R ∧ ¬ A)) := by by_cases a : A <;> by_cases r : R <;> simp [a, r] <;> exact absurd (h a) r
theorem law6 {R A B : Prop} : (R ∧ ¬ (A ∨ B)) ↔ ((R ∧ ¬ A) ∧ (R ∧ ¬ B)) := by by_cases a : A <;> by_cases r : R <;> by_cases b : B <;> simp [a, r, b]
theorem law7 {A : Prop} : A ↔ (A ∨ A) := by by_cases a : A <;> simp [a]
theorem law8 {A B : Prop} : A ↔ ((A ∧ ¬ B) ∨ (A ∧ B)) := by by_cases a : A <;> by_cases b : B <;> simp [a, b]

set_option maxRecDepth 100000 in
set_option maxHeartbeats 16000000 in
theorem setsLaws_walk (a1 : Option Addr) (c1 : Nat) (l : List R2) (a2 : Option Addr) (c2 : Nat) (m : List R2) (a3 : Option Addr) (c3 : Nat) (k : List R2) (w : World) (hl : Rg w a1 l) (hb : l.length ≤ 1048576) (hm : Rg w a2 m) (hb2 : m.length ≤ 1048576) (hk : Rg w a3 k) (hb3 : k.length ≤ 1048576) :
    Calls Try.prog 7 #[.slice a1 l.length c1, .slice a2 m.length c2, .slice a3 k.length c3] w fun e w' => e = .returned (.bool true) ∧ Below w.heap.size w w' := by
  have HL := hid hl
  have HM := hid hm
  have HK := hid hk
  clear hl hm hk
  go_enter Try.func7, Try.ntmps7
  go_wp2_with fail
  refine (speaks_yes w).mono ?_
  rintro e w1 ⟨rfl, tc⟩
  have T := hid tc
  clear tc
  have K := hid (made_any a1 c1 l w1 (HL.out.new T.out) (by omega))
  go_wp2_with fail
  refine K.out.mono ?_
  rintro e w2 ⟨v, v2, a, rfl, hcn, hin, ow, ow2⟩
  obtain ⟨a_a, c_a, hv, hrg⟩ := ow.rg
  subst hv
  have CP_a := hid ow.cap
  obtain ⟨y_a, z_a, hv2⟩ := own_shape ow2.own
  subst hv2
  have C_a := hid hcn
  replace T := hid (T.out.trans ow.touch (fun _ _ e => e))
  have R_a := hid hrg
  clear ow ow2 hcn hin hrg K
  have K := hid (made_any a2 c2 m w2 (HM.out.new T.out) (by omega))
  go_wp2_with fail
  refine K.out.mono ?_
  rintro e w3 ⟨v, v2, b, rfl, hcn, hin, ow, ow2⟩
  obtain ⟨a_b, c_b, hv, hrg⟩ := ow.rg
  subst hv
  have CP_b := hid ow.cap
  obtain ⟨y_b, z_b, hv2⟩ := own_shape ow2.own
  subst hv2
  have C_b := hid hcn
  replace R_a := hid (R_a.out.new ow.touch)
  replace T := hid (T.out.trans ow.touch (fun _ _ e => e))
  have R_b := hid hrg
  clear ow ow2 hcn hin hrg K
  have K := hid (made_any a3 c3 k w3 (HK.out.new T.out) (by omega))
  go_wp2_with fail
  refine K.out.mono ?_
  rintro e w4 ⟨v, v2, c, rfl, hcn, hin, ow, ow2⟩
  obtain ⟨a_c, c_c, hv, hrg⟩ := ow.rg
  subst hv
  have CP_c := hid ow.cap
  obtain ⟨y_c, z_c, hv2⟩ := own_shape ow2.own
  subst hv2
  have C_c := hid hcn
  replace R_a := hid (R_a.out.new ow.touch)
  replace R_b := hid (R_b.out.new ow.touch)
  replace T := hid (T.out.trans ow.touch (fun _ _ e => e))
  have R_c := hid hrg
  clear ow ow2 hcn hin hrg K
  go_wp2_with fail
  refine (or_says a_a a_b c_a c_b a b w4 R_a.out R_b.out C_a.out C_b.out).mono ?_
  rintro e w5 ⟨v, n1, rfl, hcn, hin, ow⟩
  obtain ⟨a_n1, c_n1, hv, hrg⟩ := ow.rg
  subst hv
  have CP_n1 := hid ow.cap
  have C_n1 := hid hcn
  have I_n1 := hid (show ∀ x, In x n1 ↔ (In x a ∨ In x b) from fun x => by rw [hin x])
  replace R_a := hid (R_a.out.new ow.touch)
  replace R_b := hid (R_b.out.new ow.touch)
  replace R_c := hid (R_c.out.new ow.touch)
  replace T := hid (T.out.trans ow.touch (fun _ _ e => e))
  have R_n1 := hid hrg
  clear ow hcn hin hrg
  go_wp2_with fail
  refine (or_says a_b a_a c_b c_a b a w5 R_b.out R_a.out C_b.out C_a.out).mono ?_
  rintro e w6 ⟨v, n2, rfl, hcn, hin, ow⟩
  obtain ⟨a_n2, c_n2, hv, hrg⟩ := ow.rg
  subst hv
  have CP_n2 := hid ow.cap
  have C_n2 := hid hcn
  have I_n2 := hid (show ∀ x, In x n2 ↔ (In x b ∨ In x a) from fun x => by rw [hin x])
  replace R_a := hid (R_a.out.new ow.touch)
  replace R_b := hid (R_b.out.new ow.touch)
  replace R_c := hid (R_c.out.new ow.touch)
  replace R_n1 := hid (R_n1.out.new ow.touch)
  replace T := hid (T.out.trans ow.touch (fun _ _ e => e))
  have R_n2 := hid hrg
  clear ow hcn hin hrg
  obtain rfl : n1 = n2 := canon_one C_n1.out C_n2.out (fun x => by rw [I_n1.out x, I_n2.out x]; exact law1)
  have hbk := canon_len C_n1.out
  have K := hid (same_yes a_n1 a_n2 c_n1 c_n2 n1 w6 R_n1.out R_n2.out (by omega))
  clear hbk
  go_wp2_with fail
  refine K.out.mono ?_
  rintro e w7 ⟨rfl, tq⟩
  replace R_a := hid (R_a.out.new tq)
  replace R_b := hid (R_b.out.new tq)
  replace R_c := hid (R_c.out.new tq)
  replace R_n1 := hid (R_n1.out.new tq)
  replace R_n2 := hid (R_n2.out.new tq)
  replace T := hid (T.out.trans tq (fun _ _ e => e))
  clear tq K
  clear I_n1 C_n1 CP_n1 R_n1 I_n2 C_n2 CP_n2 R_n2
  go_wp2_with fail
  refine (and_says a_a a_b c_a c_b a b w7 R_a.out R_b.out CP_a.out CP_b.out C_a.out C_b.out).mono ?_
  rintro e w8 ⟨v, n1, rfl, hcn, hin, ow⟩
  obtain ⟨a_n1, c_n1, hv, hrg⟩ := ow.rg
  subst hv
  have CP_n1 := hid ow.cap
  have C_n1 := hid hcn
  have I_n1 := hid (show ∀ x, In x n1 ↔ (In x a ∧ In x b) from fun x => by rw [hin x])
  replace R_a := hid (R_a.out.new ow.touch)
  replace R_b := hid (R_b.out.new ow.touch)
  replace R_c := hid (R_c.out.new ow.touch)
  replace T := hid (T.out.trans ow.touch (fun _ _ e => e))
  have R_n1 := hid hrg
  clear ow hcn hin hrg
  go_wp2_with fail
  refine (and_says a_b a_a c_b c_a b a w8 R_b.out R_a.out CP_b.out CP_a.out C_b.out C_a.out).mono ?_
  rintro e w9 ⟨v, n2, rfl, hcn, hin, ow⟩
  obtain ⟨a_n2, c_n2, hv, hrg⟩ := ow.rg
  subst hv
  have CP_n2 := hid ow.cap
  have C_n2 := hid hcn
  have I_n2 := hid (show ∀ x, In x n2 ↔ (In x b ∧ In x a) from fun x => by rw [hin x])
  replace R_a := hid (R_a.out.new ow.touch)
  replace R_b := hid (R_b.out.new ow.touch)
  replace R_c := hid (R_c.out.new ow.touch)
  replace R_n1 := hid (R_n1.out.new ow.touch)
  replace T := hid (T.out.trans ow.touch (fun _ _ e => e))
  have R_n2 := hid hrg
  clear ow hcn hin hrg
  obtain rfl : n1 = n2 := canon_one C_n1.out C_n2.out (fun x => by rw [I_n1.out x, I_n2.out x]; exact law2)
  have hbk := canon_len C_n1.out
  have K := hid (same_yes a_n1 a_n2 c_n1 c_n2 n1 w9 R_n1.out R_n2.out (by omega))
  clear hbk
  go_wp2_with fail
  refine K.out.mono ?_
  rintro e w10 ⟨rfl, tq⟩
  replace R_a := hid (R_a.out.new tq)
  replace R_b := hid (R_b.out.new tq)
  replace R_c := hid (R_c.out.new tq)
  replace R_n1 := hid (R_n1.out.new tq)
  replace R_n2 := hid (R_n2.out.new tq)
  replace T := hid (T.out.trans tq (fun _ _ e => e))
  clear tq K
  clear I_n1 C_n1 CP_n1 R_n1 I_n2 C_n2 CP_n2 R_n2
  go_wp2_with fail
  refine (or_says a_b a_c c_b c_c b c w10 R_b.out R_c.out C_b.out C_c.out).mono ?_
  rintro e w11 ⟨v, n1, rfl, hcn, hin, ow⟩
  obtain ⟨a_n1, c_n1, hv, hrg⟩ := ow.rg
  subst hv
  have CP_n1 := hid ow.cap
  have C_n1 := hid hcn
  have I_n1 := hid (show ∀ x, In x n1 ↔ (In x b ∨ In x c) from fun x => by rw [hin x])
  replace R_a := hid (R_a.out.new ow.touch)
  replace R_b := hid (R_b.out.new ow.touch)
  replace R_c := hid (R_c.out.new ow.touch)
  replace T := hid (T.out.trans ow.touch (fun _ _ e => e))
  have R_n1 := hid hrg
  clear ow hcn hin hrg
  go_wp2_with fail
  refine (or_says a_a a_n1 c_a c_n1 a n1 w11 R_a.out R_n1.out C_a.out C_n1.out).mono ?_
  rintro e w12 ⟨v, n2, rfl, hcn, hin, ow⟩
  obtain ⟨a_n2, c_n2, hv, hrg⟩ := ow.rg
  subst hv
  have CP_n2 := hid ow.cap
  have C_n2 := hid hcn
  have I_n2 := hid (show ∀ x, In x n2 ↔ (In x a ∨ (In x b ∨ In x c)) from fun x => by rw [hin x, I_n1.out x])
  replace R_a := hid (R_a.out.new ow.touch)
  replace R_b := hid (R_b.out.new ow.touch)
  replace R_c := hid (R_c.out.new ow.touch)
  replace R_n1 := hid (R_n1.out.new ow.touch)
  replace T := hid (T.out.trans ow.touch (fun _ _ e => e))
  have R_n2 := hid hrg
  clear ow hcn hin hrg
  go_wp2_with fail
  refine (or_says a_a a_b c_a c_b a b w12 R_a.out R_b.out C_a.out C_b.out).mono ?_
  rintro e w13 ⟨v, n3, rfl, hcn, hin, ow⟩
  obtain ⟨a_n3, c_n3, hv, hrg⟩ := ow.rg
  subst hv
  have CP_n3 := hid ow.cap
  have C_n3 := hid hcn
  have I_n3 := hid (show ∀ x, In x n3 ↔ (In x a ∨ In x b) from fun x => by rw [hin x])
  replace R_a := hid (R_a.out.new ow.touch)
  replace R_b := hid (R_b.out.new ow.touch)
  replace R_c := hid (R_c.out.new ow.touch)
  replace R_n1 := hid (R_n1.out.new ow.touch)
  replace R_n2 := hid (R_n2.out.new ow.touch)
  replace T := hid (T.out.trans ow.touch (fun _ _ e => e))
  have R_n3 := hid hrg
  clear ow hcn hin hrg
  go_wp2_with fail
  refine (or_says a_n3 a_c c_n3 c_c n3 c w13 R_n3.out R_c.out C_n3.out C_c.out).mono ?_
  rintro e w14 ⟨v, n4, rfl, hcn, hin, ow⟩
  obtain ⟨a_n4, c_n4, hv, hrg⟩ := ow.rg
  subst hv
  have CP_n4 := hid ow.cap
  have C_n4 := hid hcn
  have I_n4 := hid (show ∀ x, In x n4 ↔ ((In x a ∨ In x b) ∨ In x c) from fun x => by rw [hin x, I_n3.out x])
  replace R_a := hid (R_a.out.new ow.touch)
  replace R_b := hid (R_b.out.new ow.touch)
  replace R_c := hid (R_c.out.new ow.touch)
  replace R_n1 := hid (R_n1.out.new ow.touch)
  replace R_n2 := hid (R_n2.out.new ow.touch)
  replace R_n3 := hid (R_n3.out.new ow.touch)
  replace T := hid (T.out.trans ow.touch (fun _ _ e => e))
  have R_n4 := hid hrg
  clear ow hcn hin hrg
  obtain rfl : n2 = n4 := canon_one C_n2.out C_n4.out (fun x => by rw [I_n2.out x, I_n4.out x]; exact law3)
  have hbk := canon_len C_n2.out
  have K := hid (same_yes a_n2 a_n4 c_n2 c_n4 n2 w14 R_n2.out R_n4.out (by omega))
  clear hbk
  go_wp2_with fail
  refine K.out.mono ?_
  rintro e w15 ⟨rfl, tq⟩
  replace R_a := hid (R_a.out.new tq)
  replace R_b := hid (R_b.out.new tq)
  replace R_c := hid (R_c.out.new tq)
  replace R_n1 := hid (R_n1.out.new tq)
  replace R_n2 := hid (R_n2.out.new tq)
  replace R_n3 := hid (R_n3.out.new tq)
  replace R_n4 := hid (R_n4.out.new tq)
  replace T := hid (T.out.trans tq (fun _ _ e => e))
  clear tq K
  clear I_n1 C_n1 CP_n1 R_n1 I_n2 C_n2 CP_n2 R_n2 I_n3 C_n3 CP_n3 R_n3 I_n4 C_n4 CP_n4 R_n4
  go_wp2_with fail
  refine (or_says a_b a_c c_b c_c b c w15 R_b.out R_c.out C_b.out C_c.out).mono ?_
  rintro e w16 ⟨v, n1, rfl, hcn, hin, ow⟩
  obtain ⟨a_n1, c_n1, hv, hrg⟩ := ow.rg
  subst hv
  have CP_n1 := hid ow.cap
  have C_n1 := hid hcn
  have I_n1 := hid (show ∀ x, In x n1 ↔ (In x b ∨ In x c) from fun x => by rw [hin x])
  replace R_a := hid (R_a.out.new ow.touch)
  replace R_b := hid (R_b.out.new ow.touch)
  replace R_c := hid (R_c.out.new ow.touch)
  replace T := hid (T.out.trans ow.touch (fun _ _ e => e))
  have R_n1 := hid hrg
  clear ow hcn hin hrg
  go_wp2_with fail
  refine (and_says a_a a_n1 c_a c_n1 a n1 w16 R_a.out R_n1.out CP_a.out CP_n1.out C_a.out C_n1.out).mono ?_
  rintro e w17 ⟨v, n2, rfl, hcn, hin, ow⟩
  obtain ⟨a_n2, c_n2, hv, hrg⟩ := ow.rg
  subst hv
  have CP_n2 := hid ow.cap
  have C_n2 := hid hcn
  have I_n2 := hid (show ∀ x, In x n2 ↔ (In x a ∧ (In x b ∨ In x c)) from fun x => by rw [hin x, I_n1.out x])
  replace R_a := hid (R_a.out.new ow.touch)
  replace R_b := hid (R_b.out.new ow.touch)
  replace R_c := hid (R_c.out.new ow.touch)
  replace R_n1 := hid (R_n1.out.new ow.touch)
  replace T := hid (T.out.trans ow.touch (fun _ _ e => e))
  have R_n2 := hid hrg
  clear ow hcn hin hrg
  go_wp2_with fail
  refine (and_says a_a a_b c_a c_b a b w17 R_a.out R_b.out CP_a.out CP_b.out C_a.out C_b.out).mono ?_
  rintro e w18 ⟨v, n3, rfl, hcn, hin, ow⟩
  obtain ⟨a_n3, c_n3, hv, hrg⟩ := ow.rg
  subst hv
  have CP_n3 := hid ow.cap
  have C_n3 := hid hcn
  have I_n3 := hid (show ∀ x, In x n3 ↔ (In x a ∧ In x b) from fun x => by rw [hin x])
  replace R_a := hid (R_a.out.new ow.touch)
  replace R_b := hid (R_b.out.new ow.touch)
  replace R_c := hid (R_c.out.new ow.touch)
  replace R_n1 := hid (R_n1.out.new ow.touch)
  replace R_n2 := hid (R_n2.out.new ow.touch)
  replace T := hid (T.out.trans ow.touch (fun _ _ e => e))
  have R_n3 := hid hrg
  clear ow hcn hin hrg
  go_wp2_with fail
  refine (and_says a_a a_c c_a c_c a c w18 R_a.out R_c.out CP_a.out CP_c.out C_a.out C_c.out).mono ?_
  rintro e w19 ⟨v, n4, rfl, hcn, hin, ow⟩
  obtain ⟨a_n4, c_n4, hv, hrg⟩ := ow.rg
  subst hv
  have CP_n4 := hid ow.cap
  have C_n4 := hid hcn
  have I_n4 := hid (show ∀ x, In x n4 ↔ (In x a ∧ In x c) from fun x => by rw [hin x])
  replace R_a := hid (R_a.out.new ow.touch)
  replace R_b := hid (R_b.out.new ow.touch)
  replace R_c := hid (R_c.out.new ow.touch)
  replace R_n1 := hid (R_n1.out.new ow.touch)
  replace R_n2 := hid (R_n2.out.new ow.touch)
  replace R_n3 := hid (R_n3.out.new ow.touch)
  replace T := hid (T.out.trans ow.touch (fun _ _ e => e))
  have R_n4 := hid hrg
  clear ow hcn hin hrg
  go_wp2_with fail
  refine (or_says a_n3 a_n4 c_n3 c_n4 n3 n4 w19 R_n3.out R_n4.out C_n3.out C_n4.out).mono ?_
  rintro e w20 ⟨v, n5, rfl, hcn, hin, ow⟩
  obtain ⟨a_n5, c_n5, hv, hrg⟩ := ow.rg
  subst hv
  have CP_n5 := hid ow.cap
  have C_n5 := hid hcn
  have I_n5 := hid (show ∀ x, In x n5 ↔ ((In x a ∧ In x b) ∨ (In x a ∧ In x c)) from fun x => by rw [hin x, I_n3.out x, I_n4.out x])
  replace R_a := hid (R_a.out.new ow.touch)
  replace R_b := hid (R_b.out.new ow.touch)
  replace R_c := hid (R_c.out.new ow.touch)
  replace R_n1 := hid (R_n1.out.new ow.touch)
  replace R_n2 := hid (R_n2.out.new ow.touch)
  replace R_n3 := hid (R_n3.out.new ow.touch)
  replace R_n4 := hid (R_n4.out.new ow.touch)
  replace T := hid (T.out.trans ow.touch (fun _ _ e => e))
  have R_n5 := hid hrg
  clear ow hcn hin hrg
  obtain rfl : n2 = n5 := canon_one C_n2.out C_n5.out (fun x => by rw [I_n2.out x, I_n5.out x]; exact law4)
  have hbk := canon_len C_n2.out
  have K := hid (same_yes a_n2 a_n5 c_n2 c_n5 n2 w20 R_n2.out R_n5.out (by omega))
  clear hbk
  go_wp2_with fail
  refine K.out.mono ?_
  rintro e w21 ⟨rfl, tq⟩
  replace R_a := hid (R_a.out.new tq)
  replace R_b := hid (R_b.out.new tq)
  replace R_c := hid (R_c.out.new tq)
  replace R_n1 := hid (R_n1.out.new tq)
  replace R_n2 := hid (R_n2.out.new tq)
  replace R_n3 := hid (R_n3.out.new tq)
  replace R_n4 := hid (R_n4.out.new tq)
  replace R_n5 := hid (R_n5.out.new tq)
  replace T := hid (T.out.trans tq (fun _ _ e => e))
  clear tq K
  clear I_n1 C_n1 CP_n1 R_n1 I_n2 C_n2 CP_n2 R_n2 I_n3 C_n3 CP_n3 R_n3 I_n4 C_n4 CP_n4 R_n4 I_n5 C_n5 CP_n5 R_n5
  go_wp2_with fail
  refine (not_says a_a c_a a w21 R_a.out C_a.out).mono ?_
  rintro e w22 ⟨v, n1, rfl, hcn, hin, ow⟩
  obtain ⟨a_n1, c_n1, hv, hrg⟩ := ow.rg
  subst hv
  have CP_n1 := hid ow.cap
  have C_n1 := hid hcn
  have I_n1 := hid (show ∀ x, In x n1 ↔ ((0 ≤ x ∧ x ≤ 1114111) ∧ ¬ In x a) from fun x => by rw [hin x])
  replace R_a := hid (R_a.out.new ow.touch)
  replace R_b := hid (R_b.out.new ow.touch)
  replace R_c := hid (R_c.out.new ow.touch)
  replace T := hid (T.out.trans ow.touch (fun _ _ e => e))
  have R_n1 := hid hrg
  clear ow hcn hin hrg
  go_wp2_with fail
  refine (not_says a_n1 c_n1 n1 w22 R_n1.out C_n1.out).mono ?_
  rintro e w23 ⟨v, n2, rfl, hcn, hin, ow⟩
  obtain ⟨a_n2, c_n2, hv, hrg⟩ := ow.rg
  subst hv
  have CP_n2 := hid ow.cap
  have C_n2 := hid hcn
  have I_n2 := hid (show ∀ x, In x n2 ↔ ((0 ≤ x ∧ x ≤ 1114111) ∧ ¬ ((0 ≤ x ∧ x ≤ 1114111) ∧ ¬ In x a)) from fun x => by rw [hin x, I_n1.out x])
  replace R_a := hid (R_a.out.new ow.touch)
  replace R_b := hid (R_b.out.new ow.touch)
  replace R_c := hid (R_c.out.new ow.touch)
  replace R_n1 := hid (R_n1.out.new ow.touch)
  replace T := hid (T.out.trans ow.touch (fun _ _ e => e))
  have R_n2 := hid hrg
  clear ow hcn hin hrg
  obtain rfl : a = n2 := canon_one C_a.out C_n2.out (fun x => by rw [I_n2.out x]; exact (law5 (in_rng C_a.out)))
  have hbk := canon_len C_a.out
  have K := hid (same_yes a_n2 a_a c_n2 c_a a w23 R_n2.out R_a.out (by omega))
  clear hbk
  go_wp2_with fail
  refine K.out.mono ?_
  rintro e w24 ⟨rfl, tq⟩
  replace R_a := hid (R_a.out.new tq)
  replace R_b := hid (R_b.out.new tq)
  replace R_c := hid (R_c.out.new tq)
  replace R_n1 := hid (R_n1.out.new tq)
  replace R_n2 := hid (R_n2.out.new tq)
  replace T := hid (T.out.trans tq (fun _ _ e => e))
  clear tq K
  clear I_n1 C_n1 CP_n1 R_n1 I_n2 C_n2 CP_n2 R_n2
  go_wp2_with fail
  refine (or_says a_a a_b c_a c_b a b w24 R_a.out R_b.out C_a.out C_b.out).mono ?_
  rintro e w25 ⟨v, n1, rfl, hcn, hin, ow⟩
  obtain ⟨a_n1, c_n1, hv, hrg⟩ := ow.rg
  subst hv
  have CP_n1 := hid ow.cap
  have C_n1 := hid hcn
  have I_n1 := hid (show ∀ x, In x n1 ↔ (In x a ∨ In x b) from fun x => by rw [hin x])
  replace R_a := hid (R_a.out.new ow.touch)
  replace R_b := hid (R_b.out.new ow.touch)
  replace R_c := hid (R_c.out.new ow.touch)
  replace T := hid (T.out.trans ow.touch (fun _ _ e => e))
  have R_n1 := hid hrg
  clear ow hcn hin hrg
  go_wp2_with fail
  refine (not_says a_n1 c_n1 n1 w25 R_n1.out C_n1.out).mono ?_
  rintro e w26 ⟨v, n2, rfl, hcn, hin, ow⟩
  obtain ⟨a_n2, c_n2, hv, hrg⟩ := ow.rg
  subst hv
  have CP_n2 := hid ow.cap
  have C_n2 := hid hcn
  have I_n2 := hid (show ∀ x, In x n2 ↔ ((0 ≤ x ∧ x ≤ 1114111) ∧ ¬ (In x a ∨ In x b)) from fun x => by rw [hin x, I_n1.out x])
  replace R_a := hid (R_a.out.new ow.touch)
  replace R_b := hid (R_b.out.new ow.touch)
  replace R_c := hid (R_c.out.new ow.touch)
  replace R_n1 := hid (R_n1.out.new ow.touch)
  replace T := hid (T.out.trans ow.touch (fun _ _ e => e))
  have R_n2 := hid hrg
  clear ow hcn hin hrg
  go_wp2_with fail
  refine (not_says a_a c_a a w26 R_a.out C_a.out).mono ?_
  rintro e w27 ⟨v, n3, rfl, hcn, hin, ow⟩
  obtain ⟨a_n3, c_n3, hv, hrg⟩ := ow.rg
  subst hv
  have CP_n3 := hid ow.cap
  have C_n3 := hid hcn
  have I_n3 := hid (show ∀ x, In x n3 ↔ ((0 ≤ x ∧ x ≤ 1114111) ∧ ¬ In x a) from fun x => by rw [hin x])
  replace R_a := hid (R_a.out.new ow.touch)
  replace R_b := hid (R_b.out.new ow.touch)
  replace R_c := hid (R_c.out.new ow.touch)
  replace R_n1 := hid (R_n1.out.new ow.touch)
  replace R_n2 := hid (R_n2.out.new ow.touch)
  replace T := hid (T.out.trans ow.touch (fun _ _ e => e))
  have R_n3 := hid hrg
  clear ow hcn hin hrg
  go_wp2_with fail
  refine (not_says a_b c_b b w27 R_b.out C_b.out).mono ?_
  rintro e w28 ⟨v, n4, rfl, hcn, hin, ow⟩
  obtain ⟨a_n4, c_n4, hv, hrg⟩ := ow.rg
  subst hv
  have CP_n4 := hid ow.cap
  have C_n4 := hid hcn
  have I_n4 := hid (show ∀ x, In x n4 ↔ ((0 ≤ x ∧ x ≤ 1114111) ∧ ¬ In x b) from fun x => by rw [hin x])
  replace R_a := hid (R_a.out.new ow.touch)
  replace R_b := hid (R_b.out.new ow.touch)
  replace R_c := hid (R_c.out.new ow.touch)
  replace R_n1 := hid (R_n1.out.new ow.touch)
  replace R_n2 := hid (R_n2.out.new ow.touch)
  replace R_n3 := hid (R_n3.out.new ow.touch)
  replace T := hid (T.out.trans ow.touch (fun _ _ e => e))
  have R_n4 := hid hrg
  clear ow hcn hin hrg
  go_wp2_with fail
  refine (and_says a_n3 a_n4 c_n3 c_n4 n3 n4 w28 R_n3.out R_n4.out CP_n3.out CP_n4.out C_n3.out C_n4.out).mono ?_
  rintro e w29 ⟨v, n5, rfl, hcn, hin, ow⟩
  obtain ⟨a_n5, c_n5, hv, hrg⟩ := ow.rg
  subst hv
  have CP_n5 := hid ow.cap
  have C_n5 := hid hcn
  have I_n5 := hid (show ∀ x, In x n5 ↔ (((0 ≤ x ∧ x ≤ 1114111) ∧ ¬ In x a) ∧ ((0 ≤ x ∧ x ≤ 1114111) ∧ ¬ In x b)) from fun x => by rw [hin x, I_n3.out x, I_n4.out x])
  replace R_a := hid (R_a.out.new ow.touch)
  replace R_b := hid (R_b.out.new ow.touch)
  replace R_c := hid (R_c.out.new ow.touch)
  replace R_n1 := hid (R_n1.out.new ow.touch)
  replace R_n2 := hid (R_n2.out.new ow.touch)
  replace R_n3 := hid (R_n3.out.new ow.touch)
  replace R_n4 := hid (R_n4.out.new ow.touch)
  replace T := hid (T.out.trans ow.touch (fun _ _ e => e))
  have R_n5 := hid hrg
  clear ow hcn hin hrg
  obtain rfl : n2 = n5 := canon_one C_n2.out C_n5.out (fun x => by rw [I_n2.out x, I_n5.out x]; exact law6)
  have hbk := canon_len C_n2.out
  have K := hid (same_yes a_n2 a_n5 c_n2 c_n5 n2 w29 R_n2.out R_n5.out (by omega))
  clear hbk
  go_wp2_with fail
  refine K.out.mono ?_
  rintro e w30 ⟨rfl, tq⟩
  replace R_a := hid (R_a.out.new tq)
  replace R_b := hid (R_b.out.new tq)
  replace R_c := hid (R_c.out.new tq)
  replace R_n1 := hid (R_n1.out.new tq)
  replace R_n2 := hid (R_n2.out.new tq)
  replace R_n3 := hid (R_n3.out.new tq)
  replace R_n4 := hid (R_n4.out.new tq)
  replace R_n5 := hid (R_n5.out.new tq)
  replace T := hid (T.out.trans tq (fun _ _ e => e))
  clear tq K
  clear I_n1 C_n1 CP_n1 R_n1 I_n2 C_n2 CP_n2 R_n2 I_n3 C_n3 CP_n3 R_n3 I_n4 C_n4 CP_n4 R_n4 I_n5 C_n5 CP_n5 R_n5
  go_wp2_with fail
  refine (or_says a_a a_a c_a c_a a a w30 R_a.out R_a.out C_a.out C_a.out).mono ?_
  rintro e w31 ⟨v, n1, rfl, hcn, hin, ow⟩
  obtain ⟨a_n1, c_n1, hv, hrg⟩ := ow.rg
  subst hv
  have CP_n1 := hid ow.cap
  have C_n1 := hid hcn
  have I_n1 := hid (show ∀ x, In x n1 ↔ (In x a ∨ In x a) from fun x => by rw [hin x])
  replace R_a := hid (R_a.out.new ow.touch)
  replace R_b := hid (R_b.out.new ow.touch)
  replace R_c := hid (R_c.out.new ow.touch)
  replace T := hid (T.out.trans ow.touch (fun _ _ e => e))
  have R_n1 := hid hrg
  clear ow hcn hin hrg
  obtain rfl : a = n1 := canon_one C_a.out C_n1.out (fun x => by rw [I_n1.out x]; exact law7)
  have hbk := canon_len C_a.out
  have K := hid (same_yes a_n1 a_a c_n1 c_a a w31 R_n1.out R_a.out (by omega))
  clear hbk
  go_wp2_with fail
  refine K.out.mono ?_
  rintro e w32 ⟨rfl, tq⟩
  replace R_a := hid (R_a.out.new tq)
  replace R_b := hid (R_b.out.new tq)
  replace R_c := hid (R_c.out.new tq)
  replace R_n1 := hid (R_n1.out.new tq)
  replace T := hid (T.out.trans tq (fun _ _ e => e))
  clear tq K
  clear I_n1 C_n1 CP_n1 R_n1
  go_wp2_with fail
  refine (less_says a_a a_b c_a c_b a b w32 R_a.out R_b.out CP_a.out C_a.out C_b.out).mono ?_
  rintro e w33 ⟨v, n1, rfl, hcn, hin, ow⟩
  obtain ⟨a_n1, c_n1, hv, hrg⟩ := ow.rg
  subst hv
  have CP_n1 := hid ow.cap
  have C_n1 := hid hcn
  have I_n1 := hid (show ∀ x, In x n1 ↔ (In x a ∧ ¬ In x b) from fun x => by rw [hin x])
  replace R_a := hid (R_a.out.new ow.touch)
  replace R_b := hid (R_b.out.new ow.touch)
  replace R_c := hid (R_c.out.new ow.touch)
  replace T := hid (T.out.trans ow.touch (fun _ _ e => e))
  have R_n1 := hid hrg
  clear ow hcn hin hrg
  go_wp2_with fail
  refine (and_says a_a a_b c_a c_b a b w33 R_a.out R_b.out CP_a.out CP_b.out C_a.out C_b.out).mono ?_
  rintro e w34 ⟨v, n2, rfl, hcn, hin, ow⟩
  obtain ⟨a_n2, c_n2, hv, hrg⟩ := ow.rg
  subst hv
  have CP_n2 := hid ow.cap
  have C_n2 := hid hcn
  have I_n2 := hid (show ∀ x, In x n2 ↔ (In x a ∧ In x b) from fun x => by rw [hin x])
  replace R_a := hid (R_a.out.new ow.touch)
  replace R_b := hid (R_b.out.new ow.touch)
  replace R_c := hid (R_c.out.new ow.touch)
  replace R_n1 := hid (R_n1.out.new ow.touch)
  replace T := hid (T.out.trans ow.touch (fun _ _ e => e))
  have R_n2 := hid hrg
  clear ow hcn hin hrg
  go_wp2_with fail
  refine (or_says a_n1 a_n2 c_n1 c_n2 n1 n2 w34 R_n1.out R_n2.out C_n1.out C_n2.out).mono ?_
  rintro e w35 ⟨v, n3, rfl, hcn, hin, ow⟩
  obtain ⟨a_n3, c_n3, hv, hrg⟩ := ow.rg
  subst hv
  have CP_n3 := hid ow.cap
  have C_n3 := hid hcn
  have I_n3 := hid (show ∀ x, In x n3 ↔ ((In x a ∧ ¬ In x b) ∨ (In x a ∧ In x b)) from fun x => by rw [hin x, I_n1.out x, I_n2.out x])
  replace R_a := hid (R_a.out.new ow.touch)
  replace R_b := hid (R_b.out.new ow.touch)
  replace R_c := hid (R_c.out.new ow.touch)
  replace R_n1 := hid (R_n1.out.new ow.touch)
  replace R_n2 := hid (R_n2.out.new ow.touch)
  replace T := hid (T.out.trans ow.touch (fun _ _ e => e))
  have R_n3 := hid hrg
  clear ow hcn hin hrg
  obtain rfl : a = n3 := canon_one C_a.out C_n3.out (fun x => by rw [I_n3.out x]; exact law8)
  have hbk := canon_len C_a.out
  have K := hid (same_yes a_n3 a_a c_n3 c_a a w35 R_n3.out R_a.out (by omega))
  clear hbk
  go_wp2_with fail
  refine K.out.mono ?_
  rintro e w36 ⟨rfl, tq⟩
  replace R_a := hid (R_a.out.new tq)
  replace R_b := hid (R_b.out.new tq)
  replace R_c := hid (R_c.out.new tq)
  replace R_n1 := hid (R_n1.out.new tq)
  replace R_n2 := hid (R_n2.out.new tq)
  replace R_n3 := hid (R_n3.out.new tq)
  replace T := hid (T.out.trans tq (fun _ _ e => e))
  clear tq K
  clear I_n1 C_n1 CP_n1 R_n1 I_n2 C_n2 CP_n2 R_n2 I_n3 C_n3 CP_n3 R_n3
  go_wp2_with fail
  refine (size_says a_a c_a a w36 R_a.out C_a.out).mono ?_
  rintro e w37 ⟨rfl, tq⟩
  replace R_a := hid (R_a.out.new tq)
  replace R_b := hid (R_b.out.new tq)
  replace R_c := hid (R_c.out.new tq)
  replace T := hid (T.out.trans tq (fun _ _ e => e))
  clear tq
  go_wp2_with fail
  refine (not_says a_a c_a a w37 R_a.out C_a.out).mono ?_
  rintro e w38 ⟨v, n1, rfl, hcn, hin, ow⟩
  obtain ⟨a_n1, c_n1, hv, hrg⟩ := ow.rg
  subst hv
  have CP_n1 := hid ow.cap
  have C_n1 := hid hcn
  have I_n1 := hid (show ∀ x, In x n1 ↔ ((0 ≤ x ∧ x ≤ 1114111) ∧ ¬ In x a) from fun x => by rw [hin x])
  replace R_a := hid (R_a.out.new ow.touch)
  replace R_b := hid (R_b.out.new ow.touch)
  replace R_c := hid (R_c.out.new ow.touch)
  replace T := hid (T.out.trans ow.touch (fun _ _ e => e))
  have R_n1 := hid hrg
  clear ow hcn hin hrg
  have Z1 := hid (size_not C_a.out C_n1.out I_n1.out)
  have b1 := sizeL_pos C_a.out
  have b2 := sizeL_pos C_n1.out
  go_wp2_with fail
  refine (size_says a_n1 c_n1 n1 w38 R_n1.out C_n1.out).mono ?_
  rintro e w39 ⟨rfl, tq⟩
  replace R_a := hid (R_a.out.new tq)
  replace R_b := hid (R_b.out.new tq)
  replace R_c := hid (R_c.out.new tq)
  replace R_n1 := hid (R_n1.out.new tq)
  replace T := hid (T.out.trans tq (fun _ _ e => e))
  clear tq
  have hd : decide (sizeL a + sizeL n1 = 1114112) = true := decide_eq_true Z1.out
  have hd2 : (sizeL a + sizeL n1 == 1114112) = true := beq_iff_eq.2 Z1.out
  go_wp2_with fail
  refine (or_says a_a a_b c_a c_b a b w39 R_a.out R_b.out C_a.out C_b.out).mono ?_
  rintro e w40 ⟨v, m1, rfl, hcn, hin, ow⟩
  obtain ⟨a_m1, c_m1, hv, hrg⟩ := ow.rg
  subst hv
  have CP_m1 := hid ow.cap
  have C_m1 := hid hcn
  have I_m1 := hid (show ∀ x, In x m1 ↔ (In x a ∨ In x b) from fun x => by rw [hin x])
  replace R_a := hid (R_a.out.new ow.touch)
  replace R_b := hid (R_b.out.new ow.touch)
  replace R_c := hid (R_c.out.new ow.touch)
  replace T := hid (T.out.trans ow.touch (fun _ _ e => e))
  have R_m1 := hid hrg
  clear ow hcn hin hrg
  clear hd hd2 Z1 b1 b2
  go_wp2_with fail
  refine (size_says a_m1 c_m1 m1 w40 R_m1.out C_m1.out).mono ?_
  rintro e w41 ⟨rfl, tq⟩
  replace R_a := hid (R_a.out.new tq)
  replace R_b := hid (R_b.out.new tq)
  replace R_c := hid (R_c.out.new tq)
  replace R_m1 := hid (R_m1.out.new tq)
  replace T := hid (T.out.trans tq (fun _ _ e => e))
  clear tq
  go_wp2_with fail
  refine (size_says a_a c_a a w41 R_a.out C_a.out).mono ?_
  rintro e w42 ⟨rfl, tq⟩
  replace R_a := hid (R_a.out.new tq)
  replace R_b := hid (R_b.out.new tq)
  replace R_c := hid (R_c.out.new tq)
  replace R_m1 := hid (R_m1.out.new tq)
  replace T := hid (T.out.trans tq (fun _ _ e => e))
  clear tq
  go_wp2_with fail
  refine (size_says a_b c_b b w42 R_b.out C_b.out).mono ?_
  rintro e w43 ⟨rfl, tq⟩
  replace R_a := hid (R_a.out.new tq)
  replace R_b := hid (R_b.out.new tq)
  replace R_c := hid (R_c.out.new tq)
  replace R_m1 := hid (R_m1.out.new tq)
  replace T := hid (T.out.trans tq (fun _ _ e => e))
  clear tq
  go_wp2_with fail
  refine (and_says a_a a_b c_a c_b a b w43 R_a.out R_b.out CP_a.out CP_b.out C_a.out C_b.out).mono ?_
  rintro e w44 ⟨v, n2, rfl, hcn, hin, ow⟩
  obtain ⟨a_n2, c_n2, hv, hrg⟩ := ow.rg
  subst hv
  have CP_n2 := hid ow.cap
  have C_n2 := hid hcn
  have I_n2 := hid (show ∀ x, In x n2 ↔ (In x a ∧ In x b) from fun x => by rw [hin x])
  replace R_a := hid (R_a.out.new ow.touch)
  replace R_b := hid (R_b.out.new ow.touch)
  replace R_c := hid (R_c.out.new ow.touch)
  replace R_m1 := hid (R_m1.out.new ow.touch)
  replace T := hid (T.out.trans ow.touch (fun _ _ e => e))
  have R_n2 := hid hrg
  clear ow hcn hin hrg
  have Z1 := hid (size_or C_a.out C_b.out C_m1.out C_n2.out I_m1.out I_n2.out)
  have b1 := sizeL_pos C_a.out
  have b2 := sizeL_pos C_b.out
  have b4 := sizeL_pos C_n2.out
  go_wp2_with fail
  refine (size_says a_n2 c_n2 n2 w44 R_n2.out C_n2.out).mono ?_
  rintro e w45 ⟨rfl, tq⟩
  replace R_a := hid (R_a.out.new tq)
  replace R_b := hid (R_b.out.new tq)
  replace R_c := hid (R_c.out.new tq)
  replace R_m1 := hid (R_m1.out.new tq)
  replace R_n2 := hid (R_n2.out.new tq)
  replace T := hid (T.out.trans tq (fun _ _ e => e))
  clear tq
  go_wp2_with fail
  go_ret
  exact ⟨congrArg (fun b => Ending.returned (Value.bool b)) (size_last b1 b2 b4 Z1.out), T.out.below _ (Nat.le_refl _) (fun _ e => e.elim)⟩

set_option maxRecDepth 100000 in
theorem setsLaws_contract (H : Type) (enc : TypeId × Value → H) (W : World) (base : Nat) (args : Array Value) (ds gs : List (DataW H)) (before : List MemPlace)
    (hval : ∀ (j : Nat) t v, Try.f7.params[j]? = some t → args[j]? = some v → Value.okWide Try.prog W .any base t v)
    (hW : DataW.Whole enc Try.prog Try.f7.params.toList Rows.setsLawsSpec.vars false W args.toList ds gs before) (hk : Rows.uptoSmall H (ds ++ gs) = true) :
    Calls Try.prog 7 args W fun e W' => ∃ v, e = .returned v ∧ Rows.setsLawsSpec.post enc Try.prog Try.f7 false true false false W args v W' := by
  have hW' := hW
  obtain ⟨p, q, hA0, hV, rfl, hfz, hnd⟩ := hW
  have hA : DataW.TrodAll enc Try.prog W 0 (fun _ => true) true Try.f7.params.toList args.toList ds p := hA0
  rw [Try.params7] at hA hval
  obtain ⟨v0, vs0, d0, ds0, p0, q0, hargs, rfl, rfl, h0, r0⟩ := trodAll_cons hA
  obtain ⟨v1, vs1, d1, ds1, p1, q1, rfl, rfl, rfl, h1, r1⟩ := trodAll_cons r0
  obtain ⟨v2, vs2, d2, ds2, p2, q2, rfl, rfl, rfl, h2, r2⟩ := trodAll_cons r1
  obtain ⟨rfl, rfl, rfl⟩ := trodAll_nil r2
  obtain rfl : args = #[v0, v1, v2] := by cases args; simp_all
  obtain ⟨rfl, rfl⟩ := trodVars_none hV
  have hb : Rows.uptoBulkAll ([d0, d1, d2] ++ ([] : List (DataW H))) ≤ 1048576 := of_decide_eq_true hk
  simp only [List.append_nil, Rows.uptoBulkAll] at hb
  obtain ⟨a0, len0, cap0, rfl⟩ := okWide_slice Try.underlying22 (hval 0 22 v0 rfl rfl)
  have k0 := h0
  have lt0 : ∀ x ∈ p0, x.block < W.heap.size := by obtain ⟨m, hm⟩ := k0; exact DataW.trod_lt m _ _ _ hm
  obtain ⟨l0, rfl, w0, y0⟩ : ∃ l : List R2, len0 = l.length ∧ Rg W a0 l ∧ l.length ≤ Rows.uptoBulk d0 := by
    rcases open_ranges h0 with ⟨rfl, rfl, rfl, rfl⟩ | ⟨x, q, sp, rfl, hl, hsp, rfl, hcell⟩
    · exact ⟨[], rfl, .inl rfl, Nat.zero_le _⟩
    · refine ⟨(List.range len0).map q, by simp, rg_of hcell, ?_⟩
      rw [Rows.uptoBulk]
      have := bulk_ranges (H := H) q (List.range len0)
      rw [List.length_map]
      omega
  obtain ⟨a1, len1, cap1, rfl⟩ := okWide_slice Try.underlying22 (hval 1 22 v1 rfl rfl)
  have k1 := h1
  have lt1 : ∀ x ∈ p1, x.block < W.heap.size := by obtain ⟨m, hm⟩ := k1; exact DataW.trod_lt m _ _ _ hm
  obtain ⟨l1, rfl, w1, y1⟩ : ∃ l : List R2, len1 = l.length ∧ Rg W a1 l ∧ l.length ≤ Rows.uptoBulk d1 := by
    rcases open_ranges h1 with ⟨rfl, rfl, rfl, rfl⟩ | ⟨x, q, sp, rfl, hl, hsp, rfl, hcell⟩
    · exact ⟨[], rfl, .inl rfl, Nat.zero_le _⟩
    · refine ⟨(List.range len1).map q, by simp, rg_of hcell, ?_⟩
      rw [Rows.uptoBulk]
      have := bulk_ranges (H := H) q (List.range len1)
      rw [List.length_map]
      omega
  obtain ⟨a2, len2, cap2, rfl⟩ := okWide_slice Try.underlying22 (hval 2 22 v2 rfl rfl)
  have k2 := h2
  have lt2 : ∀ x ∈ p2, x.block < W.heap.size := by obtain ⟨m, hm⟩ := k2; exact DataW.trod_lt m _ _ _ hm
  obtain ⟨l2, rfl, w2, y2⟩ : ∃ l : List R2, len2 = l.length ∧ Rg W a2 l ∧ l.length ≤ Rows.uptoBulk d2 := by
    rcases open_ranges h2 with ⟨rfl, rfl, rfl, rfl⟩ | ⟨x, q, sp, rfl, hl, hsp, rfl, hcell⟩
    · exact ⟨[], rfl, .inl rfl, Nat.zero_le _⟩
    · refine ⟨(List.range len2).map q, by simp, rg_of hcell, ?_⟩
      rw [Rows.uptoBulk]
      have := bulk_ranges (H := H) q (List.range len2)
      rw [List.length_map]
      omega
  clear hA0
  refine (setsLaws_walk a0 cap0 l0 a1 cap1 l1 a2 cap2 l2 W w0 (by omega) w1 (by omega) w2 (by omega)).mono fun e W' ⟨he, bel⟩ => ?_
  subst he
  exact ⟨_, rfl, _, _, _, [], _, [], hW', trodAll_mk1 (shut_bool Try.underlying4 _), (trodAll_cons_mk (Below.trod laidOut (by kernel_rfl) (of_decide_eq_true (by kernel_rfl)) k0 bel lt0) (trodAll_cons_mk (Below.trod laidOut (by kernel_rfl) (of_decide_eq_true (by kernel_rfl)) k1 bel lt1) (trodAll_cons_mk (Below.trod laidOut (by kernel_rfl) (of_decide_eq_true (by kernel_rfl)) k2 bel lt2) trodAll_mk0))), rfl, bel.frame _, fun h => by cases h⟩

set_option maxRecDepth 100000 in
theorem setsLaws_lifted (os : Os) (started : os.Started) (H : Type) (enc : TypeId × Value → H) (F : Stop.Interp) :
    ReturnsInHanded {} Try.checked os 7 .any ((Rows.OpenSpec.upto Rows.setsLawsSpec).pre6 enc Try.prog Try.f7 Rows.setsLawsUptoRow.domain false) (((Rows.OpenSpec.upto Rows.setsLawsSpec).at F).post enc Try.prog Try.f7 false true false false) := by
  refine returnsInHanded_of_cond (C := Try.checked) (s := Rows.OpenSpec.upto Rows.setsLawsSpec) (k := Rows.uptoSmall) rfl own started (by kernel_rfl) Try.func7
    (OpenSpec.witness (enc := enc) (C := Try.checked) (s := Rows.OpenSpec.upto Rows.setsLawsSpec) (k := Rows.uptoSmall) rfl false ⟨#[], #[.slice none 0 0, .slice none 0 0, .slice none 0 0], []⟩ 8 (by kernel_rfl) (by kernel_rfl) (by kernel_rfl)
      (x := ([.nil, .nil, .nil], [], [])) (by kernel_rfl) rfl (by kernel_rfl)) ?_
  intro W base args ds gs before hval hW _ hk _
  exact setsLaws_contract H enc W base args ds gs before hval hW hk

theorem setsLaws_holds : Rows.SetsLawsUptoSaid :=
  OpenClaim.holds_of_cond 7 Try.f7 rfl rfl rfl rfl rfl rfl rfl ⟨rfl, rfl, rfl, rfl, rfl⟩ rfl rfl rfl rfl rfl (by kernel_rfl) Try.func7 (by kernel_rfl)
    (of_decide_eq_true (by kernel_rfl)) (by unfold Func.isWrapper; first | (rw [if_pos (by decide +kernel)]; kernel_rfl) | (rw [if_neg (by decide +kernel)]; exact ⟨rfl, rfl⟩))
    (fun os started H enc _ F => setsLaws_lifted os started H enc F)
#print axioms setsLaws_holds

end Go.Proofs.Ytpjnnbegimaaeab
