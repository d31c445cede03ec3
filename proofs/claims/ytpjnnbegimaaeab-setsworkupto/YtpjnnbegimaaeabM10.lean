/- Texts of this proof, one behind the other: what each says stands ahead of it. -/
import Derived.Deep.RegionHeld
import Derived.Deep.DrawnRows
import Derived.Test.YtpjnnbegimaaeabM8
/- SetsWork, the walk where the number is none of those that there are; conditions: lists of at most 1048576 ranges. -/
namespace Go.Proofs.Ytpjnnbegimaaeab
open Go.ChangeShapes Go.WideShapes Go.ChangeAt Go.RowKit

attribute [local go_sem ↓] Go.wp_at_zero Go.wp_at_succ
set_option maxRecDepth 100000 in
set_option maxHeartbeats 0 in
theorem setsWork_out (a1 : Option Addr) (c1 : Nat) (l : List R2) (a2 : Option Addr) (c2 : Nat) (m : List R2) (r : Int) (w : World) (hr : ¬ (0 ≤ r ∧ r ≤ 1114111)) (hl : Rg w a1 l) (hb : l.length ≤ 1048576) (hm : Rg w a2 m) (hb2 : m.length ≤ 1048576) :
    Calls Try.prog 6 #[.slice a1 l.length c1, .slice a2 m.length c2, .int .i64 r] w fun e w' => e = .returned (.bool true) ∧ Below w.heap.size w w' := by
  have HL := hid hl
  have HM := hid hm
  clear hl hm
  go_enter Try.func6, Try.ntmps6
  go_wp2_with fail
  refine (speaks_yes w).mono ?_
  rintro e w1 ⟨rfl, tc⟩
  have T := hid tc
  clear tc
  have K := hid (made_any a1 c1 l w1 (HL.out.new T.out) (by omega))
  go_wp2_with fail
  refine K.out.mono ?_
  rintro e w2 ⟨v, v2, a, rfl, hcn, hin, ow, ow2⟩
  obtain ⟨a_a, c_a, hv, hrg⟩ := ow.rg
  subst hv
  have CP_a := hid ow.cap
  obtain ⟨y_a, z_a, hv2, hrg2⟩ := ow2.rg
  subst hv2
  have C_a := hid hcn
  have I_a := hid hin
  replace T := hid (T.out.trans ow.touch (fun _ _ e => e))
  have R_a := hid hrg
  have D_a := hid hrg2
  clear ow ow2 hcn hin hrg hrg2 K
  have K := hid (made_any a2 c2 m w2 (HM.out.new T.out) (by omega))
  go_wp2_with fail
  refine K.out.mono ?_
  rintro e w3 ⟨v, v2, b, rfl, hcn, hin, ow, ow2⟩
  obtain ⟨a_b, c_b, hv, hrg⟩ := ow.rg
  subst hv
  have CP_b := hid ow.cap
  obtain ⟨y_b, z_b, hv2, hrg2⟩ := ow2.rg
  subst hv2
  have C_b := hid hcn
  have I_b := hid hin
  replace R_a := hid (R_a.out.new ow.touch)
  replace D_a := hid (D_a.out.new ow.touch)
  replace T := hid (T.out.trans ow.touch (fun _ _ e => e))
  have R_b := hid hrg
  have D_b := hid hrg2
  clear ow ow2 hcn hin hrg hrg2 K
  have HI := hid (show decide (0 ≤ r ∧ r ≤ 1114111) = false from decide_eq_false hr)
  go_upto_region 5 with fail
  go_cut [11] (fun v wd => v = .bool false ∧ w3 = wd)
  case first =>
    rcases (show r < 0 ∨ (0 ≤ r ∧ 1114111 < r) by omega) with h0 | ⟨h0, h1⟩
    all_goals
      clear hr
      go_wp2
      go_meet
      case rel => first | exact ⟨rfl, rfl⟩ | exact ⟨by rw [decide_eq_false (by omega)], rfl⟩
  obtain ⟨rfl, rfl⟩ := hcut
  clear hr
  go_wp2_with fail
  refine (and_says a_a a_b c_a c_b a b w3 R_a.out R_b.out CP_a.out CP_b.out C_a.out C_b.out).mono ?_
  rintro e w4 ⟨v, n0, rfl, hcn, hin, ow⟩
  obtain ⟨a_n0, c_n0, hv, hrg⟩ := ow.rg
  subst hv
  have CP_n0 := hid ow.cap
  have C_n0 := hid hcn
  have I_n0 := hid (show ∀ x, In x n0 ↔ (((0 ≤ x ∧ x ≤ 1114111) ∧ In x l) ∧ ((0 ≤ x ∧ x ≤ 1114111) ∧ In x m)) from fun x => by rw [hin x, I_a.out x, I_b.out x])
  replace R_a := hid (R_a.out.new ow.touch)
  replace R_b := hid (R_b.out.new ow.touch)
  replace D_a := hid (D_a.out.new ow.touch)
  replace D_b := hid (D_b.out.new ow.touch)
  replace T := hid (T.out.trans ow.touch (fun _ _ e => e))
  have R_n0 := hid hrg
  clear ow hcn hin hrg
  obtain ⟨A, hA⟩ : ∃ A, hasB r l = A := ⟨_, rfl⟩
  have HA := hid hA
  have HAS := hid (show hasB r a = (false && A) from has_of I_a.out HI.out hA)
  obtain ⟨D, hD⟩ : ∃ D, decide (a = b) = D := ⟨_, rfl⟩
  have HD := hid hD
  have BX := hid (is_new w4 (.bool false) (.bool true) (.bool false) (.bool true) 41)
  have TB := hid ((Touch.refl (fun _ => False) w4).alloc (.cells #[.bool false, .bool true, .bool false, .bool true] 41))
  have hla := canon_len C_a.out
  have hlb := canon_len C_b.out
  clear hA hD
  go_wp2_with fail
  generalize (w4.alloc (.cells #[.bool false, .bool true, .bool false, .bool true] 41)) = wB at *
  generalize w4.heap.size = bx at *
  obtain ⟨q0, q1, q2, q3⟩ := is_cell (w := wB.drew) BX.out
  have tB := TB.out
  replace R_a := hid (R_a.out.new tB.drew)
  replace R_b := hid (R_b.out.new tB.drew)
  replace R_n0 := hid (R_n0.out.new tB.drew)
  replace D_a := hid (D_a.out.new tB.drew)
  replace D_b := hid (D_b.out.new tB.drew)
  replace T := hid (T.out.trans tB.drew (fun _ _ e => e))
  replace BX := hid (show wB.drew.heap[bx]? = _ from BX.out)
  clear tB TB
  dsimp only [List.append]
  have Mk0 : True := trivial
  first | (go_region_held (fun w' => w'.cell? ⟨bx, 0, none⟩ = some (.bool false) ∧ w'.cell? ⟨bx, 1, none⟩ = some (.bool true) ∧ w'.cell? ⟨bx, 2, none⟩ = some (.bool false) ∧ w'.cell? ⟨bx, 3, none⟩ = some (.bool true))
    (first | go_keep | exact ⟨q0, q1, q2, q3⟩)
    (first
      | (clear Mk0; go_at_call 18; refine (canon_any y_a y_b z_a z_b l m false true false true _ D_a.out D_b.out (by omega)).mono ?_; rintro e w' ⟨v, k1, rfl, hcn, hin, ow⟩; obtain ⟨a_k1, c_k1, hv, hrg⟩ := ow.rg; subst hv; have CP_k1 := hid ow.cap; have C_k1 := hid hcn; have I_k1 := hid (show ∀ x, In x k1 ↔ ((0 ≤ x ∧ x ≤ 1114111) ∧ In x l) from fun x => by rw [hin x, want_is]); replace R_a := hid (R_a.out.new ow.touch); replace R_b := hid (R_b.out.new ow.touch); replace R_n0 := hid (R_n0.out.new ow.touch); replace D_a := hid (D_a.out.new ow.touch); replace D_b := hid (D_b.out.new ow.touch); replace BX := hid ((ow.touch.block bx (lt_of_block BX.out) id).trans BX.out); clear q0 q1 q2 q3; obtain ⟨q0, q1, q2, q3⟩ := is_cell BX.out; replace T := hid (T.out.trans ow.touch (fun _ _ e => e)); have R_k1 := hid hrg; clear ow hcn hin hrg; have Mk1 : True := trivial)
      | (clear Mk1; go_at_call 17; obtain rfl : a = k1 := canon_one C_a.out C_k1.out (fun x => by rw [I_a.out x, I_k1.out x]); refine (lawSame_yes a_a a_k1 c_a c_k1 a _ R_a.out R_k1.out C_a.out).mono ?_; rintro e w' ⟨rfl, tq⟩; replace R_a := hid (R_a.out.new tq); replace R_b := hid (R_b.out.new tq); replace R_n0 := hid (R_n0.out.new tq); replace D_a := hid (D_a.out.new tq); replace D_b := hid (D_b.out.new tq); replace BX := hid ((tq.block bx (lt_of_block BX.out) id).trans BX.out); clear q0 q1 q2 q3; obtain ⟨q0, q1, q2, q3⟩ := is_cell BX.out; replace T := hid (T.out.trans tq (fun _ _ e => e)); clear tq; clear I_k1 C_k1 CP_k1 R_k1; have Mk2 : True := trivial)
      | (clear Mk2; go_at_call 10; refine (or_says a_a a_b c_a c_b a b _ R_a.out R_b.out C_a.out C_b.out).mono ?_; rintro e w' ⟨v, n1, rfl, hcn, hin, ow⟩; obtain ⟨a_n1, c_n1, hv, hrg⟩ := ow.rg; subst hv; have CP_n1 := hid ow.cap; have C_n1 := hid hcn; have I_n1 := hid (show ∀ x, In x n1 ↔ (((0 ≤ x ∧ x ≤ 1114111) ∧ In x l) ∨ ((0 ≤ x ∧ x ≤ 1114111) ∧ In x m)) from fun x => by rw [hin x, I_a.out x, I_b.out x]); replace R_a := hid (R_a.out.new ow.touch); replace R_b := hid (R_b.out.new ow.touch); replace R_n0 := hid (R_n0.out.new ow.touch); replace D_a := hid (D_a.out.new ow.touch); replace D_b := hid (D_b.out.new ow.touch); replace BX := hid ((ow.touch.block bx (lt_of_block BX.out) id).trans BX.out); clear q0 q1 q2 q3; obtain ⟨q0, q1, q2, q3⟩ := is_cell BX.out; replace T := hid (T.out.trans ow.touch (fun _ _ e => e)); have R_n1 := hid hrg; clear ow hcn hin hrg; have Mk3 : True := trivial)
      | (clear Mk3; go_at_call 18; refine (canon_any y_a y_b z_a z_b l m false true true true _ D_a.out D_b.out (by omega)).mono ?_; rintro e w' ⟨v, k2, rfl, hcn, hin, ow⟩; obtain ⟨a_k2, c_k2, hv, hrg⟩ := ow.rg; subst hv; have CP_k2 := hid ow.cap; have C_k2 := hid hcn; have I_k2 := hid (show ∀ x, In x k2 ↔ ((0 ≤ x ∧ x ≤ 1114111) ∧ (In x l ∨ In x m)) from fun x => by rw [hin x, want_or]); replace R_a := hid (R_a.out.new ow.touch); replace R_b := hid (R_b.out.new ow.touch); replace R_n0 := hid (R_n0.out.new ow.touch); replace R_n1 := hid (R_n1.out.new ow.touch); replace D_a := hid (D_a.out.new ow.touch); replace D_b := hid (D_b.out.new ow.touch); replace BX := hid ((ow.touch.block bx (lt_of_block BX.out) id).trans BX.out); clear q0 q1 q2 q3; obtain ⟨q0, q1, q2, q3⟩ := is_cell BX.out; replace T := hid (T.out.trans ow.touch (fun _ _ e => e)); have R_k2 := hid hrg; clear ow hcn hin hrg; have Mk4 : True := trivial)
      | (clear Mk4; go_at_call 17; obtain rfl : n1 = k2 := canon_one C_n1.out C_k2.out (fun x => by rw [I_n1.out x, I_k2.out x]; exact wk_or); refine (lawSame_yes a_n1 a_k2 c_n1 c_k2 n1 _ R_n1.out R_k2.out C_n1.out).mono ?_; rintro e w' ⟨rfl, tq⟩; replace R_a := hid (R_a.out.new tq); replace R_b := hid (R_b.out.new tq); replace R_n0 := hid (R_n0.out.new tq); replace D_a := hid (D_a.out.new tq); replace D_b := hid (D_b.out.new tq); replace BX := hid ((tq.block bx (lt_of_block BX.out) id).trans BX.out); clear q0 q1 q2 q3; obtain ⟨q0, q1, q2, q3⟩ := is_cell BX.out; replace T := hid (T.out.trans tq (fun _ _ e => e)); clear tq; clear I_n1 C_n1 CP_n1 R_n1 I_k2 C_k2 CP_k2 R_k2; have Mk5 : True := trivial)
      | (clear Mk5; go_at_call 18; refine (canon_any y_a y_b z_a z_b l m false false false true _ D_a.out D_b.out (by omega)).mono ?_; rintro e w' ⟨v, k3, rfl, hcn, hin, ow⟩; obtain ⟨a_k3, c_k3, hv, hrg⟩ := ow.rg; subst hv; have CP_k3 := hid ow.cap; have C_k3 := hid hcn; have I_k3 := hid (show ∀ x, In x k3 ↔ ((0 ≤ x ∧ x ≤ 1114111) ∧ (In x l ∧ In x m)) from fun x => by rw [hin x, want_and]); replace R_a := hid (R_a.out.new ow.touch); replace R_b := hid (R_b.out.new ow.touch); replace R_n0 := hid (R_n0.out.new ow.touch); replace D_a := hid (D_a.out.new ow.touch); replace D_b := hid (D_b.out.new ow.touch); replace BX := hid ((ow.touch.block bx (lt_of_block BX.out) id).trans BX.out); clear q0 q1 q2 q3; obtain ⟨q0, q1, q2, q3⟩ := is_cell BX.out; replace T := hid (T.out.trans ow.touch (fun _ _ e => e)); have R_k3 := hid hrg; clear ow hcn hin hrg; have Mk6 : True := trivial)
      | (clear Mk6; go_at_call 17; obtain rfl : n0 = k3 := canon_one C_n0.out C_k3.out (fun x => by rw [I_n0.out x, I_k3.out x]; exact wk_and); refine (lawSame_yes a_n0 a_k3 c_n0 c_k3 n0 _ R_n0.out R_k3.out C_n0.out).mono ?_; rintro e w' ⟨rfl, tq⟩; replace R_a := hid (R_a.out.new tq); replace R_b := hid (R_b.out.new tq); replace R_n0 := hid (R_n0.out.new tq); replace D_a := hid (D_a.out.new tq); replace D_b := hid (D_b.out.new tq); replace BX := hid ((tq.block bx (lt_of_block BX.out) id).trans BX.out); clear q0 q1 q2 q3; obtain ⟨q0, q1, q2, q3⟩ := is_cell BX.out; replace T := hid (T.out.trans tq (fun _ _ e => e)); clear tq; clear I_k3 C_k3 CP_k3 R_k3; have Mk7 : True := trivial)
      | (clear Mk7; go_at_call 12; refine (not_says a_a c_a a _ R_a.out C_a.out).mono ?_; rintro e w' ⟨v, n2, rfl, hcn, hin, ow⟩; obtain ⟨a_n2, c_n2, hv, hrg⟩ := ow.rg; subst hv; have CP_n2 := hid ow.cap; have C_n2 := hid hcn; have I_n2 := hid (show ∀ x, In x n2 ↔ ((0 ≤ x ∧ x ≤ 1114111) ∧ ¬ ((0 ≤ x ∧ x ≤ 1114111) ∧ In x l)) from fun x => by rw [hin x, I_a.out x]); replace R_a := hid (R_a.out.new ow.touch); replace R_b := hid (R_b.out.new ow.touch); replace R_n0 := hid (R_n0.out.new ow.touch); replace D_a := hid (D_a.out.new ow.touch); replace D_b := hid (D_b.out.new ow.touch); replace BX := hid ((ow.touch.block bx (lt_of_block BX.out) id).trans BX.out); clear q0 q1 q2 q3; obtain ⟨q0, q1, q2, q3⟩ := is_cell BX.out; replace T := hid (T.out.trans ow.touch (fun _ _ e => e)); have R_n2 := hid hrg; clear ow hcn hin hrg; have Mk8 : True := trivial)
      | (clear Mk8; go_at_call 18; refine (canon_any y_a y_b z_a z_b l m true false true false _ D_a.out D_b.out (by omega)).mono ?_; rintro e w' ⟨v, k4, rfl, hcn, hin, ow⟩; obtain ⟨a_k4, c_k4, hv, hrg⟩ := ow.rg; subst hv; have CP_k4 := hid ow.cap; have C_k4 := hid hcn; have I_k4 := hid (show ∀ x, In x k4 ↔ ((0 ≤ x ∧ x ≤ 1114111) ∧ ¬ In x l) from fun x => by rw [hin x, want_not]); replace R_a := hid (R_a.out.new ow.touch); replace R_b := hid (R_b.out.new ow.touch); replace R_n0 := hid (R_n0.out.new ow.touch); replace R_n2 := hid (R_n2.out.new ow.touch); replace D_a := hid (D_a.out.new ow.touch); replace D_b := hid (D_b.out.new ow.touch); replace BX := hid ((ow.touch.block bx (lt_of_block BX.out) id).trans BX.out); clear q0 q1 q2 q3; obtain ⟨q0, q1, q2, q3⟩ := is_cell BX.out; replace T := hid (T.out.trans ow.touch (fun _ _ e => e)); have R_k4 := hid hrg; clear ow hcn hin hrg; have Mk9 : True := trivial)
      | (clear Mk9; go_at_call 17; obtain rfl : n2 = k4 := canon_one C_n2.out C_k4.out (fun x => by rw [I_n2.out x, I_k4.out x]; exact wk_not); refine (lawSame_yes a_n2 a_k4 c_n2 c_k4 n2 _ R_n2.out R_k4.out C_n2.out).mono ?_; rintro e w' ⟨rfl, tq⟩; replace R_a := hid (R_a.out.new tq); replace R_b := hid (R_b.out.new tq); replace R_n0 := hid (R_n0.out.new tq); replace D_a := hid (D_a.out.new tq); replace D_b := hid (D_b.out.new tq); replace BX := hid ((tq.block bx (lt_of_block BX.out) id).trans BX.out); clear q0 q1 q2 q3; obtain ⟨q0, q1, q2, q3⟩ := is_cell BX.out; replace T := hid (T.out.trans tq (fun _ _ e => e)); clear tq; clear I_n2 C_n2 CP_n2 R_n2 I_k4 C_k4 CP_k4 R_k4; have Mk10 : True := trivial)
      | (clear Mk10; go_at_call 13; refine (less_says a_a a_b c_a c_b a b _ R_a.out R_b.out CP_a.out C_a.out C_b.out).mono ?_; rintro e w' ⟨v, n3, rfl, hcn, hin, ow⟩; obtain ⟨a_n3, c_n3, hv, hrg⟩ := ow.rg; subst hv; have CP_n3 := hid ow.cap; have C_n3 := hid hcn; have I_n3 := hid (show ∀ x, In x n3 ↔ (((0 ≤ x ∧ x ≤ 1114111) ∧ In x l) ∧ ¬ ((0 ≤ x ∧ x ≤ 1114111) ∧ In x m)) from fun x => by rw [hin x, I_a.out x, I_b.out x]); replace R_a := hid (R_a.out.new ow.touch); replace R_b := hid (R_b.out.new ow.touch); replace R_n0 := hid (R_n0.out.new ow.touch); replace D_a := hid (D_a.out.new ow.touch); replace D_b := hid (D_b.out.new ow.touch); replace BX := hid ((ow.touch.block bx (lt_of_block BX.out) id).trans BX.out); clear q0 q1 q2 q3; obtain ⟨q0, q1, q2, q3⟩ := is_cell BX.out; replace T := hid (T.out.trans ow.touch (fun _ _ e => e)); have R_n3 := hid hrg; clear ow hcn hin hrg; have Mk11 : True := trivial)
      | (clear Mk11; go_at_call 18; refine (canon_any y_a y_b z_a z_b l m false true false false _ D_a.out D_b.out (by omega)).mono ?_; rintro e w' ⟨v, k5, rfl, hcn, hin, ow⟩; obtain ⟨a_k5, c_k5, hv, hrg⟩ := ow.rg; subst hv; have CP_k5 := hid ow.cap; have C_k5 := hid hcn; have I_k5 := hid (show ∀ x, In x k5 ↔ ((0 ≤ x ∧ x ≤ 1114111) ∧ (In x l ∧ ¬ In x m)) from fun x => by rw [hin x, want_less]); replace R_a := hid (R_a.out.new ow.touch); replace R_b := hid (R_b.out.new ow.touch); replace R_n0 := hid (R_n0.out.new ow.touch); replace R_n3 := hid (R_n3.out.new ow.touch); replace D_a := hid (D_a.out.new ow.touch); replace D_b := hid (D_b.out.new ow.touch); replace BX := hid ((ow.touch.block bx (lt_of_block BX.out) id).trans BX.out); clear q0 q1 q2 q3; obtain ⟨q0, q1, q2, q3⟩ := is_cell BX.out; replace T := hid (T.out.trans ow.touch (fun _ _ e => e)); have R_k5 := hid hrg; clear ow hcn hin hrg; have Mk12 : True := trivial)
      | (clear Mk12; go_at_call 17; obtain rfl : n3 = k5 := canon_one C_n3.out C_k5.out (fun x => by rw [I_n3.out x, I_k5.out x]; exact wk_less); refine (lawSame_yes a_n3 a_k5 c_n3 c_k5 n3 _ R_n3.out R_k5.out C_n3.out).mono ?_; rintro e w' ⟨rfl, tq⟩; replace R_a := hid (R_a.out.new tq); replace R_b := hid (R_b.out.new tq); replace R_n0 := hid (R_n0.out.new tq); replace D_a := hid (D_a.out.new tq); replace D_b := hid (D_b.out.new tq); replace BX := hid ((tq.block bx (lt_of_block BX.out) id).trans BX.out); clear q0 q1 q2 q3; obtain ⟨q0, q1, q2, q3⟩ := is_cell BX.out; replace T := hid (T.out.trans tq (fun _ _ e => e)); clear tq; clear I_n3 C_n3 CP_n3 R_n3 I_k5 C_k5 CP_k5 R_k5; have Mk13 : True := trivial)
      | (clear Mk13; go_at_call 16; have KH := has_says a_a c_a a r _ R_a.out C_a.out; rw [HAS.out] at KH; simp only [Bool.false_and] at KH; refine (KH).mono ?_; rintro e w' ⟨rfl, tq⟩; replace R_a := hid (R_a.out.new tq); replace R_b := hid (R_b.out.new tq); replace R_n0 := hid (R_n0.out.new tq); replace D_a := hid (D_a.out.new tq); replace D_b := hid (D_b.out.new tq); replace BX := hid ((tq.block bx (lt_of_block BX.out) id).trans BX.out); clear q0 q1 q2 q3; obtain ⟨q0, q1, q2, q3⟩ := is_cell BX.out; replace T := hid (T.out.trans tq (fun _ _ e => e)); clear tq; have Mk14 : True := trivial)
      | (clear Mk14; go_at_call 15; have KH := same_any a_a a_b c_a c_b a b _ R_a.out R_b.out (by omega); rw [HD.out] at KH; refine (KH).mono ?_; rintro e w' ⟨rfl, tq⟩; replace R_a := hid (R_a.out.new tq); replace R_b := hid (R_b.out.new tq); replace R_n0 := hid (R_n0.out.new tq); replace D_a := hid (D_a.out.new tq); replace D_b := hid (D_b.out.new tq); replace BX := hid ((tq.block bx (lt_of_block BX.out) id).trans BX.out); clear q0 q1 q2 q3; obtain ⟨q0, q1, q2, q3⟩ := is_cell BX.out; replace T := hid (T.out.trans tq (fun _ _ e => e)); clear tq; have Mk15 : True := trivial)
      | (clear Mk15; go_at_call 18; refine (canon_any y_a y_b z_a z_b l m false true false true _ D_a.out D_b.out (by omega)).mono ?_; rintro e w' ⟨v, k6, rfl, hcn, hin, ow⟩; obtain ⟨a_k6, c_k6, hv, hrg⟩ := ow.rg; subst hv; have CP_k6 := hid ow.cap; have C_k6 := hid hcn; have I_k6 := hid (show ∀ x, In x k6 ↔ ((0 ≤ x ∧ x ≤ 1114111) ∧ In x l) from fun x => by rw [hin x, want_is]); replace R_a := hid (R_a.out.new ow.touch); replace R_b := hid (R_b.out.new ow.touch); replace R_n0 := hid (R_n0.out.new ow.touch); replace D_a := hid (D_a.out.new ow.touch); replace D_b := hid (D_b.out.new ow.touch); replace BX := hid ((ow.touch.block bx (lt_of_block BX.out) id).trans BX.out); clear q0 q1 q2 q3; obtain ⟨q0, q1, q2, q3⟩ := is_cell BX.out; replace T := hid (T.out.trans ow.touch (fun _ _ e => e)); have R_k6 := hid hrg; clear ow hcn hin hrg; have Mk16 : True := trivial)
      | (clear Mk16; go_at_call 17; obtain rfl : a = k6 := canon_one C_a.out C_k6.out (fun x => by rw [I_a.out x, I_k6.out x]); have KH := lawSame_any a_b a_k6 c_b c_k6 b a _ R_b.out R_k6.out C_b.out C_a.out; rw [show decide (b = a) = decide (a = b) from decide_eq_decide.2 eq_comm, HD.out] at KH; refine KH.mono ?_; rintro e w' ⟨rfl, tq⟩; replace T := hid (T.out.trans tq (fun _ _ e => e)); replace BX := hid ((tq.block bx (lt_of_block BX.out) id).trans BX.out); clear q0 q1 q2 q3; obtain ⟨q0, q1, q2, q3⟩ := is_cell BX.out; clear tq KH; have Mk17 : True := trivial))) | fail
  all_goals
    go_wp2
    go_ret
    exact ⟨by first | rfl | simp, T.out.below _ (Nat.le_refl _) (fun _ e => e.elim)⟩

end Go.Proofs.Ytpjnnbegimaaeab
