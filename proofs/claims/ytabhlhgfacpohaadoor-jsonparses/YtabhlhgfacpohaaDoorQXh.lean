/- Texts of this proof, one behind the other: what each says stands ahead of it. -/
import Derived.Test.YtabhlhgfacpohaaDoorWw
import Derived.Test.YtabhlhgfacpohaaDoorXd
import Derived.Test.YtabhlhgfacpohaaDoorQXe
import Derived.Test.YtabhlhgfacpohaaDoorQVt
/- JsonParses' walk; condition: the two tables of coding lie there. -/
namespace Go.Proofs.YtabhlhgfacpohaaDoor
open Go.RowKit
open Go.Lib

theorem sh_size (x : JV) : (⟨(shB x).toArray⟩ : ByteArray).size = (shB x).length := by
  show (shB x).toArray.size = _
  rw [List.size_toArray]
set_option maxRecDepth 100000 in
set_option maxHeartbeats 16000000 in
theorem jsonParses_bad (s : ByteArray) (w : World) (ht : Tabs w) (ec ek : Nat) (hP : parE s = .error (ec, ek)) :
    Calls Tryd.prog 7 #[.string s] w fun e w' => e = .returned (.bool true) ∧ Touch (fun _ => False) w w' := by
  have KS := hid (speaks_yes w ht)
  have KP := hid (fun w' (ht' : Tabs w') => parse_any s w' ht')
  have KR := hid (fun w' => rparse_any s w')
  have hec : ec ≠ 0 := err_par hP
  rw [hP] at KP KR
  unfold ParP zV fV at KP
  unfold RParP at KR
  have hbe : ((ec : Int) != 0) = true := by simp; omega
  have HT := hid ht
  clear ht hP
  go_enter Tryd.func7, Tryd.ntmps7
  go_wp2_with fail
  refine KS.out.mono ?_
  rintro e w1 ⟨rfl, t1⟩
  have T1 := hid t1
  clear t1 KS
  go_wp2_with fail
  refine (KP.out w1 (HT.out.new T1.out)).mono ?_
  rintro e w2 ⟨rfl, t2⟩
  have T2 := hid (T1.out.trans t2 (fun _ _ e => e))
  clear t2 KP T1
  go_upto_region 4 with fail
  have TA := ((Touch.refl (fun _ => False) w2).alloc (.cells #[.int .i64 0, .string ⟨#[]⟩, .slice none 0 0, .slice none 0 0] 26)).alloc (.cells #[.int .i64 (ec : Nat), .int .i64 (ek : Nat)] 29)
  have TA2 := (Touch.refl (fun _ => False) (w2.alloc (.cells #[.int .i64 0, .string ⟨#[]⟩, .slice none 0 0, .slice none 0 0] 26))).alloc (.cells #[.int .i64 (ec : Nat), .int .i64 (ek : Nat)] 29)
  have BR := hid (jtwo_new (w := w2.alloc (.cells #[.int .i64 0, .string ⟨#[]⟩, .slice none 0 0, .slice none 0 0] 26)) (.int .i64 (ec : Nat)) (.int .i64 (ek : Nat)) 29)
  rw [size_alloc1] at BR
  have BV := hid ((TA2.block w2.heap.size (by rw [size_alloc1]; omega) id).trans (jfour_new (w := w2) (.int .i64 0) (.string ⟨#[]⟩) (.slice none 0 0) (.slice none 0 0) 26))
  have T3 := hid (T2.out.trans TA (fun _ _ e => e))
  clear TA TA2 T2
  generalize (w2.alloc (.cells #[.int .i64 0, .string ⟨#[]⟩, .slice none 0 0, .slice none 0 0] 26)).alloc (.cells #[.int .i64 (ec : Nat), .int .i64 (ek : Nat)] 29) = w3 at *
  generalize w2.heap.size + 1 = p4 at *
  generalize w2.heap.size = p3 at *
  go_wp2_with fail
  refine (KR.out w3).mono ?_
  rintro e w4 ⟨rfl, t4⟩
  have T4 := hid (T3.out.trans t4 (fun _ _ e => e))
  have BR4 := hid ((t4.block p4 (lt_of_block BR.out) id).trans BR.out)
  have BV4 := hid ((t4.block p3 (lt_of_block BV.out) id).trans BV.out)
  clear t4 KR T3 BR BV
  go_upto_region 5 with fail
  have TA := (Touch.refl (fun _ => False) w4).alloc (.cells #[.slice none 0 0, .int .i64 0, .int .i64 (ec : Nat), .int .i64 (ek : Nat)] 47)
  have BD := hid (jfour_new (w := w4) (.slice none 0 0) (.int .i64 0) (.int .i64 (ec : Nat)) (.int .i64 (ek : Nat)) 47)
  have T5 := hid (T4.out.trans TA (fun _ _ e => e))
  have BR5 := hid ((TA.block p4 (lt_of_block BR4.out) id).trans BR4.out)
  have BV5 := hid ((TA.block p3 (lt_of_block BV4.out) id).trans BV4.out)
  clear TA T4 BR4 BV4
  generalize w4.alloc (.cells #[.slice none 0 0, .int .i64 0, .int .i64 (ec : Nat), .int .i64 (ek : Nat)] 47) = w5 at *
  generalize w4.heap.size = p5 at *
  obtain ⟨⟨r0, r1⟩, _⟩ := cells2 BR5.out
  obtain ⟨⟨q0, q1, q2, q3⟩, _⟩ := cells4 BV5.out
  obtain ⟨⟨d0, d1, d2, d3⟩, _⟩ := cells4 BD.out
  clear BR5 BV5 BD
  go_wp2
  go_ret
  exact ⟨rfl, T5.out⟩
end Go.Proofs.YtabhlhgfacpohaaDoor

/- JsonParses' walk where a text tells a value; condition: the two tables of coding lie there. -/
namespace Go.Proofs.YtabhlhgfacpohaaDoor
open Go.RowKit
open Go.Lib

set_option maxRecDepth 100000 in
set_option maxHeartbeats 16000000 in
theorem jsonParses_short (s : ByteArray) (w : World) (ht : Tabs w) (x : JV) (hP : parE s = .ok x) (hlong : (shB x).length ≤ 1048576) :
    Calls Tryd.prog 7 #[.string s] w fun e w' => e = .returned (.bool true) ∧ Touch (fun _ => False) w w' := by
  have KS := hid (speaks_yes w ht)
  have KP := hid (fun w' (ht' : Tabs w') => parse_any s w' ht')
  have KR := hid (fun w' => rparse_any s w')
  obtain ⟨hok, hlen⟩ := par_p hP
  have HOK := hid hok
  have KT := hid (fun w' (ht' : Tabs w') => parse_any ⟨(shB x).toArray⟩ w' ht')
  have hPT : parE ⟨(shB x).toArray⟩ = .ok x := par_back hok hlong
  rw [hPT] at KT
  unfold ParP at KT
  have hTs := sh_size x
  have KSH := hid (fun (B : Nat → Prop) (c : Cel) (w : World) (tv : TV w B c x) (ht : Tabs w) => Show_any hok B c w tv ht (by omega))
  rw [← hTs] at hlong
  rw [hP] at KP KR
  unfold ParP at KP
  unfold RParP at KR
  have HT := hid ht
  generalize (⟨(shB x).toArray⟩ : ByteArray) = T at *
  clear ht hP hok hlen hPT hTs
  go_enter Tryd.func7, Tryd.ntmps7
  go_wp2_with fail
  refine KS.out.mono ?_
  rintro e w1 ⟨rfl, t1⟩
  have T1 := hid t1
  clear t1 KS
  go_wp2_with fail
  refine (KP.out w1 (HT.out.new T1.out)).mono ?_
  rintro e w2 ⟨rk, rt, ra2, rn2, rc2, ra3, rn3, rc3, B2, rfl, tv, _, t2⟩
  have T2 := hid (T1.out.trans t2 (fun _ _ e => e))
  have V2 := hid tv
  clear t2 KP T1 tv
  go_upto_region 4 with fail
  have TA := ((Touch.refl (fun _ => False) w2).alloc (.cells #[.int .i64 rk, .string rt, .slice ra2 rn2 rc2, .slice ra3 rn3 rc3] 26)).alloc (.cells #[.int .i64 0, .int .i64 0] 29)
  have TA2 := (Touch.refl (fun _ => False) (w2.alloc (.cells #[.int .i64 rk, .string rt, .slice ra2 rn2 rc2, .slice ra3 rn3 rc3] 26))).alloc (.cells #[.int .i64 0, .int .i64 0] 29)
  have BR := hid (jtwo_new (w := w2.alloc (.cells #[.int .i64 rk, .string rt, .slice ra2 rn2 rc2, .slice ra3 rn3 rc3] 26)) (.int .i64 0) (.int .i64 0) 29)
  rw [size_alloc1] at BR
  have BV := hid ((TA2.block w2.heap.size (by rw [size_alloc1]; omega) id).trans (jfour_new (w := w2) (.int .i64 rk) (.string rt) (.slice ra2 rn2 rc2) (.slice ra3 rn3 rc3) 26))
  have T3 := hid (T2.out.trans TA (fun _ _ e => e))
  have V3 := hid (V2.out.new TA)
  clear TA TA2 T2 V2
  generalize (w2.alloc (.cells #[.int .i64 rk, .string rt, .slice ra2 rn2 rc2, .slice ra3 rn3 rc3] 26)).alloc (.cells #[.int .i64 0, .int .i64 0] 29) = w3 at *
  generalize w2.heap.size + 1 = p4 at *
  generalize w2.heap.size = p3 at *
  go_wp2_with fail
  refine (KR.out w3).mono ?_
  rintro e w4 ⟨da, dn, dc, dr, ds, B4, rfl, hdl, hdt, t4⟩
  have T4 := hid (T3.out.trans t4 (fun _ _ e => e))
  have V4 := hid (V3.out.new t4)
  have BR4 := hid ((t4.block p4 (lt_of_block BR.out) id).trans BR.out)
  have BV4 := hid ((t4.block p3 (lt_of_block BV.out) id).trans BV.out)
  have D4 := hid hdl
  have E4 := hid hdt
  clear t4 KR T3 BR BV hdl hdt V3
  go_upto_region 5 with fail
  have TA := (Touch.refl (fun _ => False) w4).alloc (.cells #[.slice da dn dc, .int .i64 (dr : Nat), .int .i64 0, .int .i64 0] 47)
  have BD := hid (jfour_new (w := w4) (.slice da dn dc) (.int .i64 (dr : Nat)) (.int .i64 0) (.int .i64 0) 47)
  have T5 := hid (T4.out.trans TA (fun _ _ e => e))
  have BR5 := hid ((TA.block p4 (lt_of_block BR4.out) id).trans BR4.out)
  have BV5 := hid ((TA.block p3 (lt_of_block BV4.out) id).trans BV4.out)
  have V5 := hid (V4.out.new TA)
  have D5 := hid (show DL _ (.slice da dn dc) ds from rowKept D4.out TA (fun _ _ e => e))
  have E5 := hid (E4.out.kept TA (fun _ _ e => e))
  clear TA T4 BR4 BV4 V4 D4 E4
  generalize w4.alloc (.cells #[.slice da dn dc, .int .i64 (dr : Nat), .int .i64 0, .int .i64 0] 47) = w5 at *
  generalize w4.heap.size = p5 at *
  obtain ⟨⟨r0, r1⟩, _⟩ := cells2 BR5.out
  obtain ⟨⟨q0, q1, q2, q3⟩, _⟩ := cells4 BV5.out
  obtain ⟨⟨d0, d1, d2, d3⟩, _⟩ := cells4 BD.out
  have KA := hid (show Calls Tryd.prog 18 #[.agg #[.int .i64 rk, .string rt, .slice ra2 rn2 rc2, .slice ra3 rn3 rc3], .agg #[.slice da dn dc, .int .i64 (dr : Nat), .int .i64 0, .int .i64 0], .int .i64 (dr : Nat)] w5 _ from alike_any V5.out B4 da dn dc ds (dr : Nat) dr w5 D5.out E5.out (Touch.refl _ _))
  clear BR5 BD D5 E5
  go_wp2_with fail
  refine KA.out.mono ?_
  rintro e w6 ⟨rfl, t6⟩
  have T6 := hid (T5.out.trans t6 (fun _ _ e => e))
  have V6 := hid (V5.out.new t6)
  have BV6 := hid ((t6.block p3 (lt_of_block BV5.out) id).trans BV5.out)
  clear t6 KA T5 V5 BV5 r0 r1 q0 q1 q2 q3 d0 d1 d2 d3
  obtain ⟨⟨q0, q1, q2, q3⟩, _⟩ := cells4 BV6.out
  have KH := hid (show Calls Tryd.prog 10 #[.agg #[.int .i64 rk, .string rt, .slice ra2 rn2 rc2, .slice ra3 rn3 rc3]] w6 _ from KSH.out B2 ⟨rk, rt, .slice ra2 rn2 rc2, .slice ra3 rn3 rc3⟩ w6 V6.out (HT.out.new T6.out))
  go_wp2_with fail
  refine KH.out.mono ?_
  rintro e w7 ⟨rfl, t7⟩
  have T7 := hid (T6.out.trans t7 (fun _ _ e => e))
  have V7 := hid (V6.out.new t7)
  have BV7 := hid ((t7.block p3 (lt_of_block BV6.out) id).trans BV6.out)
  clear t7 KH T6 V6 BV6 q0 q1 q2 q3
  go_wp2_with fail
  refine (KT.out w7 (HT.out.new T7.out)).mono ?_
  rintro e w8 ⟨xk, xt, xa2, xn2, xc2, xa3, xn3, xc3, B8, rfl, tv, _, t8⟩
  have T8 := hid (T7.out.trans t8 (fun _ _ e => e))
  have V8 := hid (V7.out.new t8)
  have U8 := hid tv
  have BV8 := hid ((t8.block p3 (lt_of_block BV7.out) id).trans BV7.out)
  clear t8 KT T7 V7 BV7 tv
  go_upto_region 13 with fail
  have TA := ((Touch.refl (fun _ => False) w8).alloc (.cells #[.int .i64 xk, .string xt, .slice xa2 xn2 xc2, .slice xa3 xn3 xc3] 26)).alloc (.cells #[.int .i64 0, .int .i64 0] 29)
  have TA2 := (Touch.refl (fun _ => False) (w8.alloc (.cells #[.int .i64 xk, .string xt, .slice xa2 xn2 xc2, .slice xa3 xn3 xc3] 26))).alloc (.cells #[.int .i64 0, .int .i64 0] 29)
  have BR := hid (jtwo_new (w := w8.alloc (.cells #[.int .i64 xk, .string xt, .slice xa2 xn2 xc2, .slice xa3 xn3 xc3] 26)) (.int .i64 0) (.int .i64 0) 29)
  rw [size_alloc1] at BR
  have BX := hid ((TA2.block w8.heap.size (by rw [size_alloc1]; omega) id).trans (jfour_new (w := w8) (.int .i64 xk) (.string xt) (.slice xa2 xn2 xc2) (.slice xa3 xn3 xc3) 26))
  have T9 := hid (T8.out.trans TA (fun _ _ e => e))
  have V9 := hid (V8.out.new TA)
  have U9 := hid (U8.out.new TA)
  have BV9 := hid ((TA.block p3 (lt_of_block BV8.out) id).trans BV8.out)
  clear TA TA2 T8 V8 U8 BV8
  generalize (w8.alloc (.cells #[.int .i64 xk, .string xt, .slice xa2 xn2 xc2, .slice xa3 xn3 xc3] 26)).alloc (.cells #[.int .i64 0, .int .i64 0] 29) = w9 at *
  generalize w8.heap.size + 1 = p8 at *
  generalize w8.heap.size = p7 at *
  have hlI : ¬ (1048576 : Int) < (T.size : Int) := by omega
  obtain ⟨⟨r0, r1⟩, _⟩ := cells2 BR.out
  obtain ⟨⟨q0, q1, q2, q3⟩, _⟩ := cells4 BV9.out
  obtain ⟨⟨x0, x1, x2, x3⟩, _⟩ := cells4 BX.out
  have KE := hid (show Calls Tryd.prog 15 #[.agg #[.int .i64 xk, .string xt, .slice xa2 xn2 xc2, .slice xa3 xn3 xc3], .agg #[.int .i64 rk, .string rt, .slice ra2 rn2 rc2, .slice ra3 rn3 rc3]] w9 _ from equal_any U9.out B2 ⟨rk, rt, .slice ra2 rn2 rc2, .slice ra3 rn3 rc3⟩ w9 V9.out (Touch.refl _ _))
  go_wp2_with fail
  refine KE.out.mono ?_
  rintro e wa ⟨rfl, ta⟩
  have TA := hid (T9.out.trans ta (fun _ _ e => e))
  have UA := hid (U9.out.new ta)
  have BXA := hid ((ta.block p7 (lt_of_block BX.out) id).trans BX.out)
  clear ta KE T9 V9 U9 BX BV9 BR r0 r1 q0 q1 q2 q3 x0 x1 x2 x3
  obtain ⟨⟨x0, x1, x2, x3⟩, _⟩ := cells4 BXA.out
  have KH := hid (show Calls Tryd.prog 10 #[.agg #[.int .i64 xk, .string xt, .slice xa2 xn2 xc2, .slice xa3 xn3 xc3]] wa _ from KSH.out B8 ⟨xk, xt, .slice xa2 xn2 xc2, .slice xa3 xn3 xc3⟩ wa UA.out (HT.out.new TA.out))
  go_wp2_with fail
  refine KH.out.mono ?_
  rintro e wb ⟨rfl, tb⟩
  have TB := hid (TA.out.trans tb (fun _ _ e => e))
  clear tb KH TA UA BXA x0 x1 x2 x3
  go_wp2
  go_ret
  exact ⟨rfl, TB.out⟩
end Go.Proofs.YtabhlhgfacpohaaDoor

/- JsonParses' walk where a text tells a value; condition: the two tables of coding lie there. -/
namespace Go.Proofs.YtabhlhgfacpohaaDoor
open Go.RowKit
open Go.Lib

set_option maxRecDepth 100000 in
set_option maxHeartbeats 16000000 in
theorem jsonParses_long (s : ByteArray) (w : World) (ht : Tabs w) (x : JV) (hP : parE s = .ok x) (hlong : 1048576 < (shB x).length) :
    Calls Tryd.prog 7 #[.string s] w fun e w' => e = .returned (.bool true) ∧ Touch (fun _ => False) w w' := by
  have KS := hid (speaks_yes w ht)
  have KP := hid (fun w' (ht' : Tabs w') => parse_any s w' ht')
  have KR := hid (fun w' => rparse_any s w')
  obtain ⟨hok, hlen⟩ := par_p hP
  have HOK := hid hok
  have KT := hid (fun w' (ht' : Tabs w') => parse_any ⟨(shB x).toArray⟩ w' ht')
  have hPT : parE ⟨(shB x).toArray⟩ = .error (2, 0) := by unfold parE; rw [if_pos (by rw [sh_size]; exact hlong)]
  rw [hPT] at KT
  unfold ParP zV fV at KT
  have hTs := sh_size x
  have KSH := hid (fun (B : Nat → Prop) (c : Cel) (w : World) (tv : TV w B c x) (ht : Tabs w) => Show_any hok B c w tv ht (by omega))
  rw [← hTs] at hlong
  rw [hP] at KP KR
  unfold ParP at KP
  unfold RParP at KR
  have HT := hid ht
  generalize (⟨(shB x).toArray⟩ : ByteArray) = T at *
  clear ht hP hok hlen hPT hTs
  go_enter Tryd.func7, Tryd.ntmps7
  go_wp2_with fail
  refine KS.out.mono ?_
  rintro e w1 ⟨rfl, t1⟩
  have T1 := hid t1
  clear t1 KS
  go_wp2_with fail
  refine (KP.out w1 (HT.out.new T1.out)).mono ?_
  rintro e w2 ⟨rk, rt, ra2, rn2, rc2, ra3, rn3, rc3, B2, rfl, tv, _, t2⟩
  have T2 := hid (T1.out.trans t2 (fun _ _ e => e))
  have V2 := hid tv
  clear t2 KP T1 tv
  go_upto_region 4 with fail
  have TA := ((Touch.refl (fun _ => False) w2).alloc (.cells #[.int .i64 rk, .string rt, .slice ra2 rn2 rc2, .slice ra3 rn3 rc3] 26)).alloc (.cells #[.int .i64 0, .int .i64 0] 29)
  have TA2 := (Touch.refl (fun _ => False) (w2.alloc (.cells #[.int .i64 rk, .string rt, .slice ra2 rn2 rc2, .slice ra3 rn3 rc3] 26))).alloc (.cells #[.int .i64 0, .int .i64 0] 29)
  have BR := hid (jtwo_new (w := w2.alloc (.cells #[.int .i64 rk, .string rt, .slice ra2 rn2 rc2, .slice ra3 rn3 rc3] 26)) (.int .i64 0) (.int .i64 0) 29)
  rw [size_alloc1] at BR
  have BV := hid ((TA2.block w2.heap.size (by rw [size_alloc1]; omega) id).trans (jfour_new (w := w2) (.int .i64 rk) (.string rt) (.slice ra2 rn2 rc2) (.slice ra3 rn3 rc3) 26))
  have T3 := hid (T2.out.trans TA (fun _ _ e => e))
  have V3 := hid (V2.out.new TA)
  clear TA TA2 T2 V2
  generalize (w2.alloc (.cells #[.int .i64 rk, .string rt, .slice ra2 rn2 rc2, .slice ra3 rn3 rc3] 26)).alloc (.cells #[.int .i64 0, .int .i64 0] 29) = w3 at *
  generalize w2.heap.size + 1 = p4 at *
  generalize w2.heap.size = p3 at *
  go_wp2_with fail
  refine (KR.out w3).mono ?_
  rintro e w4 ⟨da, dn, dc, dr, ds, B4, rfl, hdl, hdt, t4⟩
  have T4 := hid (T3.out.trans t4 (fun _ _ e => e))
  have V4 := hid (V3.out.new t4)
  have BR4 := hid ((t4.block p4 (lt_of_block BR.out) id).trans BR.out)
  have BV4 := hid ((t4.block p3 (lt_of_block BV.out) id).trans BV.out)
  have D4 := hid hdl
  have E4 := hid hdt
  clear t4 KR T3 BR BV hdl hdt V3
  go_upto_region 5 with fail
  have TA := (Touch.refl (fun _ => False) w4).alloc (.cells #[.slice da dn dc, .int .i64 (dr : Nat), .int .i64 0, .int .i64 0] 47)
  have BD := hid (jfour_new (w := w4) (.slice da dn dc) (.int .i64 (dr : Nat)) (.int .i64 0) (.int .i64 0) 47)
  have T5 := hid (T4.out.trans TA (fun _ _ e => e))
  have BR5 := hid ((TA.block p4 (lt_of_block BR4.out) id).trans BR4.out)
  have BV5 := hid ((TA.block p3 (lt_of_block BV4.out) id).trans BV4.out)
  have V5 := hid (V4.out.new TA)
  have D5 := hid (show DL _ (.slice da dn dc) ds from rowKept D4.out TA (fun _ _ e => e))
  have E5 := hid (E4.out.kept TA (fun _ _ e => e))
  clear TA T4 BR4 BV4 V4 D4 E4
  generalize w4.alloc (.cells #[.slice da dn dc, .int .i64 (dr : Nat), .int .i64 0, .int .i64 0] 47) = w5 at *
  generalize w4.heap.size = p5 at *
  obtain ⟨⟨r0, r1⟩, _⟩ := cells2 BR5.out
  obtain ⟨⟨q0, q1, q2, q3⟩, _⟩ := cells4 BV5.out
  obtain ⟨⟨d0, d1, d2, d3⟩, _⟩ := cells4 BD.out
  have KA := hid (show Calls Tryd.prog 18 #[.agg #[.int .i64 rk, .string rt, .slice ra2 rn2 rc2, .slice ra3 rn3 rc3], .agg #[.slice da dn dc, .int .i64 (dr : Nat), .int .i64 0, .int .i64 0], .int .i64 (dr : Nat)] w5 _ from alike_any V5.out B4 da dn dc ds (dr : Nat) dr w5 D5.out E5.out (Touch.refl _ _))
  clear BR5 BD D5 E5
  go_wp2_with fail
  refine KA.out.mono ?_
  rintro e w6 ⟨rfl, t6⟩
  have T6 := hid (T5.out.trans t6 (fun _ _ e => e))
  have V6 := hid (V5.out.new t6)
  have BV6 := hid ((t6.block p3 (lt_of_block BV5.out) id).trans BV5.out)
  clear t6 KA T5 V5 BV5 r0 r1 q0 q1 q2 q3 d0 d1 d2 d3
  obtain ⟨⟨q0, q1, q2, q3⟩, _⟩ := cells4 BV6.out
  have KH := hid (show Calls Tryd.prog 10 #[.agg #[.int .i64 rk, .string rt, .slice ra2 rn2 rc2, .slice ra3 rn3 rc3]] w6 _ from KSH.out B2 ⟨rk, rt, .slice ra2 rn2 rc2, .slice ra3 rn3 rc3⟩ w6 V6.out (HT.out.new T6.out))
  go_wp2_with fail
  refine KH.out.mono ?_
  rintro e w7 ⟨rfl, t7⟩
  have T7 := hid (T6.out.trans t7 (fun _ _ e => e))
  have V7 := hid (V6.out.new t7)
  have BV7 := hid ((t7.block p3 (lt_of_block BV6.out) id).trans BV6.out)
  clear t7 KH T6 V6 BV6 q0 q1 q2 q3
  go_wp2_with fail
  refine (KT.out w7 (HT.out.new T7.out)).mono ?_
  rintro e w8 ⟨rfl, t8⟩
  have T8 := hid (T7.out.trans t8 (fun _ _ e => e))
  clear t8 KT T7
  go_upto_region 13 with fail
  have TA := ((Touch.refl (fun _ => False) w8).alloc (.cells #[.int .i64 0, .string ⟨#[]⟩, .slice none 0 0, .slice none 0 0] 26)).alloc (.cells #[.int .i64 (2 : Nat), .int .i64 (0 : Nat)] 29)
  have T9 := hid (T8.out.trans TA (fun _ _ e => e))
  clear TA T8
  generalize (w8.alloc (.cells #[.int .i64 0, .string ⟨#[]⟩, .slice none 0 0, .slice none 0 0] 26)).alloc (.cells #[.int .i64 (2 : Nat), .int .i64 (0 : Nat)] 29) = w9 at *
  have hlI : (1048576 : Int) < (T.size : Int) := by omega
  go_wp2
  go_ret
  exact ⟨rfl, T9.out⟩
theorem jsonParses_walk (s : ByteArray) (w : World) (ht : Tabs w) (_hs : s.size ≤ 140737488355328) :
    Calls Tryd.prog 7 #[.string s] w fun e w' => e = .returned (.bool true) ∧ Touch (fun _ => False) w w' := by
  cases hP : parE s with
  | error e =>
    obtain ⟨ec, ek⟩ := e
    exact jsonParses_bad s w ht ec ek hP
  | ok x =>
    by_cases h : (shB x).length ≤ 1048576
    · exact jsonParses_short s w ht x hP h
    · exact jsonParses_long s w ht x hP (by omega)
end Go.Proofs.YtabhlhgfacpohaaDoor
