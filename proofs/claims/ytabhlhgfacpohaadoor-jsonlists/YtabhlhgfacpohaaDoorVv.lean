/- JsonLists' walk; condition: the two tables of coding lie there. -/
import Derived.Test.YtabhlhgfacpohaaDoorVu
namespace Go.Proofs.YtabhlhgfacpohaaDoor
open Go.RowKit
open Go.Lib

set_option maxRecDepth 100000 in
set_option maxHeartbeats 16000000 in
theorem jsonLists_walk (a0 : Option Addr) (n0 c0 : Nat) (X : Nat → ByteArray) (bk : Bool) (w : World) (ht : Tabs w) (hx : SR2 w a0 n0 X) (z0 : n0 ≤ 140737488355328) (sx : ∀ i, i < n0 → (X i).size ≤ 140737488355328) :
    Calls Tryd.prog 5 #[.slice a0 n0 c0, .bool bk] w fun e w' => e = .returned (.bool true) ∧ Touch (fun _ => False) w w' := by
  have KS := hid (speaks_yes w ht)
  have KP := hid (fun s w' (ht' : Tabs w') => parse_any s w' ht')
  have HT := hid ht
  have HX := hid hx
  have SX := hid sx
  obtain ⟨i6, hi26, hy0, hy1, hy2⟩ := info_parts info26b
  clear ht hx sx
  go_enter Tryd.func5, Tryd.ntmps5
  go_wp2_with fail
  refine KS.out.mono ?_
  rintro e w1 ⟨rfl, t1⟩
  have T1 := hid t1
  clear t1 KS
  go_wp2_with fail
  have L0 := hid (show WL w w1 (.slice none 0 0) [] [] (fun _ => False) from ⟨World.ownsRow_nil _ _ _ _, rfl, (fun i c x e => by cases e), (fun g e => e.elim), (fun g e => e.elim), (fun g e => by cases e), T1.out⟩)
  go_loopg [5, 6, 7, 8] 100 (fun gk v5 v6 v7 v8 wq => ∃ (k n : Nat) (ST : ByteArray) (a7 : Option Addr) (c7 : Nat) (ws : List ByteArray) (cs : List Cel) (xs : List JV) (B : Nat → Prop), k + gk = 100 ∧ v5 = .string ST ∧ v6 = .int .i64 (n : Nat) ∧ v7 = .slice a7 n c7 ∧ v8 = .int .i64 (k : Nat) ∧ Hid (ws.map parE = xs.map Except.ok) ∧ n ≤ k ∧ k ≤ n0 ∧ Hid (ST.data.toList = preB bk ws) ∧ Hid (ws.length = n ∧ ∀ w ∈ ws, w.size ≤ 9000) ∧ Hid (WL w wq (.slice a7 n c7) cs xs B))
  case atStart => exact ⟨0, 0, _, none, 0, [], [], [], _, by omega, rfl, rfl, rfl, rfl, hid rfl, by omega, by omega, hid rfl, hid ⟨rfl, fun w hw => by simp at hw⟩, L0⟩
  case round =>
    obtain ⟨k, n, ST, a7, c7, ws, cs, xs, B, hk, rfl, rfl, rfl, rfl, HM, hnk, hk0, HST, HNW, LK⟩ := hrel
    clear L0
    have HNC := hid (show n = cs.length from CL.len LK.out.kids)
    by_cases hin : k < n0 ∧ k < 100
    · obtain ⟨i1, i2⟩ := hin
      have j1 : (k : Int) < (n0 : Int) := by omega
      have j3 : (k : Int) < 100 := by omega
      obtain ⟨x0, rfl, hxb, hxc⟩ := (HX.out.new LK.out.touch).resolve_left (by omega)
      have ex := hxc k i1
      obtain ⟨XK, hXK⟩ : ∃ XK, XK = X k := ⟨_, rfl⟩
      rw [← hXK] at ex
      have hX1 := SX.out k i1
      rw [← hXK] at hX1
      clear hxc hXK
      have HA7 := hid (own_lt LK.out.kids)
      have HSZ := hid LK.out.touch.size
      have KP1 := hid (KP.out XK wr (HT.out.new LK.out.touch))
      go_wp2_with fail
      cases hP : parE XK with
      | error e0 =>
        obtain ⟨ec, ek⟩ := e0
        have hec : ec ≠ 0 := err_par hP
        rw [hP] at KP1
        unfold ParP zV fV at KP1
        have hbe : ((ec : Int) == 0) = false := by simp; omega
        clear hP
        refine KP1.out.mono ?_
        rintro e w4 ⟨rfl, t4⟩
        have L4 := hid (LK.out.new t4)
        clear t4 KP1 LK HA7
        go_upto_region 9 with fail
        have TA := ((Touch.refl (fun _ => False) w4).alloc (.cells #[.int .i64 0, .string ⟨#[]⟩, .slice none 0 0, .slice none 0 0] 26)).alloc (.cells #[.int .i64 (ec : Nat), .int .i64 (ek : Nat)] 29)
        have BR := hid (jtwo_new (w := w4.alloc (.cells #[.int .i64 0, .string ⟨#[]⟩, .slice none 0 0, .slice none 0 0] 26)) (.int .i64 (ec : Nat)) (.int .i64 (ek : Nat)) 29)
        rw [size_alloc1] at BR
        have L5 := hid (L4.out.new TA)
        clear TA L4
        generalize (w4.alloc (.cells #[.int .i64 0, .string ⟨#[]⟩, .slice none 0 0, .slice none 0 0] 26)).alloc (.cells #[.int .i64 (ec : Nat), .int .i64 (ek : Nat)] 29) = w5 at *
        obtain ⟨⟨r0, r1⟩, _⟩ := cells2 BR.out
        clear BR
        go_wp2
        go_roundg (gk - 1)
        case measure => omega
        case rel => exact ⟨k + 1, n, ST, a7, c7, ws, cs, xs, B, by omega, rfl, rfl, rfl, by go_num, HM, by omega, by omega, HST, HNW, L5⟩
      | ok x =>
        rw [hP] at KP1
        unfold ParP at KP1
        have HP := hid hP
        clear hP
        refine KP1.out.mono ?_
        rintro e w4 ⟨rk, rt, ra2, rn2, rc2, ra3, rn3, rc3, B2, rfl, tv, hB2, t4⟩
        have L4 := hid (LK.out.new t4)
        have e4 := (t4.cell (p := x0.add k) (by rw [add_block]; exact hxb) id).trans ex
        have hxb4 := Nat.lt_of_lt_of_le hxb t4.size
        have TV4 := hid tv
        have HB4 := hid hB2
        clear t4 KP1 LK tv hB2 ex hxb
        go_upto_region 9 with fail
        have TA := ((Touch.refl (fun _ => False) w4).alloc (.cells #[.int .i64 rk, .string rt, .slice ra2 rn2 rc2, .slice ra3 rn3 rc3] 26)).alloc (.cells #[.int .i64 0, .int .i64 0] 29)
        have TA2 := (Touch.refl (fun _ => False) (w4.alloc (.cells #[.int .i64 rk, .string rt, .slice ra2 rn2 rc2, .slice ra3 rn3 rc3] 26))).alloc (.cells #[.int .i64 0, .int .i64 0] 29)
        have BR := hid (jtwo_new (w := w4.alloc (.cells #[.int .i64 rk, .string rt, .slice ra2 rn2 rc2, .slice ra3 rn3 rc3] 26)) (.int .i64 0) (.int .i64 0) 29)
        rw [size_alloc1] at BR
        have BV := hid ((TA2.block w4.heap.size (by rw [size_alloc1]; omega) id).trans (jfour_new (w := w4) (.int .i64 rk) (.string rt) (.slice ra2 rn2 rc2) (.slice ra3 rn3 rc3) 26))
        have L6 := hid (L4.out.new TA)
        have TV6 := hid (TV4.out.kept TA (fun _ _ e => e))
        have e6 := (TA.cell (p := x0.add k) (by rw [add_block]; exact hxb4) id).trans e4
        have HB6 := hid (fun g e => (⟨(HB4.out g e).1, Nat.lt_of_lt_of_le (HB4.out g e).2 TA.size⟩ : _ ∧ _))
        clear TA TA2 L4 TV4 HB4 e4 hxb4
        generalize (w4.alloc (.cells #[.int .i64 rk, .string rt, .slice ra2 rn2 rc2, .slice ra3 rn3 rc3] 26)).alloc (.cells #[.int .i64 0, .int .i64 0] 29) = w6 at *
        generalize w4.heap.size + 1 = p10 at *
        generalize w4.heap.size = p9 at *
        obtain ⟨⟨r0, r1⟩, _⟩ := cells2 BR.out
        obtain ⟨⟨q0, q1, q2, q3⟩, _⟩ := cells4 BV.out
        clear BR BV
        by_cases hbig : (9000 : Int) < (XK.size : Int)
        · go_wp2
          go_roundg (gk - 1)
          case measure => omega
          case rel => exact ⟨k + 1, n, ST, a7, c7, ws, cs, xs, B, by omega, rfl, rfl, rfl, by go_num, HM, by omega, by omega, HST, HNW, L6⟩
        · have hXs : XK.size ≤ 9000 := by omega
          have hSTs : ST.size ≤ 901000 := by
            have h1 := (preB_len bk ws HNW.out.2).1
            have h2 := HNW.out.1
            rw [← HST.out, size_list] at h1
            omega
          by_cases hnz : 0 < n
          · have hnzI : (0 : Int) < (n : Int) := by omega
            cases bk with
            | true =>
              go_upto_region 15 with fail
              have OW6 := hid (show w6.ownsRow 0 26 4 (.slice a7 n c7) n (cs.flatMap Cel.cells) from by have := L6.out.kids; unfold CL at this; rw [← HNC.out] at this; exact this)
              go_wp2_with (at_builtin; (refine wpList_append_own_at _ rfl _ _ 24 rfl 0 26 i6 (.agg #[.int .i64 0, .string ⟨#[]⟩, .slice none 0 0, .slice none 0 0]) 4 72 Tryd.underlying24 hi26 hy0 hy1 hy2 rfl (by decide) _ _ _ rfl (OW6.out.alloc _) ⟨w6.heap.size, 0, none⟩ 1 1 [.int .i64 rk, .string rt, .slice ra2 rn2 rc2, .slice ra3 rn3 rc3] rfl rfl (row_new w6 [.int .i64 rk, .string rt, .slice ra2 rn2 rc2, .slice ra3 rn3 rc3] 26) (by intro u hu; simp at hu; rcases hu with rfl | rfl | rfl | rfl <;> rfl) (by unfold maxLen; omega) (by omega) (Nat.zero_le _) ?_))
              intro v' w7 hown hgrow _ hat
              have L7 := hid (WL.push (c := ⟨rk, rt, .slice ra2 rn2 rc2, .slice ra3 rn3 rc3⟩) L6.out (o := _) (w1 := wr) HA7.out HSZ.out TV6.out HB6.out HNC.out hown hgrow hat)
              obtain ⟨a8, c8, hv8⟩ := own_shape hown
              subst hv8
              clear hown hgrow hat OW6 L6
              go_wp2
              go_roundg (gk - 1)
              case measure => omega
              case rel =>
                refine ⟨k + 1, n + 1, ((ST ++ ⟨#[44]⟩) ++ ⟨#[32, 10]⟩) ++ XK, a8, c8, ws ++ [XK], cs ++ [_], xs ++ [x], _, by omega, rfl, by go_num, rfl, by go_num, hid ?_, by omega, by omega, hid ?_, hid ?_, L7⟩
                · rw [List.map_append, List.map_append, HM.out, List.map_cons, List.map_cons, HP.out]
                  rfl
                · rw [preB_more, if_neg (by intro e; have := HNW.out; rw [e] at this; simp at this; omega), ← HST.out]
                  simp only [app_list]
                  simp [bB]
                · refine ⟨by rw [List.length_append, ← HNW.out.1]; rfl, fun w hw => ?_⟩
                  rcases List.mem_append.1 hw with hw | hw
                  · exact HNW.out.2 w hw
                  · rw [List.mem_singleton.1 hw]
                    omega
            | false =>
              go_upto_region 15 with fail
              have OW6 := hid (show w6.ownsRow 0 26 4 (.slice a7 n c7) n (cs.flatMap Cel.cells) from by have := L6.out.kids; unfold CL at this; rw [← HNC.out] at this; exact this)
              go_wp2_with (at_builtin; (refine wpList_append_own_at _ rfl _ _ 24 rfl 0 26 i6 (.agg #[.int .i64 0, .string ⟨#[]⟩, .slice none 0 0, .slice none 0 0]) 4 72 Tryd.underlying24 hi26 hy0 hy1 hy2 rfl (by decide) _ _ _ rfl (OW6.out.alloc _) ⟨w6.heap.size, 0, none⟩ 1 1 [.int .i64 rk, .string rt, .slice ra2 rn2 rc2, .slice ra3 rn3 rc3] rfl rfl (row_new w6 [.int .i64 rk, .string rt, .slice ra2 rn2 rc2, .slice ra3 rn3 rc3] 26) (by intro u hu; simp at hu; rcases hu with rfl | rfl | rfl | rfl <;> rfl) (by unfold maxLen; omega) (by omega) (Nat.zero_le _) ?_))
              intro v' w7 hown hgrow _ hat
              have L7 := hid (WL.push (c := ⟨rk, rt, .slice ra2 rn2 rc2, .slice ra3 rn3 rc3⟩) L6.out (o := _) (w1 := wr) HA7.out HSZ.out TV6.out HB6.out HNC.out hown hgrow hat)
              obtain ⟨a8, c8, hv8⟩ := own_shape hown
              subst hv8
              clear hown hgrow hat OW6 L6
              go_wp2
              go_roundg (gk - 1)
              case measure => omega
              case rel =>
                refine ⟨k + 1, n + 1, (ST ++ ⟨#[44]⟩) ++ XK, a8, c8, ws ++ [XK], cs ++ [_], xs ++ [x], _, by omega, rfl, by go_num, rfl, by go_num, hid ?_, by omega, by omega, hid ?_, hid ?_, L7⟩
                · rw [List.map_append, List.map_append, HM.out, List.map_cons, List.map_cons, HP.out]
                  rfl
                · rw [preB_more, if_neg (by intro e; have := HNW.out; rw [e] at this; simp at this; omega), ← HST.out]
                  simp only [app_list]
                  simp [bB]
                · refine ⟨by rw [List.length_append, ← HNW.out.1]; rfl, fun w hw => ?_⟩
                  rcases List.mem_append.1 hw with hw | hw
                  · exact HNW.out.2 w hw
                  · rw [List.mem_singleton.1 hw]
                    omega
          · have hnzI : ¬ (0 : Int) < (n : Int) := by omega
            cases bk with
            | true =>
              go_upto_region 15 with fail
              have OW6 := hid (show w6.ownsRow 0 26 4 (.slice a7 n c7) n (cs.flatMap Cel.cells) from by have := L6.out.kids; unfold CL at this; rw [← HNC.out] at this; exact this)
              go_wp2_with (at_builtin; (refine wpList_append_own_at _ rfl _ _ 24 rfl 0 26 i6 (.agg #[.int .i64 0, .string ⟨#[]⟩, .slice none 0 0, .slice none 0 0]) 4 72 Tryd.underlying24 hi26 hy0 hy1 hy2 rfl (by decide) _ _ _ rfl (OW6.out.alloc _) ⟨w6.heap.size, 0, none⟩ 1 1 [.int .i64 rk, .string rt, .slice ra2 rn2 rc2, .slice ra3 rn3 rc3] rfl rfl (row_new w6 [.int .i64 rk, .string rt, .slice ra2 rn2 rc2, .slice ra3 rn3 rc3] 26) (by intro u hu; simp at hu; rcases hu with rfl | rfl | rfl | rfl <;> rfl) (by unfold maxLen; omega) (by omega) (Nat.zero_le _) ?_))
              intro v' w7 hown hgrow _ hat
              have L7 := hid (WL.push (c := ⟨rk, rt, .slice ra2 rn2 rc2, .slice ra3 rn3 rc3⟩) L6.out (o := _) (w1 := wr) HA7.out HSZ.out TV6.out HB6.out HNC.out hown hgrow hat)
              obtain ⟨a8, c8, hv8⟩ := own_shape hown
              subst hv8
              clear hown hgrow hat OW6 L6
              go_wp2
              go_roundg (gk - 1)
              case measure => omega
              case rel =>
                refine ⟨k + 1, n + 1, (ST ++ ⟨#[32, 10]⟩) ++ XK, a8, c8, ws ++ [XK], cs ++ [_], xs ++ [x], _, by omega, rfl, by go_num, rfl, by go_num, hid ?_, by omega, by omega, hid ?_, hid ?_, L7⟩
                · rw [List.map_append, List.map_append, HM.out, List.map_cons, List.map_cons, HP.out]
                  rfl
                · rw [preB_more, if_pos (by have := HNW.out; exact List.length_eq_zero_iff.1 (by omega)), ← HST.out]
                  simp only [app_list]
                  simp [bB]
                · refine ⟨by rw [List.length_append, ← HNW.out.1]; rfl, fun w hw => ?_⟩
                  rcases List.mem_append.1 hw with hw | hw
                  · exact HNW.out.2 w hw
                  · rw [List.mem_singleton.1 hw]
                    omega
            | false =>
              go_upto_region 15 with fail
              have OW6 := hid (show w6.ownsRow 0 26 4 (.slice a7 n c7) n (cs.flatMap Cel.cells) from by have := L6.out.kids; unfold CL at this; rw [← HNC.out] at this; exact this)
              go_wp2_with (at_builtin; (refine wpList_append_own_at _ rfl _ _ 24 rfl 0 26 i6 (.agg #[.int .i64 0, .string ⟨#[]⟩, .slice none 0 0, .slice none 0 0]) 4 72 Tryd.underlying24 hi26 hy0 hy1 hy2 rfl (by decide) _ _ _ rfl (OW6.out.alloc _) ⟨w6.heap.size, 0, none⟩ 1 1 [.int .i64 rk, .string rt, .slice ra2 rn2 rc2, .slice ra3 rn3 rc3] rfl rfl (row_new w6 [.int .i64 rk, .string rt, .slice ra2 rn2 rc2, .slice ra3 rn3 rc3] 26) (by intro u hu; simp at hu; rcases hu with rfl | rfl | rfl | rfl <;> rfl) (by unfold maxLen; omega) (by omega) (Nat.zero_le _) ?_))
              intro v' w7 hown hgrow _ hat
              have L7 := hid (WL.push (c := ⟨rk, rt, .slice ra2 rn2 rc2, .slice ra3 rn3 rc3⟩) L6.out (o := _) (w1 := wr) HA7.out HSZ.out TV6.out HB6.out HNC.out hown hgrow hat)
              obtain ⟨a8, c8, hv8⟩ := own_shape hown
              subst hv8
              clear hown hgrow hat OW6 L6
              go_wp2
              go_roundg (gk - 1)
              case measure => omega
              case rel =>
                refine ⟨k + 1, n + 1, ST ++ XK, a8, c8, ws ++ [XK], cs ++ [_], xs ++ [x], _, by omega, rfl, by go_num, rfl, by go_num, hid ?_, by omega, by omega, hid ?_, hid ?_, L7⟩
                · rw [List.map_append, List.map_append, HM.out, List.map_cons, List.map_cons, HP.out]
                  rfl
                · rw [preB_more, if_pos (by have := HNW.out; exact List.length_eq_zero_iff.1 (by omega)), ← HST.out]
                  simp only [app_list]
                  simp [bB]
                · refine ⟨by rw [List.length_append, ← HNW.out.1]; rfl, fun w hw => ?_⟩
                  rcases List.mem_append.1 hw with hw | hw
                  · exact HNW.out.2 w hw
                  · rw [List.mem_singleton.1 hw]
                    omega
    · have hI3 := hin
      by_cases j1 : (k : Int) < (n0 : Int)
      · have j3 : ¬ (k : Int) < 100 := by omega
        have hSTs : ST.size ≤ 901000 := by
          have h1 := (preB_len bk ws HNW.out.2).1
          have h2 := HNW.out.1
          rw [← HST.out, size_list] at h1
          omega
        have HPL := par_lst (ST ++ ⟨#[93]⟩) bk ws xs HM.out (by rw [app_list, HST.out]; exact preB_end bk ws) (by
          have h1 := (preB_len bk ws HNW.out.2).2
          rw [← HST.out, size_list] at h1
          rw [ByteArray.size_append]
          omega) (by rw [ByteArray.size_append]; show ST.size + 1 ≤ _; omega)
        have KP1 := hid (KP.out (ST ++ ⟨#[93]⟩) wr (HT.out.new LK.out.touch))
        generalize parE (ST ++ ⟨#[93]⟩) = RP at *
        go_wp2_with fail
        refine KP1.out.mono ?_
        clear KP1
        rcases HPL with rfl | ⟨ke, rfl⟩
        · rintro e w4 ⟨rk, rt, ra2, rn2, rc2, ra3, rn3, rc3, B2, rfl, tv, hB2, t4⟩
          have L4 := hid (LK.out.new t4)
          clear LK t4 hB2
          cases tv with
          | mk _ _ _ _ _ _ ds g2 _ g3 _ gl gk2 =>
          obtain rfl : rn3 = n := by have := CL.len g3; have := L4.out.len; have := HNC.out; omega
          go_upto_region 18 with fail
          have TA := ((Touch.refl (fun _ => False) w4).alloc (.cells #[.int .i64 5, .string ⟨#[]⟩, .slice ra2 rn2 rc2, .slice ra3 rn3 rc3] 26)).alloc (.cells #[.int .i64 0, .int .i64 0] 29)
          have TA2 := (Touch.refl (fun _ => False) (w4.alloc (.cells #[.int .i64 5, .string ⟨#[]⟩, .slice ra2 rn2 rc2, .slice ra3 rn3 rc3] 26))).alloc (.cells #[.int .i64 0, .int .i64 0] 29)
          have BR := hid (jtwo_new (w := w4.alloc (.cells #[.int .i64 5, .string ⟨#[]⟩, .slice ra2 rn2 rc2, .slice ra3 rn3 rc3] 26)) (.int .i64 0) (.int .i64 0) 29)
          rw [size_alloc1] at BR
          have BV := hid ((TA2.block w4.heap.size (by rw [size_alloc1]; omega) id).trans (jfour_new (w := w4) (.int .i64 5) (.string ⟨#[]⟩) (.slice ra2 rn2 rc2) (.slice ra3 rn3 rc3) 26))
          have L6 := hid (L4.out.new TA)
          have G3 := hid (rowKept g3 TA (fun _ _ e => e))
          have GK := hid (fun (i : Nat) (c : Cel) (x : JV) (h1 : ds[i]? = some c) (h2 : xs[i]? = some x) => (gk2 i c x h1 h2).kept TA (fun _ _ e => e))
          have GL := hid gl
          clear TA TA2 L4 g2 g3 gk2 gl
          generalize (w4.alloc (.cells #[.int .i64 5, .string ⟨#[]⟩, .slice ra2 rn2 rc2, .slice ra3 rn3 rc3] 26)).alloc (.cells #[.int .i64 0, .int .i64 0] 29) = w6 at *
          generalize w4.heap.size + 1 = p12 at *
          generalize w4.heap.size = p11 at *
          obtain ⟨⟨r0, r1⟩, _⟩ := cells2 BR.out
          obtain ⟨⟨q0, q1, q2, q3⟩, _⟩ := cells4 BV.out
          clear BR
          go_wp2_with fail
          clear r0 r1 q0 q1 q2 q3
          go_loopg [13] rn3 (fun gk v13 wq => ∃ i : Nat, v13 = .int .i64 (i : Nat) ∧ i + gk = rn3 ∧ Hid (Touch (fun _ => False) w6 wq))
          case atStart => exact ⟨0, rfl, by omega, hid (Touch.refl _ _)⟩
          case round =>
            obtain ⟨i, rfl, hig, TJ⟩ := hrel
            have Y1 := hid ((TJ.out.block p11 (lt_of_block BV.out) id).trans BV.out)
            obtain ⟨⟨_, _, _, p3⟩, _⟩ := cells4 Y1.out
            by_cases hil : i < rn3
            · have hiI : (i : Int) < (rn3 : Int) := by omega
              have hcl := HNC.out
              have hxl := L6.out.len
              have hdl := GL.out
              obtain ⟨cx, hcx⟩ : ∃ cx, ds[i]? = some cx := ⟨_, List.getElem?_eq_getElem (by omega)⟩
              obtain ⟨cy, hcy⟩ : ∃ cy, cs[i]? = some cy := ⟨_, List.getElem?_eq_getElem (by omega)⟩
              obtain ⟨tx, htx⟩ : ∃ tx, xs[i]? = some tx := ⟨_, List.getElem?_eq_getElem (by omega)⟩
              have TVx := GK.out i cx tx hcx htx
              have TVy := L6.out.trees i cy tx hcy htx
              obtain ⟨xk, xt, xa2, xn2, xc2, xa3, xn3, xc3, rfl⟩ := TVx.shape
              obtain ⟨yk, yt, ya2, yn2, yc2, ya3, yn3, yc3, rfl⟩ := TVy.shape
              obtain ⟨g1, rfl, e0, e1, e2, e3⟩ := CL.at (G3.out : CL w6 (.slice ra3 rn3 rc3) ds) i _ hcx
              obtain ⟨g2, rfl, d0, d1, d2', d3'⟩ := CL.at (L6.out.kids : CL w6 (.slice a7 rn3 c7) cs) i _ hcy
              dsimp only at e0 e1 e2 e3 d0 d1 d2' d3'
              have l1 := World.block_lt_of_cell? w6 _ e0
              have l2 := World.block_lt_of_cell? w6 _ d0
              replace e0 := (TJ.out.cell (p := ⟨g1, i * 4, none⟩) l1 id).trans e0
              replace e1 := (TJ.out.cell (p := ⟨g1, i * 4 + 1, none⟩) l1 id).trans e1
              replace e2 := (TJ.out.cell (p := ⟨g1, i * 4 + 2, none⟩) l1 id).trans e2
              replace e3 := (TJ.out.cell (p := ⟨g1, i * 4 + 3, none⟩) l1 id).trans e3
              replace d0 := (TJ.out.cell (p := ⟨g2, i * 4, none⟩) l2 id).trans d0
              replace d1 := (TJ.out.cell (p := ⟨g2, i * 4 + 1, none⟩) l2 id).trans d1
              replace d2' := (TJ.out.cell (p := ⟨g2, i * 4 + 2, none⟩) l2 id).trans d2'
              replace d3' := (TJ.out.cell (p := ⟨g2, i * 4 + 3, none⟩) l2 id).trans d3'
              have hen15 : ∀ args w, (callFunc 15 args).run Tryd.prog w = .ok (.enter 15 args) w := Go.Proofs.enters_of Tryd.func15 (by kernel_rfl) rfl
              have KE := hid (show Calls Tryd.prog 15 #[.agg #[.int .i64 xk, .string xt, .slice xa2 xn2 xc2, .slice xa3 xn3 xc3], .agg #[.int .i64 yk, .string yt, .slice ya2 yn2 yc2, .slice ya3 yn3 yc3]] wr.drew fun e w' => ∃ v, e = .returned v ∧ (v = .bool true ∧ Touch (fun _ => False) wr w') from (equal_any TVx _ _ wr.drew TVy TJ.out.drew).mono (fun e w' ⟨h1, h2⟩ => ⟨_, h1, rfl, (Touch.refl (fun _ => False) wr).drew.trans h2 (fun _ _ e => e)⟩))
              clear l1 l2 TVx TVy hcx hcy htx hcl hxl hdl
              go_wp2_with fail
              go_region_law (first
                | (refine step_call (by rfl) 15 _ _ (by rfl) #[.agg #[.int .i64 xk, .string xt, .slice xa2 xn2 xc2, .slice xa3 xn3 xc3], .agg #[.int .i64 yk, .string yt, .slice ya2 yn2 yc2, .slice ya3 yn3 yc3]] (by rfl) hen15 (fun v w' => v = .bool true ∧ Touch (fun _ => False) wr w') KE.out ?_
                   intro v w7 hr
                   obtain ⟨rfl, t7⟩ := hr
                   have T7 := hid t7
                   clear t7))
              all_goals
                go_wp2
                go_roundg (gk - 1)
                case measure => omega
                case rel => exact ⟨i + 1, by go_num, by omega, hid (TJ.out.trans T7.out (fun _ _ e => e))⟩
            · have hiI : ¬ (i : Int) < (rn3 : Int) := by omega
              go_wp2
              go_ret
              exact ⟨rfl, L6.out.touch.trans TJ.out (fun _ _ e => e)⟩
        · rintro e w4 ⟨rfl, t4⟩
          have L4 := hid (LK.out.new t4)
          clear LK t4
          unfold zV fV
          go_upto_region 18 with fail
          have TA := ((Touch.refl (fun _ => False) w4).alloc (.cells #[.int .i64 0, .string ⟨#[]⟩, .slice none 0 0, .slice none 0 0] 26)).alloc (.cells #[.int .i64 21, .int .i64 (ke : Nat)] 29)
          have BR := hid (jtwo_new (w := w4.alloc (.cells #[.int .i64 0, .string ⟨#[]⟩, .slice none 0 0, .slice none 0 0] 26)) (.int .i64 21) (.int .i64 (ke : Nat)) 29)
          rw [size_alloc1] at BR
          have L5 := hid (L4.out.new TA)
          clear TA L4
          generalize (w4.alloc (.cells #[.int .i64 0, .string ⟨#[]⟩, .slice none 0 0, .slice none 0 0] 26)).alloc (.cells #[.int .i64 21, .int .i64 (ke : Nat)] 29) = w5 at *
          obtain ⟨⟨r0, r1⟩, _⟩ := cells2 BR.out
          clear BR
          go_wp2
          go_ret
          exact ⟨rfl, L5.out.touch⟩
      · skip
        have hSTs : ST.size ≤ 901000 := by
          have h1 := (preB_len bk ws HNW.out.2).1
          have h2 := HNW.out.1
          rw [← HST.out, size_list] at h1
          omega
        have HPL := par_lst (ST ++ ⟨#[93]⟩) bk ws xs HM.out (by rw [app_list, HST.out]; exact preB_end bk ws) (by
          have h1 := (preB_len bk ws HNW.out.2).2
          rw [← HST.out, size_list] at h1
          rw [ByteArray.size_append]
          omega) (by rw [ByteArray.size_append]; show ST.size + 1 ≤ _; omega)
        have KP1 := hid (KP.out (ST ++ ⟨#[93]⟩) wr (HT.out.new LK.out.touch))
        generalize parE (ST ++ ⟨#[93]⟩) = RP at *
        go_wp2_with fail
        refine KP1.out.mono ?_
        clear KP1
        rcases HPL with rfl | ⟨ke, rfl⟩
        · rintro e w4 ⟨rk, rt, ra2, rn2, rc2, ra3, rn3, rc3, B2, rfl, tv, hB2, t4⟩
          have L4 := hid (LK.out.new t4)
          clear LK t4 hB2
          cases tv with
          | mk _ _ _ _ _ _ ds g2 _ g3 _ gl gk2 =>
          obtain rfl : rn3 = n := by have := CL.len g3; have := L4.out.len; have := HNC.out; omega
          go_upto_region 18 with fail
          have TA := ((Touch.refl (fun _ => False) w4).alloc (.cells #[.int .i64 5, .string ⟨#[]⟩, .slice ra2 rn2 rc2, .slice ra3 rn3 rc3] 26)).alloc (.cells #[.int .i64 0, .int .i64 0] 29)
          have TA2 := (Touch.refl (fun _ => False) (w4.alloc (.cells #[.int .i64 5, .string ⟨#[]⟩, .slice ra2 rn2 rc2, .slice ra3 rn3 rc3] 26))).alloc (.cells #[.int .i64 0, .int .i64 0] 29)
          have BR := hid (jtwo_new (w := w4.alloc (.cells #[.int .i64 5, .string ⟨#[]⟩, .slice ra2 rn2 rc2, .slice ra3 rn3 rc3] 26)) (.int .i64 0) (.int .i64 0) 29)
          rw [size_alloc1] at BR
          have BV := hid ((TA2.block w4.heap.size (by rw [size_alloc1]; omega) id).trans (jfour_new (w := w4) (.int .i64 5) (.string ⟨#[]⟩) (.slice ra2 rn2 rc2) (.slice ra3 rn3 rc3) 26))
          have L6 := hid (L4.out.new TA)
          have G3 := hid (rowKept g3 TA (fun _ _ e => e))
          have GK := hid (fun (i : Nat) (c : Cel) (x : JV) (h1 : ds[i]? = some c) (h2 : xs[i]? = some x) => (gk2 i c x h1 h2).kept TA (fun _ _ e => e))
          have GL := hid gl
          clear TA TA2 L4 g2 g3 gk2 gl
          generalize (w4.alloc (.cells #[.int .i64 5, .string ⟨#[]⟩, .slice ra2 rn2 rc2, .slice ra3 rn3 rc3] 26)).alloc (.cells #[.int .i64 0, .int .i64 0] 29) = w6 at *
          generalize w4.heap.size + 1 = p12 at *
          generalize w4.heap.size = p11 at *
          obtain ⟨⟨r0, r1⟩, _⟩ := cells2 BR.out
          obtain ⟨⟨q0, q1, q2, q3⟩, _⟩ := cells4 BV.out
          clear BR
          go_wp2_with fail
          clear r0 r1 q0 q1 q2 q3
          go_loopg [13] rn3 (fun gk v13 wq => ∃ i : Nat, v13 = .int .i64 (i : Nat) ∧ i + gk = rn3 ∧ Hid (Touch (fun _ => False) w6 wq))
          case atStart => exact ⟨0, rfl, by omega, hid (Touch.refl _ _)⟩
          case round =>
            obtain ⟨i, rfl, hig, TJ⟩ := hrel
            have Y1 := hid ((TJ.out.block p11 (lt_of_block BV.out) id).trans BV.out)
            obtain ⟨⟨_, _, _, p3⟩, _⟩ := cells4 Y1.out
            by_cases hil : i < rn3
            · have hiI : (i : Int) < (rn3 : Int) := by omega
              have hcl := HNC.out
              have hxl := L6.out.len
              have hdl := GL.out
              obtain ⟨cx, hcx⟩ : ∃ cx, ds[i]? = some cx := ⟨_, List.getElem?_eq_getElem (by omega)⟩
              obtain ⟨cy, hcy⟩ : ∃ cy, cs[i]? = some cy := ⟨_, List.getElem?_eq_getElem (by omega)⟩
              obtain ⟨tx, htx⟩ : ∃ tx, xs[i]? = some tx := ⟨_, List.getElem?_eq_getElem (by omega)⟩
              have TVx := GK.out i cx tx hcx htx
              have TVy := L6.out.trees i cy tx hcy htx
              obtain ⟨xk, xt, xa2, xn2, xc2, xa3, xn3, xc3, rfl⟩ := TVx.shape
              obtain ⟨yk, yt, ya2, yn2, yc2, ya3, yn3, yc3, rfl⟩ := TVy.shape
              obtain ⟨g1, rfl, e0, e1, e2, e3⟩ := CL.at (G3.out : CL w6 (.slice ra3 rn3 rc3) ds) i _ hcx
              obtain ⟨g2, rfl, d0, d1, d2', d3'⟩ := CL.at (L6.out.kids : CL w6 (.slice a7 rn3 c7) cs) i _ hcy
              dsimp only at e0 e1 e2 e3 d0 d1 d2' d3'
              have l1 := World.block_lt_of_cell? w6 _ e0
              have l2 := World.block_lt_of_cell? w6 _ d0
              replace e0 := (TJ.out.cell (p := ⟨g1, i * 4, none⟩) l1 id).trans e0
              replace e1 := (TJ.out.cell (p := ⟨g1, i * 4 + 1, none⟩) l1 id).trans e1
              replace e2 := (TJ.out.cell (p := ⟨g1, i * 4 + 2, none⟩) l1 id).trans e2
              replace e3 := (TJ.out.cell (p := ⟨g1, i * 4 + 3, none⟩) l1 id).trans e3
              replace d0 := (TJ.out.cell (p := ⟨g2, i * 4, none⟩) l2 id).trans d0
              replace d1 := (TJ.out.cell (p := ⟨g2, i * 4 + 1, none⟩) l2 id).trans d1
              replace d2' := (TJ.out.cell (p := ⟨g2, i * 4 + 2, none⟩) l2 id).trans d2'
              replace d3' := (TJ.out.cell (p := ⟨g2, i * 4 + 3, none⟩) l2 id).trans d3'
              have hen15 : ∀ args w, (callFunc 15 args).run Tryd.prog w = .ok (.enter 15 args) w := Go.Proofs.enters_of Tryd.func15 (by kernel_rfl) rfl
              have KE := hid (show Calls Tryd.prog 15 #[.agg #[.int .i64 xk, .string xt, .slice xa2 xn2 xc2, .slice xa3 xn3 xc3], .agg #[.int .i64 yk, .string yt, .slice ya2 yn2 yc2, .slice ya3 yn3 yc3]] wr.drew fun e w' => ∃ v, e = .returned v ∧ (v = .bool true ∧ Touch (fun _ => False) wr w') from (equal_any TVx _ _ wr.drew TVy TJ.out.drew).mono (fun e w' ⟨h1, h2⟩ => ⟨_, h1, rfl, (Touch.refl (fun _ => False) wr).drew.trans h2 (fun _ _ e => e)⟩))
              clear l1 l2 TVx TVy hcx hcy htx hcl hxl hdl
              go_wp2_with fail
              go_region_law (first
                | (refine step_call (by rfl) 15 _ _ (by rfl) #[.agg #[.int .i64 xk, .string xt, .slice xa2 xn2 xc2, .slice xa3 xn3 xc3], .agg #[.int .i64 yk, .string yt, .slice ya2 yn2 yc2, .slice ya3 yn3 yc3]] (by rfl) hen15 (fun v w' => v = .bool true ∧ Touch (fun _ => False) wr w') KE.out ?_
                   intro v w7 hr
                   obtain ⟨rfl, t7⟩ := hr
                   have T7 := hid t7
                   clear t7))
              all_goals
                go_wp2
                go_roundg (gk - 1)
                case measure => omega
                case rel => exact ⟨i + 1, by go_num, by omega, hid (TJ.out.trans T7.out (fun _ _ e => e))⟩
            · have hiI : ¬ (i : Int) < (rn3 : Int) := by omega
              go_wp2
              go_ret
              exact ⟨rfl, L6.out.touch.trans TJ.out (fun _ _ e => e)⟩
        · rintro e w4 ⟨rfl, t4⟩
          have L4 := hid (LK.out.new t4)
          clear LK t4
          unfold zV fV
          go_upto_region 18 with fail
          have TA := ((Touch.refl (fun _ => False) w4).alloc (.cells #[.int .i64 0, .string ⟨#[]⟩, .slice none 0 0, .slice none 0 0] 26)).alloc (.cells #[.int .i64 21, .int .i64 (ke : Nat)] 29)
          have BR := hid (jtwo_new (w := w4.alloc (.cells #[.int .i64 0, .string ⟨#[]⟩, .slice none 0 0, .slice none 0 0] 26)) (.int .i64 21) (.int .i64 (ke : Nat)) 29)
          rw [size_alloc1] at BR
          have L5 := hid (L4.out.new TA)
          clear TA L4
          generalize (w4.alloc (.cells #[.int .i64 0, .string ⟨#[]⟩, .slice none 0 0, .slice none 0 0] 26)).alloc (.cells #[.int .i64 21, .int .i64 (ke : Nat)] 29) = w5 at *
          obtain ⟨⟨r0, r1⟩, _⟩ := cells2 BR.out
          clear BR
          go_wp2
          go_ret
          exact ⟨rfl, L5.out.touch⟩
end Go.Proofs.YtabhlhgfacpohaaDoor
