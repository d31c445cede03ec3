/- Texts of this proof, one behind the other: what each says stands ahead of it. -/
import Derived.Test.YtpjnnbegimaaeaaDoorM11
import Derived.Test.YtpjnnbegimaaeaaDoorM15
import Derived.Deep.RegionHeld3
/- CodingJoined's walk: two texts that are whole, one behind the other, are the scalars of both; conditions: the lists are together of at most 1048576 numbers. -/
namespace Go.Proofs.YtpjnnbegimaaeaaDoor
open Go.RowKit
open Go.Lib

theorem step_append_ix (w : World) {ops : Array Oper} {o : Oper} {a : Act} {K : Act → World → Prop} {Q : Exit → Act → World → Prop} {E : Prop} (s x : Operand)
    (ho : o.op = .call { callee := .builtin .append, args := #[s, x], argTypes := #[23, 23] }) (hw : Region.wanted o (yielded ops a.tmps) = true)
    (v : Value) (n : Nat) (xs : List Value) (hs : a.eval s = v) (hown : w.ownsRow 0 3 1 v n xs) (ad : Option Addr) (c : Nat) (l : List Int) (m : Nat) (hm : m = l.length) (hx : a.eval x = .slice ad m c) (hl : Ix w ad l) (hb : (n + l.length) * 8 ≤ 140737488355328)
    (h : ∀ v' w', w'.ownsRow 0 3 1 v' (n + l.length) (xs ++ encI l) → w.grownBy w' v.ownBlock → (v'.ownBlock = v.ownBlock ∨ v'.ownBlock = some w.heap.size) → K (a.put o.dst v') w') :
    if Region.wanted o (yielded ops a.tmps) = true then Oper.wp Tryd.prog o a w K Q else E := by
  subst hm
  rw [if_pos hw]
  obtain ⟨v', w', hr, h2, h3, h4⟩ := run_append_ix w o.type v n xs hown ad c l hl hb
  unfold Oper.wp execOp
  simp only [ho, resolve, invoke, builtin, Sem.run_bind, Sem.run_pure, Result.andThen_ok, List.map_toArray, List.map_cons, List.map_nil, hs, hx, hr]
  exact h v' w' h2 h3 h4
theorem join_lay (c : Nat) (hc : c = 1 ∨ c = 2 ∨ c = 3) (l m : List Int) (h1 : l.all (okc c) = true) (h2 : m.all (okc c) = true) :
    (65279 :: (l ++ m)).all (okc c) = true ∧ (encS c true l ++ encS c false m).size = ((65279 :: (l ++ m)).flatMap (enc c)).length ∧ Lays (encS c true l ++ encS c false m) 0 ((65279 :: (l ++ m)).flatMap (enc c)) := by
  have ha : (65279 :: (l ++ m)).all (okc c) = true := by
    rw [List.all_cons, List.all_append, (mk_enc c hc).2.2, h1, h2]
    rfl
  have e : encS c true l ++ encS c false m = strOfNums ((65279 :: (l ++ m)).flatMap (enc c)) := by
    unfold encS
    rw [str_app, ← List.flatMap_append]
    congr 2
    unfold fullL
    rw [if_pos ⟨rfl, by omega⟩, if_neg (fun e => by cases e.1)]
    rfl
  rw [e]
  exact ⟨ha, lay_str _ (flat_in c (by omega) _ ha)⟩
theorem encR_sum {c : Nat} (hc : c = 1 ∨ c = 2 ∨ c = 3 ∨ c = 4) (mark : Bool) (l : List Int) : ∃ s n, encR c mark l = .tuple #[.string s, .int .i64 n] ∧ (n = 17 ∨ (n = 0 ∧ l.all (okc c) = true ∧ s = encS c mark l)) := by
  cases h : l.all (okc c)
  · exact ⟨_, _, encR_no h, .inl rfl⟩
  · exact ⟨_, _, encR_yes hc h, .inr ⟨rfl, rfl, rfl⟩⟩
theorem add_none (a : Addr) : a.add 0 = a := by
  unfold Addr.add
  split <;> simp_all
set_option maxRecDepth 100000 in
set_option maxHeartbeats 16000000 in
theorem codingJoined_walk (a : Option Addr) (k : Nat) (l : List Int) (b : Option Addr) (j : Nat) (m : List Int) (c : Int) (w : World) (ht : Tabs w) (hx : Ix w a l) (hb : l.length ≤ 1048576) (hy : Ix w b m) (hb2 : m.length ≤ 1048576) : Calls Tryd.prog 7 #[.slice a l.length k, .slice b m.length j, .int .i64 c] w fun e w' => e = .returned (.bool true) ∧ Touch (fun _ => False) w w' := by
  have HT := hid ht
  have HX := hid hx
  have HY := hid hy
  clear ht hx hy
  go_enter Tryd.func7, Tryd.ntmps7
  go_wp2_with fail
  refine (speaks_yes w HT.out).mono ?_
  rintro e w1 ⟨rfl, t1⟩
  have TC := hid t1
  replace HX := hid (HX.out.new t1)
  replace HY := hid (HY.out.new t1)
  clear t1
  go_upto_region 3 with fail
  go_cut [31] (fun v wd => w1 = wd ∧ (v = .bool true ∨ (v = .bool false ∧ (c = 1 ∨ c = 2 ∨ c = 3))))
  case first =>
    by_cases h1 : c < 1
    · go_wp2
      go_meet
      case rel => exact ⟨rfl, .inl rfl⟩
    · by_cases h3 : 3 < c
      · go_wp2
        go_meet
        case rel => exact ⟨rfl, .inl rfl⟩
      · have HC := hid (show c = 1 ∨ c = 2 ∨ c = 3 by omega)
        cases m with
        | nil =>
          go_wp2
          go_meet
          case rel => exact ⟨rfl, .inr ⟨rfl, HC.out⟩⟩
        | cons x m =>
          obtain ⟨y, rfl, hc0, hxt⟩ := HY.out.tail
          rw [add_none] at hc0
          clear hxt
          by_cases hx : x = 65279
          · subst hx
            go_wp2
            go_meet
            case rel => exact ⟨rfl, .inl rfl⟩
          · go_wp2
            go_meet
            case rel => exact ⟨rfl, .inr ⟨by rw [beq_eq_false_iff_ne.2 hx], HC.out⟩⟩
  obtain ⟨rfl, hv⟩ := hcut
  rcases hv with rfl | ⟨rfl, rfl | rfl | rfl⟩
  · have ON := hid (OwI.none w1)
    have HX2 := hid (HX.out.new ON.out.touch)
    go_wp2_with (at_builtin; refine wpList_append_ix _ rfl _ _ rfl _ 0 [] rfl ON.out.own a k l _ rfl rfl HX2.out (by omega) ?_)
    intro v2 w2 hown hgrow hat
    have O2 := hid (show OwI w1 w2 v2 l from ON.out.grow (e := []) (by simpa [encI] using hown) hgrow (hat.imp id (fun e => e.trans (by simp))))
    clear hown hgrow hat ON HX2
    obtain ⟨a2, k2, hv2, hg2⟩ := O2.out.sh
    subst hv2
    have T2 := hid O2.out.touch
    have KE := hid (encode_1 a2 k2 l true w2 (HT.out.new (TC.out.trans T2.out (fun _ _ e => e))) hg2 hb)
    clear hg2 O2
    obtain ⟨s1, n1, hs1, hn1⟩ := encR_sum (c := 1) (by decide) true l
    rw [hs1] at KE
    have HN1 := hid hn1
    clear hs1 hn1
    go_wp2_with fail
    refine KE.out.mono ?_
    rintro e w3 ⟨rfl, t3⟩
    have T3 := hid (T2.out.trans t3 (fun _ _ e => e))
    clear t3 T2 KE
    have ON := hid (OwI.none w3)
    have HY2 := hid ((HY.out.new T3.out).new ON.out.touch)
    go_wp2_with (at_builtin; refine wpList_append_ix _ rfl _ _ rfl _ 0 [] rfl ON.out.own b j m _ rfl rfl HY2.out (by omega) ?_)
    intro v4 w4 hown hgrow hat
    have O4 := hid (show OwI w3 w4 v4 m from ON.out.grow (e := []) (by simpa [encI] using hown) hgrow (hat.imp id (fun e => e.trans (by simp))))
    clear hown hgrow hat ON HY2
    obtain ⟨a4, k4, hv4, hg4⟩ := O4.out.sh
    subst hv4
    have T4 := hid (T3.out.trans O4.out.touch (fun _ _ e => e))
    have KE := hid (encode_1 a4 k4 m false w4 (HT.out.new (TC.out.trans T4.out (fun _ _ e => e))) hg4 hb2)
    clear hg4 O4 T3
    obtain ⟨s2, n2, hs2, hn2⟩ := encR_sum (c := 1) (by decide) false m
    rw [hs2] at KE
    have HN2 := hid hn2
    clear hs2 hn2
    go_wp2_with fail
    refine KE.out.mono ?_
    rintro e w5 ⟨rfl, t5⟩
    have T5 := hid (T4.out.trans t5 (fun _ _ e => e))
    clear t5 T4 KE
    rcases HN1.out with hn1 | ⟨hn1, hok1, hs1⟩
    · subst hn1
      clear HN1 HN2
      go_wp2
      go_ret
      exact ⟨rfl, TC.out.trans T5.out (fun _ _ e => e)⟩
    rcases HN2.out with hn2 | ⟨hn2, hok2, hs2⟩
    · subst hn1 hn2
      clear HN1 HN2 hok1 hs1
      go_wp2
      go_ret
      exact ⟨rfl, TC.out.trans T5.out (fun _ _ e => e)⟩
    obtain ⟨g1, g2, g3⟩ := join_lay 1 (by decide) l m hok1 hok2
    have z1 := encS_size (c := 1) (by decide) true hok1
    have z2 := encS_size (c := 1) (by decide) false hok2
    rw [← hs1, ← hs2] at g2 g3
    rw [← hs1] at z1
    rw [← hs2] at z2
    have KD : Hid (∀ w3, Tabs w3 → Calls Tryd.prog 10 #[.string (s1 ++ s2), .int .i64 1, .bool true] w3 fun e w' => ∃ a1 n1 k1 a2 n2 k2, e = .returned (.tuple #[.agg #[.int .i64 1, .slice a1 n1 k1, .slice a2 n2 k2, .int .i64 0], .agg #[.int .i64 0, .int .i64 0]]) ∧ n1 = (l ++ m).length ∧ Ix w' a1 (l ++ m) ∧ Touch (fun _ => False) w3 w') :=
      hid (fun w3 ht3 => decode_same 1 (by decide) (65279 :: (l ++ m)) g1 (s1 ++ s2) g2 g3 w3 ht3 (by rw [ByteArray.size_append]; omega))
    subst hn1 hn2
    clear HN1 HN2 hok1 hok2 hs1 hs2 g1 g2 g3
    go_wp2_with fail
    refine (KD.out w5 (HT.out.new (TC.out.trans T5.out (fun _ _ e => e)))).mono ?_
    rintro e w6 ⟨a1, n1, k1, a3, n3, k3, rfl, hn1, hi, t6⟩
    have T6 := hid (T5.out.trans t6 (fun _ _ e => e))
    have HI := hid hi
    have HN := hid hn1
    clear hi hn1 t6 KD T5
    have B1 := hid (RB2.made w6 (.int .i64 1) (.slice a1 n1 k1) (.slice a3 n3 k3) (.int .i64 0) (.int .i64 0) (.int .i64 0))
    have TA := hid (((Touch.refl (fun _ => False) w6).alloc (.cells #[.int .i64 1, .slice a1 n1 k1, .slice a3 n3 k3, .int .i64 0] 25)).alloc (.cells #[.int .i64 0, .int .i64 0] 28))
    go_upto_region 10 with fail
    generalize ((w6.alloc (.cells #[.int .i64 1, .slice a1 n1 k1, .slice a3 n3 k3, .int .i64 0] 25)).alloc (.cells #[.int .i64 0, .int .i64 0] 28)) = w7 at *
    obtain ⟨q, hq⟩ : ∃ q, q = w6.heap.size := ⟨_, rfl⟩
    rw [← hq] at B1 ⊢
    clear hq
    have T7 := hid (T6.out.trans TA.out (fun _ _ e => e))
    replace HI := hid (HI.out.new TA.out)
    have HX7 := hid (HX.out.new T7.out)
    have HY7 := hid (HY.out.new T7.out)
    have TT := hid (TC.out.trans T7.out (fun _ _ e => e))
    clear T6 TA T7
    obtain ⟨⟨q0, q1, q2, q3⟩, _⟩ := four_cells' B1.out.a
    obtain ⟨⟨p0, p1⟩, _⟩ := two_cells B1.out.b
    have hqb := World.block_lt_of_cell? w7 _ q1
    have hpb := World.block_lt_of_cell? w7 _ p0
    have ON := hid (OwI.none w7)
    clear B1
    have HLM := hid (show l.length + m.length = (l ++ m).length by rw [List.length_append])
    have HLB := hid (show (l ++ m).length ≤ 1099511627776 by rw [List.length_append]; omega)
    have HXd := hid (HX7.out.new ON.out.touch.drew)
    go_region_held3 (fun w' => w'.cell? ⟨q, 1, none⟩ = some (.slice a1 n1 k1) ∧ w'.cell? ⟨q + 1, 0, none⟩ = some (.int .i64 0) ∧ w'.cell? ⟨q + 1, 1, none⟩ = some (.int .i64 0))
      (first | go_keep | exact ⟨((T10.out).cell (p := ⟨q, 1, none⟩) hqb id).trans q1, ((T10.out).cell (p := ⟨q + 1, 0, none⟩) hpb id).trans p0, ((T10.out).cell (p := ⟨q + 1, 1, none⟩) hpb id).trans p1⟩ | exact ⟨((O9.out.touch).cell (p := ⟨q, 1, none⟩) hqb id).trans q1, ((O9.out.touch).cell (p := ⟨q + 1, 0, none⟩) hpb id).trans p0, ((O9.out.touch).cell (p := ⟨q + 1, 1, none⟩) hpb id).trans p1⟩ | exact ⟨((O8.out.touch).cell (p := ⟨q, 1, none⟩) hqb id).trans q1, ((O8.out.touch).cell (p := ⟨q + 1, 0, none⟩) hpb id).trans p0, ((O8.out.touch).cell (p := ⟨q + 1, 1, none⟩) hpb id).trans p1⟩)
      (first
        | (go_at_call 15
           refine (ints_ix a1 a9 k1 k9 n1 (l.length + m.length) (l ++ m) w9 (HI.out.new O9.out.touch) HZ9.out HN.out HLM.out HLB.out).mono ?_
           rintro e w10 ⟨rfl, t10⟩
           have T10 := hid (O9.out.touch.trans t10 (fun _ _ e => e))
           clear t10 O9)
        | (refine step_append_ix _ _ _ (by rfl) (by rfl) _ 0 [] (by rfl) ON.out.own.drew a k l _ rfl (by rfl) HXd.out (by omega) ?_
           intro v8 w8 hown8 hgrow8 hat8
           have O8 := hid (show OwI w7 w8 v8 l from ON.out.grow (e := []) (by simpa [encI] using hown8) ⟨hgrow8.os, hgrow8.tape, hgrow8.output, hgrow8.size, hgrow8.block⟩ (hat8.imp id (fun e => e.trans (by simp))))
           have HYd := hid (HY7.out.new O8.out.touch.drew)
           clear hown8 hgrow8 hat8 ON)
        | (refine step_append_ix _ _ _ (by rfl) (by rfl) _ _ _ (by rfl) O8.out.own.drew b j m _ rfl (by rfl) HYd.out (by omega) ?_
           intro v9 w9 hown9 hgrow9 hat9
           have O9 := hid (show OwI w7 w9 v9 (l ++ m) from O8.out.grow hown9 ⟨hgrow9.os, hgrow9.tape, hgrow9.output, hgrow9.size, hgrow9.block⟩ (hat9.imp id (fun e => e.trans (by simp))))
           obtain ⟨a9, k9, hv9, hg9⟩ := O9.out.sh
           subst hv9
           have HZ9 := hid (show Ix w9 a9 (l ++ m) from hg9.elim .inl Ig.ix)
           clear hown9 hgrow9 hat9 hg9 O8 HYd))
    all_goals
      go_wp2
      go_ret
      exact ⟨rfl, TT.out.trans T10.out (fun _ _ e => e)⟩
  · have ON := hid (OwI.none w1)
    have HX2 := hid (HX.out.new ON.out.touch)
    go_wp2_with (at_builtin; refine wpList_append_ix _ rfl _ _ rfl _ 0 [] rfl ON.out.own a k l _ rfl rfl HX2.out (by omega) ?_)
    intro v2 w2 hown hgrow hat
    have O2 := hid (show OwI w1 w2 v2 l from ON.out.grow (e := []) (by simpa [encI] using hown) hgrow (hat.imp id (fun e => e.trans (by simp))))
    clear hown hgrow hat ON HX2
    obtain ⟨a2, k2, hv2, hg2⟩ := O2.out.sh
    subst hv2
    have T2 := hid O2.out.touch
    have KE := hid (encode_1 a2 k2 l true w2 (HT.out.new (TC.out.trans T2.out (fun _ _ e => e))) hg2 hb)
    clear hg2 O2
    obtain ⟨s1, n1, hs1, hn1⟩ := encR_sum (c := 1) (by decide) true l
    rw [hs1] at KE
    have HN1 := hid hn1
    clear hs1 hn1
    go_wp2_with fail
    refine KE.out.mono ?_
    rintro e w3 ⟨rfl, t3⟩
    have T3 := hid (T2.out.trans t3 (fun _ _ e => e))
    clear t3 T2 KE
    have ON := hid (OwI.none w3)
    have HY2 := hid ((HY.out.new T3.out).new ON.out.touch)
    go_wp2_with (at_builtin; refine wpList_append_ix _ rfl _ _ rfl _ 0 [] rfl ON.out.own b j m _ rfl rfl HY2.out (by omega) ?_)
    intro v4 w4 hown hgrow hat
    have O4 := hid (show OwI w3 w4 v4 m from ON.out.grow (e := []) (by simpa [encI] using hown) hgrow (hat.imp id (fun e => e.trans (by simp))))
    clear hown hgrow hat ON HY2
    obtain ⟨a4, k4, hv4, hg4⟩ := O4.out.sh
    subst hv4
    have T4 := hid (T3.out.trans O4.out.touch (fun _ _ e => e))
    have KE := hid (encode_1 a4 k4 m false w4 (HT.out.new (TC.out.trans T4.out (fun _ _ e => e))) hg4 hb2)
    clear hg4 O4 T3
    obtain ⟨s2, n2, hs2, hn2⟩ := encR_sum (c := 1) (by decide) false m
    rw [hs2] at KE
    have HN2 := hid hn2
    clear hs2 hn2
    go_wp2_with fail
    refine KE.out.mono ?_
    rintro e w5 ⟨rfl, t5⟩
    have T5 := hid (T4.out.trans t5 (fun _ _ e => e))
    clear t5 T4 KE
    rcases HN1.out with hn1 | ⟨hn1, hok1, hs1⟩
    · subst hn1
      clear HN1 HN2
      go_wp2
      go_ret
      exact ⟨rfl, TC.out.trans T5.out (fun _ _ e => e)⟩
    rcases HN2.out with hn2 | ⟨hn2, hok2, hs2⟩
    · subst hn1 hn2
      clear HN1 HN2 hok1 hs1
      go_wp2
      go_ret
      exact ⟨rfl, TC.out.trans T5.out (fun _ _ e => e)⟩
    obtain ⟨g1, g2, g3⟩ := join_lay 1 (by decide) l m hok1 hok2
    have z1 := encS_size (c := 1) (by decide) true hok1
    have z2 := encS_size (c := 1) (by decide) false hok2
    rw [← hs1, ← hs2] at g2 g3
    rw [← hs1] at z1
    rw [← hs2] at z2
    have KD : Hid (∀ w3, Tabs w3 → Calls Tryd.prog 10 #[.string (s1 ++ s2), .int .i64 1, .bool true] w3 fun e w' => ∃ a1 n1 k1 a2 n2 k2, e = .returned (.tuple #[.agg #[.int .i64 1, .slice a1 n1 k1, .slice a2 n2 k2, .int .i64 0], .agg #[.int .i64 0, .int .i64 0]]) ∧ n1 = (l ++ m).length ∧ Ix w' a1 (l ++ m) ∧ Touch (fun _ => False) w3 w') :=
      hid (fun w3 ht3 => decode_same 1 (by decide) (65279 :: (l ++ m)) g1 (s1 ++ s2) g2 g3 w3 ht3 (by rw [ByteArray.size_append]; omega))
    subst hn1 hn2
    clear HN1 HN2 hok1 hok2 hs1 hs2 g1 g2 g3
    go_wp2_with fail
    refine (KD.out w5 (HT.out.new (TC.out.trans T5.out (fun _ _ e => e)))).mono ?_
    rintro e w6 ⟨a1, n1, k1, a3, n3, k3, rfl, hn1, hi, t6⟩
    have T6 := hid (T5.out.trans t6 (fun _ _ e => e))
    have HI := hid hi
    have HN := hid hn1
    clear hi hn1 t6 KD T5
    have B1 := hid (RB2.made w6 (.int .i64 1) (.slice a1 n1 k1) (.slice a3 n3 k3) (.int .i64 0) (.int .i64 0) (.int .i64 0))
    have TA := hid (((Touch.refl (fun _ => False) w6).alloc (.cells #[.int .i64 1, .slice a1 n1 k1, .slice a3 n3 k3, .int .i64 0] 25)).alloc (.cells #[.int .i64 0, .int .i64 0] 28))
    go_upto_region 10 with fail
    generalize ((w6.alloc (.cells #[.int .i64 1, .slice a1 n1 k1, .slice a3 n3 k3, .int .i64 0] 25)).alloc (.cells #[.int .i64 0, .int .i64 0] 28)) = w7 at *
    obtain ⟨q, hq⟩ : ∃ q, q = w6.heap.size := ⟨_, rfl⟩
    rw [← hq] at B1 ⊢
    clear hq
    have T7 := hid (T6.out.trans TA.out (fun _ _ e => e))
    replace HI := hid (HI.out.new TA.out)
    have HX7 := hid (HX.out.new T7.out)
    have HY7 := hid (HY.out.new T7.out)
    have TT := hid (TC.out.trans T7.out (fun _ _ e => e))
    clear T6 TA T7
    obtain ⟨⟨q0, q1, q2, q3⟩, _⟩ := four_cells' B1.out.a
    obtain ⟨⟨p0, p1⟩, _⟩ := two_cells B1.out.b
    have hqb := World.block_lt_of_cell? w7 _ q1
    have hpb := World.block_lt_of_cell? w7 _ p0
    have ON := hid (OwI.none w7)
    clear B1
    have HLM := hid (show l.length + m.length = (l ++ m).length by rw [List.length_append])
    have HLB := hid (show (l ++ m).length ≤ 1099511627776 by rw [List.length_append]; omega)
    have HXd := hid (HX7.out.new ON.out.touch.drew)
    go_region_held3 (fun w' => w'.cell? ⟨q, 1, none⟩ = some (.slice a1 n1 k1) ∧ w'.cell? ⟨q + 1, 0, none⟩ = some (.int .i64 0) ∧ w'.cell? ⟨q + 1, 1, none⟩ = some (.int .i64 0))
      (first | go_keep | exact ⟨((T10.out).cell (p := ⟨q, 1, none⟩) hqb id).trans q1, ((T10.out).cell (p := ⟨q + 1, 0, none⟩) hpb id).trans p0, ((T10.out).cell (p := ⟨q + 1, 1, none⟩) hpb id).trans p1⟩ | exact ⟨((O9.out.touch).cell (p := ⟨q, 1, none⟩) hqb id).trans q1, ((O9.out.touch).cell (p := ⟨q + 1, 0, none⟩) hpb id).trans p0, ((O9.out.touch).cell (p := ⟨q + 1, 1, none⟩) hpb id).trans p1⟩ | exact ⟨((O8.out.touch).cell (p := ⟨q, 1, none⟩) hqb id).trans q1, ((O8.out.touch).cell (p := ⟨q + 1, 0, none⟩) hpb id).trans p0, ((O8.out.touch).cell (p := ⟨q + 1, 1, none⟩) hpb id).trans p1⟩)
      (first
        | (go_at_call 15
           refine (ints_ix a1 a9 k1 k9 n1 (l.length + m.length) (l ++ m) w9 (HI.out.new O9.out.touch) HZ9.out HN.out HLM.out HLB.out).mono ?_
           rintro e w10 ⟨rfl, t10⟩
           have T10 := hid (O9.out.touch.trans t10 (fun _ _ e => e))
           clear t10 O9)
        | (refine step_append_ix _ _ _ (by rfl) (by rfl) _ 0 [] (by rfl) ON.out.own.drew a k l _ rfl (by rfl) HXd.out (by omega) ?_
           intro v8 w8 hown8 hgrow8 hat8
           have O8 := hid (show OwI w7 w8 v8 l from ON.out.grow (e := []) (by simpa [encI] using hown8) ⟨hgrow8.os, hgrow8.tape, hgrow8.output, hgrow8.size, hgrow8.block⟩ (hat8.imp id (fun e => e.trans (by simp))))
           have HYd := hid (HY7.out.new O8.out.touch.drew)
           clear hown8 hgrow8 hat8 ON)
        | (refine step_append_ix _ _ _ (by rfl) (by rfl) _ _ _ (by rfl) O8.out.own.drew b j m _ rfl (by rfl) HYd.out (by omega) ?_
           intro v9 w9 hown9 hgrow9 hat9
           have O9 := hid (show OwI w7 w9 v9 (l ++ m) from O8.out.grow hown9 ⟨hgrow9.os, hgrow9.tape, hgrow9.output, hgrow9.size, hgrow9.block⟩ (hat9.imp id (fun e => e.trans (by simp))))
           obtain ⟨a9, k9, hv9, hg9⟩ := O9.out.sh
           subst hv9
           have HZ9 := hid (show Ix w9 a9 (l ++ m) from hg9.elim .inl Ig.ix)
           clear hown9 hgrow9 hat9 hg9 O8 HYd))
    all_goals
      go_wp2
      go_ret
      exact ⟨rfl, TT.out.trans T10.out (fun _ _ e => e)⟩
  · have ON := hid (OwI.none w1)
    have HX2 := hid (HX.out.new ON.out.touch)
    go_wp2_with (at_builtin; refine wpList_append_ix _ rfl _ _ rfl _ 0 [] rfl ON.out.own a k l _ rfl rfl HX2.out (by omega) ?_)
    intro v2 w2 hown hgrow hat
    have O2 := hid (show OwI w1 w2 v2 l from ON.out.grow (e := []) (by simpa [encI] using hown) hgrow (hat.imp id (fun e => e.trans (by simp))))
    clear hown hgrow hat ON HX2
    obtain ⟨a2, k2, hv2, hg2⟩ := O2.out.sh
    subst hv2
    have T2 := hid O2.out.touch
    have KE := hid (encode_2 a2 k2 l true w2 (HT.out.new (TC.out.trans T2.out (fun _ _ e => e))) hg2 hb)
    clear hg2 O2
    obtain ⟨s1, n1, hs1, hn1⟩ := encR_sum (c := 2) (by decide) true l
    rw [hs1] at KE
    have HN1 := hid hn1
    clear hs1 hn1
    go_wp2_with fail
    refine KE.out.mono ?_
    rintro e w3 ⟨rfl, t3⟩
    have T3 := hid (T2.out.trans t3 (fun _ _ e => e))
    clear t3 T2 KE
    have ON := hid (OwI.none w3)
    have HY2 := hid ((HY.out.new T3.out).new ON.out.touch)
    go_wp2_with (at_builtin; refine wpList_append_ix _ rfl _ _ rfl _ 0 [] rfl ON.out.own b j m _ rfl rfl HY2.out (by omega) ?_)
    intro v4 w4 hown hgrow hat
    have O4 := hid (show OwI w3 w4 v4 m from ON.out.grow (e := []) (by simpa [encI] using hown) hgrow (hat.imp id (fun e => e.trans (by simp))))
    clear hown hgrow hat ON HY2
    obtain ⟨a4, k4, hv4, hg4⟩ := O4.out.sh
    subst hv4
    have T4 := hid (T3.out.trans O4.out.touch (fun _ _ e => e))
    have KE := hid (encode_2 a4 k4 m false w4 (HT.out.new (TC.out.trans T4.out (fun _ _ e => e))) hg4 hb2)
    clear hg4 O4 T3
    obtain ⟨s2, n2, hs2, hn2⟩ := encR_sum (c := 2) (by decide) false m
    rw [hs2] at KE
    have HN2 := hid hn2
    clear hs2 hn2
    go_wp2_with fail
    refine KE.out.mono ?_
    rintro e w5 ⟨rfl, t5⟩
    have T5 := hid (T4.out.trans t5 (fun _ _ e => e))
    clear t5 T4 KE
    rcases HN1.out with hn1 | ⟨hn1, hok1, hs1⟩
    · subst hn1
      clear HN1 HN2
      go_wp2
      go_ret
      exact ⟨rfl, TC.out.trans T5.out (fun _ _ e => e)⟩
    rcases HN2.out with hn2 | ⟨hn2, hok2, hs2⟩
    · subst hn1 hn2
      clear HN1 HN2 hok1 hs1
      go_wp2
      go_ret
      exact ⟨rfl, TC.out.trans T5.out (fun _ _ e => e)⟩
    obtain ⟨g1, g2, g3⟩ := join_lay 2 (by decide) l m hok1 hok2
    have z1 := encS_size (c := 2) (by decide) true hok1
    have z2 := encS_size (c := 2) (by decide) false hok2
    rw [← hs1, ← hs2] at g2 g3
    rw [← hs1] at z1
    rw [← hs2] at z2
    have KD : Hid (∀ w3, Tabs w3 → Calls Tryd.prog 10 #[.string (s1 ++ s2), .int .i64 2, .bool true] w3 fun e w' => ∃ a1 n1 k1 a2 n2 k2, e = .returned (.tuple #[.agg #[.int .i64 2, .slice a1 n1 k1, .slice a2 n2 k2, .int .i64 0], .agg #[.int .i64 0, .int .i64 0]]) ∧ n1 = (l ++ m).length ∧ Ix w' a1 (l ++ m) ∧ Touch (fun _ => False) w3 w') :=
      hid (fun w3 ht3 => decode_same 2 (by decide) (65279 :: (l ++ m)) g1 (s1 ++ s2) g2 g3 w3 ht3 (by rw [ByteArray.size_append]; omega))
    subst hn1 hn2
    clear HN1 HN2 hok1 hok2 hs1 hs2 g1 g2 g3
    go_wp2_with fail
    refine (KD.out w5 (HT.out.new (TC.out.trans T5.out (fun _ _ e => e)))).mono ?_
    rintro e w6 ⟨a1, n1, k1, a3, n3, k3, rfl, hn1, hi, t6⟩
    have T6 := hid (T5.out.trans t6 (fun _ _ e => e))
    have HI := hid hi
    have HN := hid hn1
    clear hi hn1 t6 KD T5
    have B1 := hid (RB2.made w6 (.int .i64 2) (.slice a1 n1 k1) (.slice a3 n3 k3) (.int .i64 0) (.int .i64 0) (.int .i64 0))
    have TA := hid (((Touch.refl (fun _ => False) w6).alloc (.cells #[.int .i64 2, .slice a1 n1 k1, .slice a3 n3 k3, .int .i64 0] 25)).alloc (.cells #[.int .i64 0, .int .i64 0] 28))
    go_upto_region 10 with fail
    generalize ((w6.alloc (.cells #[.int .i64 2, .slice a1 n1 k1, .slice a3 n3 k3, .int .i64 0] 25)).alloc (.cells #[.int .i64 0, .int .i64 0] 28)) = w7 at *
    obtain ⟨q, hq⟩ : ∃ q, q = w6.heap.size := ⟨_, rfl⟩
    rw [← hq] at B1 ⊢
    clear hq
    have T7 := hid (T6.out.trans TA.out (fun _ _ e => e))
    replace HI := hid (HI.out.new TA.out)
    have HX7 := hid (HX.out.new T7.out)
    have HY7 := hid (HY.out.new T7.out)
    have TT := hid (TC.out.trans T7.out (fun _ _ e => e))
    clear T6 TA T7
    obtain ⟨⟨q0, q1, q2, q3⟩, _⟩ := four_cells' B1.out.a
    obtain ⟨⟨p0, p1⟩, _⟩ := two_cells B1.out.b
    have hqb := World.block_lt_of_cell? w7 _ q1
    have hpb := World.block_lt_of_cell? w7 _ p0
    have ON := hid (OwI.none w7)
    clear B1
    have HLM := hid (show l.length + m.length = (l ++ m).length by rw [List.length_append])
    have HLB := hid (show (l ++ m).length ≤ 1099511627776 by rw [List.length_append]; omega)
    have HXd := hid (HX7.out.new ON.out.touch.drew)
    go_region_held3 (fun w' => w'.cell? ⟨q, 1, none⟩ = some (.slice a1 n1 k1) ∧ w'.cell? ⟨q + 1, 0, none⟩ = some (.int .i64 0) ∧ w'.cell? ⟨q + 1, 1, none⟩ = some (.int .i64 0))
      (first | go_keep | exact ⟨((T10.out).cell (p := ⟨q, 1, none⟩) hqb id).trans q1, ((T10.out).cell (p := ⟨q + 1, 0, none⟩) hpb id).trans p0, ((T10.out).cell (p := ⟨q + 1, 1, none⟩) hpb id).trans p1⟩ | exact ⟨((O9.out.touch).cell (p := ⟨q, 1, none⟩) hqb id).trans q1, ((O9.out.touch).cell (p := ⟨q + 1, 0, none⟩) hpb id).trans p0, ((O9.out.touch).cell (p := ⟨q + 1, 1, none⟩) hpb id).trans p1⟩ | exact ⟨((O8.out.touch).cell (p := ⟨q, 1, none⟩) hqb id).trans q1, ((O8.out.touch).cell (p := ⟨q + 1, 0, none⟩) hpb id).trans p0, ((O8.out.touch).cell (p := ⟨q + 1, 1, none⟩) hpb id).trans p1⟩)
      (first
        | (go_at_call 15
           refine (ints_ix a1 a9 k1 k9 n1 (l.length + m.length) (l ++ m) w9 (HI.out.new O9.out.touch) HZ9.out HN.out HLM.out HLB.out).mono ?_
           rintro e w10 ⟨rfl, t10⟩
           have T10 := hid (O9.out.touch.trans t10 (fun _ _ e => e))
           clear t10 O9)
        | (refine step_append_ix _ _ _ (by rfl) (by rfl) _ 0 [] (by rfl) ON.out.own.drew a k l _ rfl (by rfl) HXd.out (by omega) ?_
           intro v8 w8 hown8 hgrow8 hat8
           have O8 := hid (show OwI w7 w8 v8 l from ON.out.grow (e := []) (by simpa [encI] using hown8) ⟨hgrow8.os, hgrow8.tape, hgrow8.output, hgrow8.size, hgrow8.block⟩ (hat8.imp id (fun e => e.trans (by simp))))
           have HYd := hid (HY7.out.new O8.out.touch.drew)
           clear hown8 hgrow8 hat8 ON)
        | (refine step_append_ix _ _ _ (by rfl) (by rfl) _ _ _ (by rfl) O8.out.own.drew b j m _ rfl (by rfl) HYd.out (by omega) ?_
           intro v9 w9 hown9 hgrow9 hat9
           have O9 := hid (show OwI w7 w9 v9 (l ++ m) from O8.out.grow hown9 ⟨hgrow9.os, hgrow9.tape, hgrow9.output, hgrow9.size, hgrow9.block⟩ (hat9.imp id (fun e => e.trans (by simp))))
           obtain ⟨a9, k9, hv9, hg9⟩ := O9.out.sh
           subst hv9
           have HZ9 := hid (show Ix w9 a9 (l ++ m) from hg9.elim .inl Ig.ix)
           clear hown9 hgrow9 hat9 hg9 O8 HYd))
    all_goals
      go_wp2
      go_ret
      exact ⟨rfl, TT.out.trans T10.out (fun _ _ e => e)⟩
  · have ON := hid (OwI.none w1)
    have HX2 := hid (HX.out.new ON.out.touch)
    go_wp2_with (at_builtin; refine wpList_append_ix _ rfl _ _ rfl _ 0 [] rfl ON.out.own a k l _ rfl rfl HX2.out (by omega) ?_)
    intro v2 w2 hown hgrow hat
    have O2 := hid (show OwI w1 w2 v2 l from ON.out.grow (e := []) (by simpa [encI] using hown) hgrow (hat.imp id (fun e => e.trans (by simp))))
    clear hown hgrow hat ON HX2
    obtain ⟨a2, k2, hv2, hg2⟩ := O2.out.sh
    subst hv2
    have T2 := hid O2.out.touch
    have KE := hid (encode_3 a2 k2 l true w2 (HT.out.new (TC.out.trans T2.out (fun _ _ e => e))) hg2 hb)
    clear hg2 O2
    obtain ⟨s1, n1, hs1, hn1⟩ := encR_sum (c := 3) (by decide) true l
    rw [hs1] at KE
    have HN1 := hid hn1
    clear hs1 hn1
    go_wp2_with fail
    refine KE.out.mono ?_
    rintro e w3 ⟨rfl, t3⟩
    have T3 := hid (T2.out.trans t3 (fun _ _ e => e))
    clear t3 T2 KE
    have ON := hid (OwI.none w3)
    have HY2 := hid ((HY.out.new T3.out).new ON.out.touch)
    go_wp2_with (at_builtin; refine wpList_append_ix _ rfl _ _ rfl _ 0 [] rfl ON.out.own b j m _ rfl rfl HY2.out (by omega) ?_)
    intro v4 w4 hown hgrow hat
    have O4 := hid (show OwI w3 w4 v4 m from ON.out.grow (e := []) (by simpa [encI] using hown) hgrow (hat.imp id (fun e => e.trans (by simp))))
    clear hown hgrow hat ON HY2
    obtain ⟨a4, k4, hv4, hg4⟩ := O4.out.sh
    subst hv4
    have T4 := hid (T3.out.trans O4.out.touch (fun _ _ e => e))
    have KE := hid (encode_3 a4 k4 m false w4 (HT.out.new (TC.out.trans T4.out (fun _ _ e => e))) hg4 hb2)
    clear hg4 O4 T3
    obtain ⟨s2, n2, hs2, hn2⟩ := encR_sum (c := 3) (by decide) false m
    rw [hs2] at KE
    have HN2 := hid hn2
    clear hs2 hn2
    go_wp2_with fail
    refine KE.out.mono ?_
    rintro e w5 ⟨rfl, t5⟩
    have T5 := hid (T4.out.trans t5 (fun _ _ e => e))
    clear t5 T4 KE
    rcases HN1.out with hn1 | ⟨hn1, hok1, hs1⟩
    · subst hn1
      clear HN1 HN2
      go_wp2
      go_ret
      exact ⟨rfl, TC.out.trans T5.out (fun _ _ e => e)⟩
    rcases HN2.out with hn2 | ⟨hn2, hok2, hs2⟩
    · subst hn1 hn2
      clear HN1 HN2 hok1 hs1
      go_wp2
      go_ret
      exact ⟨rfl, TC.out.trans T5.out (fun _ _ e => e)⟩
    obtain ⟨g1, g2, g3⟩ := join_lay 3 (by decide) l m hok1 hok2
    have z1 := encS_size (c := 3) (by decide) true hok1
    have z2 := encS_size (c := 3) (by decide) false hok2
    rw [← hs1, ← hs2] at g2 g3
    rw [← hs1] at z1
    rw [← hs2] at z2
    have KD : Hid (∀ w3, Tabs w3 → Calls Tryd.prog 10 #[.string (s1 ++ s2), .int .i64 3, .bool true] w3 fun e w' => ∃ a1 n1 k1 a2 n2 k2, e = .returned (.tuple #[.agg #[.int .i64 3, .slice a1 n1 k1, .slice a2 n2 k2, .int .i64 0], .agg #[.int .i64 0, .int .i64 0]]) ∧ n1 = (l ++ m).length ∧ Ix w' a1 (l ++ m) ∧ Touch (fun _ => False) w3 w') :=
      hid (fun w3 ht3 => decode_same 3 (by decide) (65279 :: (l ++ m)) g1 (s1 ++ s2) g2 g3 w3 ht3 (by rw [ByteArray.size_append]; omega))
    subst hn1 hn2
    clear HN1 HN2 hok1 hok2 hs1 hs2 g1 g2 g3
    go_wp2_with fail
    refine (KD.out w5 (HT.out.new (TC.out.trans T5.out (fun _ _ e => e)))).mono ?_
    rintro e w6 ⟨a1, n1, k1, a3, n3, k3, rfl, hn1, hi, t6⟩
    have T6 := hid (T5.out.trans t6 (fun _ _ e => e))
    have HI := hid hi
    have HN := hid hn1
    clear hi hn1 t6 KD T5
    have B1 := hid (RB2.made w6 (.int .i64 3) (.slice a1 n1 k1) (.slice a3 n3 k3) (.int .i64 0) (.int .i64 0) (.int .i64 0))
    have TA := hid (((Touch.refl (fun _ => False) w6).alloc (.cells #[.int .i64 3, .slice a1 n1 k1, .slice a3 n3 k3, .int .i64 0] 25)).alloc (.cells #[.int .i64 0, .int .i64 0] 28))
    go_upto_region 10 with fail
    generalize ((w6.alloc (.cells #[.int .i64 3, .slice a1 n1 k1, .slice a3 n3 k3, .int .i64 0] 25)).alloc (.cells #[.int .i64 0, .int .i64 0] 28)) = w7 at *
    obtain ⟨q, hq⟩ : ∃ q, q = w6.heap.size := ⟨_, rfl⟩
    rw [← hq] at B1 ⊢
    clear hq
    have T7 := hid (T6.out.trans TA.out (fun _ _ e => e))
    replace HI := hid (HI.out.new TA.out)
    have HX7 := hid (HX.out.new T7.out)
    have HY7 := hid (HY.out.new T7.out)
    have TT := hid (TC.out.trans T7.out (fun _ _ e => e))
    clear T6 TA T7
    obtain ⟨⟨q0, q1, q2, q3⟩, _⟩ := four_cells' B1.out.a
    obtain ⟨⟨p0, p1⟩, _⟩ := two_cells B1.out.b
    have hqb := World.block_lt_of_cell? w7 _ q1
    have hpb := World.block_lt_of_cell? w7 _ p0
    have ON := hid (OwI.none w7)
    clear B1
    have HLM := hid (show l.length + m.length = (l ++ m).length by rw [List.length_append])
    have HLB := hid (show (l ++ m).length ≤ 1099511627776 by rw [List.length_append]; omega)
    have HXd := hid (HX7.out.new ON.out.touch.drew)
    go_region_held3 (fun w' => w'.cell? ⟨q, 1, none⟩ = some (.slice a1 n1 k1) ∧ w'.cell? ⟨q + 1, 0, none⟩ = some (.int .i64 0) ∧ w'.cell? ⟨q + 1, 1, none⟩ = some (.int .i64 0))
      (first | go_keep | exact ⟨((T10.out).cell (p := ⟨q, 1, none⟩) hqb id).trans q1, ((T10.out).cell (p := ⟨q + 1, 0, none⟩) hpb id).trans p0, ((T10.out).cell (p := ⟨q + 1, 1, none⟩) hpb id).trans p1⟩ | exact ⟨((O9.out.touch).cell (p := ⟨q, 1, none⟩) hqb id).trans q1, ((O9.out.touch).cell (p := ⟨q + 1, 0, none⟩) hpb id).trans p0, ((O9.out.touch).cell (p := ⟨q + 1, 1, none⟩) hpb id).trans p1⟩ | exact ⟨((O8.out.touch).cell (p := ⟨q, 1, none⟩) hqb id).trans q1, ((O8.out.touch).cell (p := ⟨q + 1, 0, none⟩) hpb id).trans p0, ((O8.out.touch).cell (p := ⟨q + 1, 1, none⟩) hpb id).trans p1⟩)
      (first
        | (go_at_call 15
           refine (ints_ix a1 a9 k1 k9 n1 (l.length + m.length) (l ++ m) w9 (HI.out.new O9.out.touch) HZ9.out HN.out HLM.out HLB.out).mono ?_
           rintro e w10 ⟨rfl, t10⟩
           have T10 := hid (O9.out.touch.trans t10 (fun _ _ e => e))
           clear t10 O9)
        | (refine step_append_ix _ _ _ (by rfl) (by rfl) _ 0 [] (by rfl) ON.out.own.drew a k l _ rfl (by rfl) HXd.out (by omega) ?_
           intro v8 w8 hown8 hgrow8 hat8
           have O8 := hid (show OwI w7 w8 v8 l from ON.out.grow (e := []) (by simpa [encI] using hown8) ⟨hgrow8.os, hgrow8.tape, hgrow8.output, hgrow8.size, hgrow8.block⟩ (hat8.imp id (fun e => e.trans (by simp))))
           have HYd := hid (HY7.out.new O8.out.touch.drew)
           clear hown8 hgrow8 hat8 ON)
        | (refine step_append_ix _ _ _ (by rfl) (by rfl) _ _ _ (by rfl) O8.out.own.drew b j m _ rfl (by rfl) HYd.out (by omega) ?_
           intro v9 w9 hown9 hgrow9 hat9
           have O9 := hid (show OwI w7 w9 v9 (l ++ m) from O8.out.grow hown9 ⟨hgrow9.os, hgrow9.tape, hgrow9.output, hgrow9.size, hgrow9.block⟩ (hat9.imp id (fun e => e.trans (by simp))))
           obtain ⟨a9, k9, hv9, hg9⟩ := O9.out.sh
           subst hv9
           have HZ9 := hid (show Ix w9 a9 (l ++ m) from hg9.elim .inl Ig.ix)
           clear hown9 hgrow9 hat9 hg9 O8 HYd))
    all_goals
      go_wp2
      go_ret
      exact ⟨rfl, TT.out.trans T10.out (fun _ _ e => e)⟩
end Go.Proofs.YtpjnnbegimaaeaaDoor
