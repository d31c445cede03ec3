/- Texts of this proof, one behind the other: what each says stands ahead of it. -/
import Derived.Test.YtpjnnbegimaaeaaDoorM16
/- CodingEncodes' walk in one coding (its number: 1); conditions: those told. -/
namespace Go.Proofs.YtpjnnbegimaaeaaDoor
open Go.RowKit
open Go.Lib

set_option maxRecDepth 100000 in
set_option maxHeartbeats 8000000 in
theorem codingEncodes_1 (a : Option Addr) (k : Nat) (l : List Int) (mark : Bool) (w : World) (ht : Tabs w) (hx : Ix w a l) (hb : l.length ≤ 1048576) (hk : l.length ≤ k) : Calls Tryd.prog 6 #[.slice a l.length k, .int .i64 1, .bool mark] w fun e w' => e = .returned (.bool true) ∧ Touch (fun _ => False) w w' := by
  have HT := hid ht
  have HX := hid hx
  clear ht hx
  go_enter Tryd.func6, Tryd.ntmps6
  go_wp2_with fail
  refine (speaks_yes w HT.out).mono ?_
  rintro e w1 ⟨rfl, t1⟩
  have TC := hid t1
  clear t1
  have ON := hid (OwI.none w1)
  have HX2 := hid ((HX.out.new TC.out).new ON.out.touch)
  go_wp2_with (at_builtin; refine wpList_append_ix _ rfl _ _ rfl _ 0 [] rfl ON.out.own a k l _ rfl rfl HX2.out (by omega) ?_)
  intro v2 w2 hown hgrow hat
  have O2 := hid (show OwI w1 w2 v2 l from ON.out.grow (e := []) (by simpa [encI] using hown) hgrow (hat.imp id (fun e => e.trans (by simp))))
  clear hown hgrow hat ON HX2
  obtain ⟨a2, k2, hv2, hg2⟩ := O2.out.sh
  subst hv2
  have T2 := hid (TC.out.trans O2.out.touch (fun _ _ e => e))
  have HI := hid (show Ix w2 a2 l from hg2.elim .inl Ig.ix)
  have KE := hid (encode_1 a2 k2 l mark w2 (HT.out.new T2.out) hg2 hb)
  have KR := hid (fun w3 hx3 => rencode_1 a k l mark w3 hx3 hb)
  clear hg2 O2 TC
  cases hall : l.all (okc 1)
  · rw [encR_no hall] at KE KR
    clear hall
    go_wp2_with fail
    refine KE.out.mono ?_
    rintro e w3 ⟨rfl, t3⟩
    have T3 := hid (T2.out.trans t3 (fun _ _ e => e))
    replace HI := hid (HI.out.new t3)
    clear t3 T2 KE
    go_wp2_with fail
    refine (KR.out w3 (HX.out.new T3.out)).mono ?_
    rintro e w4 ⟨rfl, t4⟩
    have T4 := hid (T3.out.trans t4 (fun _ _ e => e))
    replace HI := hid (HI.out.new t4)
    clear t4 T3 KR
    go_wp2_with fail
    refine (ints_ix a2 a k2 k l.length l.length l w4 HI.out (HX.out.new T4.out) rfl rfl (by omega)).mono ?_
    rintro e w5 ⟨rfl, t5⟩
    have T5 := hid (T4.out.trans t5 (fun _ _ e => e))
    clear t5 T4
    go_wp2
    go_ret
    exact ⟨rfl, T5.out⟩
  · rw [encR_yes (by decide) hall] at KE KR
    have hsz := encS_size (c := 1) (by decide) mark hall
    obtain ⟨hl1, hl2⟩ := encS_lay (c := 1) (by decide) mark hall
    have KD : Hid (∀ w3, Tabs w3 → Calls Tryd.prog 10 #[.string (encS 1 mark l), .int .i64 1, .bool true] w3 fun e w' => ∃ a1 n1 k1 a2 n2 k2, e = .returned (.tuple #[.agg #[.int .i64 1, .slice a1 n1 k1, .slice a2 n2 k2, .int .i64 0], .agg #[.int .i64 0, .int .i64 0]]) ∧ n1 = (dropM 1 (fullL 1 mark l)).length ∧ Ix w' a1 (dropM 1 (fullL 1 mark l)) ∧ Touch (fun _ => False) w3 w') :=
      hid (fun w3 ht3 => decode_same 1 (by decide) (fullL 1 mark l) (full_ok 1 (by decide) mark l hall) (encS 1 mark l) hl1 hl2 w3 ht3 (by omega))
    rw [full_drop] at KD
    obtain ⟨m, hm⟩ : ∃ m, m = (if 1 ≠ 4 ∧ mark = false ∧ l.head? = some 65279 then l.tail else l) := ⟨_, rfl⟩
    have hml : m.length ≤ 1048576 := by
      rw [hm]
      split
      · rw [List.length_tail]
        omega
      · exact hb
    rw [← hm] at KD
    have HM := hid hm
    clear hall hl1 hl2 hsz hm
    generalize encS 1 mark l = s at *
    go_wp2_with fail
    refine KE.out.mono ?_
    rintro e w3 ⟨rfl, t3⟩
    have T3 := hid (T2.out.trans t3 (fun _ _ e => e))
    replace HI := hid (HI.out.new t3)
    clear t3 T2 KE
    go_wp2_with fail
    refine (KR.out w3 (HX.out.new T3.out)).mono ?_
    rintro e w4 ⟨rfl, t4⟩
    have T4 := hid (T3.out.trans t4 (fun _ _ e => e))
    replace HI := hid (HI.out.new t4)
    clear t4 T3 KR
    go_wp2_with fail
    refine (ints_ix a2 a k2 k l.length l.length l w4 HI.out (HX.out.new T4.out) rfl rfl (by omega)).mono ?_
    rintro e w5 ⟨rfl, t5⟩
    have T5 := hid (T4.out.trans t5 (fun _ _ e => e))
    clear t5 T4 HI
    go_wp2_with fail
    refine (KD.out w5 (HT.out.new T5.out)).mono ?_
    rintro e w6 ⟨a1, n1, k1, a3, n3, k3, rfl, hn1, hi, t6⟩
    have T6 := hid (T5.out.trans t6 (fun _ _ e => e))
    have HI := hid hi
    have HN := hid hn1
    clear hi hn1 t6 KD T5
    have B1 := hid (RB2.made w6 (.int .i64 1) (.slice a1 n1 k1) (.slice a3 n3 k3) (.int .i64 0) (.int .i64 0) (.int .i64 0))
    have TA := hid (((Touch.refl (fun _ => False) w6).alloc (.cells #[.int .i64 1, .slice a1 n1 k1, .slice a3 n3 k3, .int .i64 0] 25)).alloc (.cells #[.int .i64 0, .int .i64 0] 28))
    go_upto_region 11 with fail
    generalize ((w6.alloc (.cells #[.int .i64 1, .slice a1 n1 k1, .slice a3 n3 k3, .int .i64 0] 25)).alloc (.cells #[.int .i64 0, .int .i64 0] 28)) = w7 at *
    obtain ⟨q, hq⟩ : ∃ q, q = w6.heap.size := ⟨_, rfl⟩
    rw [← hq] at B1 ⊢
    clear hq
    have T7 := hid (T6.out.trans TA.out (fun _ _ e => e))
    replace HI := hid (HI.out.new TA.out)
    have HX7 := hid (HX.out.new T7.out)
    clear T6 TA HX
    cases mark
    · cases l with
      | nil =>
        have HMM := hid (show m = [] by rw [HM.out]; rfl)
        obtain ⟨⟨q0, q1, q2, q3⟩, _⟩ := four_cells' B1.out.a
        obtain ⟨⟨p0, p1⟩, _⟩ := two_cells B1.out.b
        have KI := hid (ints_ix a1 (a) k1 (k) n1 (0) m w7 HI.out (by rw [HMM.out]; exact .inl rfl) HN.out (by rw [HMM.out]; rfl) (by omega))
        clear HI HN B1 HM HX7
        go_wp2_with fail
        refine KI.out.mono ?_
        rintro e w9 ⟨rfl, t9⟩
        have T9 := hid (T7.out.trans t9 (fun _ _ e => e))
        clear t9 KI q0 q1 q2 q3 p0 p1
        go_wp2
        go_ret
        exact ⟨rfl, T9.out⟩
      | cons x l =>
        obtain ⟨y, rfl, hc0, hxt⟩ := HX7.out.tail
        rw [add_none] at hc0
        have hlen : (x :: l).length = l.length + 1 := rfl
        rw [hlen] at hk
        by_cases hx : x = 65279
        · have HMM := hid (show m = l by rw [HM.out, if_pos ⟨by decide, rfl, by rw [hx]; rfl⟩]; rfl)
          obtain ⟨y2, k4, hsl, hx4⟩ := tail_ix y k x l w7 hxt hk
          have HSL := hid hsl
          have HXT := hid hx4
          subst hx
          clear hxt hsl hx4
          obtain ⟨⟨q0, q1, q2, q3⟩, _⟩ := four_cells' B1.out.a
          obtain ⟨⟨p0, p1⟩, _⟩ := two_cells B1.out.b
          have KI := hid (ints_ix a1 (y2) k1 (k4) n1 (l.length) m w7 HI.out (by rw [HMM.out]; exact HXT.out) HN.out (by rw [HMM.out]) (by omega))
          clear HI HN B1 HM HX7
          go_wp2_with (first | refine wpList_slice_from _ rfl _ _ rfl _ _ _ 1 _ rfl rfl (by rfl) (by simp) _ HSL.out ?_ | fail)
          refine KI.out.mono ?_
          rintro e w9 ⟨rfl, t9⟩
          have T9 := hid (T7.out.trans t9 (fun _ _ e => e))
          clear t9 KI q0 q1 q2 q3 p0 p1
          go_wp2
          go_ret
          exact ⟨rfl, T9.out⟩
        · have HMM := hid (show m = x :: l by rw [HM.out, if_neg (fun e => hx (by simpa using e.2.2))])
          clear hxt
          obtain ⟨⟨q0, q1, q2, q3⟩, _⟩ := four_cells' B1.out.a
          obtain ⟨⟨p0, p1⟩, _⟩ := two_cells B1.out.b
          have KI := hid (ints_ix a1 (some y) k1 (k) n1 (l.length + 1) m w7 HI.out (by rw [HMM.out]; exact HX7.out) HN.out (by rw [HMM.out]; rfl) (by omega))
          clear HI HN B1 HM HX7
          go_wp2_with fail
          refine KI.out.mono ?_
          rintro e w9 ⟨rfl, t9⟩
          have T9 := hid (T7.out.trans t9 (fun _ _ e => e))
          clear t9 KI q0 q1 q2 q3 p0 p1
          go_wp2
          go_ret
          exact ⟨rfl, T9.out⟩
    · have HMM := hid (show m = l by rw [HM.out, if_neg (fun e => by cases e.2.1)])
      obtain ⟨⟨q0, q1, q2, q3⟩, _⟩ := four_cells' B1.out.a
      obtain ⟨⟨p0, p1⟩, _⟩ := two_cells B1.out.b
      have KI := hid (ints_ix a1 (a) k1 (k) n1 (l.length) m w7 HI.out (by rw [HMM.out]; exact HX7.out) HN.out (by rw [HMM.out]) (by omega))
      clear HI HN B1 HM HX7
      go_wp2_with fail
      refine KI.out.mono ?_
      rintro e w9 ⟨rfl, t9⟩
      have T9 := hid (T7.out.trans t9 (fun _ _ e => e))
      clear t9 KI q0 q1 q2 q3 p0 p1
      go_wp2
      go_ret
      exact ⟨rfl, T9.out⟩
end Go.Proofs.YtpjnnbegimaaeaaDoor

/- CodingEncodes' walk in one coding (its number: 2); conditions: those told. -/
namespace Go.Proofs.YtpjnnbegimaaeaaDoor
open Go.RowKit
open Go.Lib

set_option maxRecDepth 100000 in
set_option maxHeartbeats 8000000 in
theorem codingEncodes_2 (a : Option Addr) (k : Nat) (l : List Int) (mark : Bool) (w : World) (ht : Tabs w) (hx : Ix w a l) (hb : l.length ≤ 1048576) (hk : l.length ≤ k) : Calls Tryd.prog 6 #[.slice a l.length k, .int .i64 2, .bool mark] w fun e w' => e = .returned (.bool true) ∧ Touch (fun _ => False) w w' := by
  have HT := hid ht
  have HX := hid hx
  clear ht hx
  go_enter Tryd.func6, Tryd.ntmps6
  go_wp2_with fail
  refine (speaks_yes w HT.out).mono ?_
  rintro e w1 ⟨rfl, t1⟩
  have TC := hid t1
  clear t1
  have ON := hid (OwI.none w1)
  have HX2 := hid ((HX.out.new TC.out).new ON.out.touch)
  go_wp2_with (at_builtin; refine wpList_append_ix _ rfl _ _ rfl _ 0 [] rfl ON.out.own a k l _ rfl rfl HX2.out (by omega) ?_)
  intro v2 w2 hown hgrow hat
  have O2 := hid (show OwI w1 w2 v2 l from ON.out.grow (e := []) (by simpa [encI] using hown) hgrow (hat.imp id (fun e => e.trans (by simp))))
  clear hown hgrow hat ON HX2
  obtain ⟨a2, k2, hv2, hg2⟩ := O2.out.sh
  subst hv2
  have T2 := hid (TC.out.trans O2.out.touch (fun _ _ e => e))
  have HI := hid (show Ix w2 a2 l from hg2.elim .inl Ig.ix)
  have KE := hid (encode_2 a2 k2 l mark w2 (HT.out.new T2.out) hg2 hb)
  have KR := hid (fun w3 hx3 => rencode_2 a k l mark w3 hx3 hb)
  clear hg2 O2 TC
  cases hall : l.all (okc 2)
  · rw [encR_no hall] at KE KR
    clear hall
    go_wp2_with fail
    refine KE.out.mono ?_
    rintro e w3 ⟨rfl, t3⟩
    have T3 := hid (T2.out.trans t3 (fun _ _ e => e))
    replace HI := hid (HI.out.new t3)
    clear t3 T2 KE
    go_wp2_with fail
    refine (KR.out w3 (HX.out.new T3.out)).mono ?_
    rintro e w4 ⟨rfl, t4⟩
    have T4 := hid (T3.out.trans t4 (fun _ _ e => e))
    replace HI := hid (HI.out.new t4)
    clear t4 T3 KR
    go_wp2_with fail
    refine (ints_ix a2 a k2 k l.length l.length l w4 HI.out (HX.out.new T4.out) rfl rfl (by omega)).mono ?_
    rintro e w5 ⟨rfl, t5⟩
    have T5 := hid (T4.out.trans t5 (fun _ _ e => e))
    clear t5 T4
    go_wp2
    go_ret
    exact ⟨rfl, T5.out⟩
  · rw [encR_yes (by decide) hall] at KE KR
    have hsz := encS_size (c := 2) (by decide) mark hall
    obtain ⟨hl1, hl2⟩ := encS_lay (c := 2) (by decide) mark hall
    have KD : Hid (∀ w3, Tabs w3 → Calls Tryd.prog 10 #[.string (encS 2 mark l), .int .i64 2, .bool true] w3 fun e w' => ∃ a1 n1 k1 a2 n2 k2, e = .returned (.tuple #[.agg #[.int .i64 2, .slice a1 n1 k1, .slice a2 n2 k2, .int .i64 0], .agg #[.int .i64 0, .int .i64 0]]) ∧ n1 = (dropM 2 (fullL 2 mark l)).length ∧ Ix w' a1 (dropM 2 (fullL 2 mark l)) ∧ Touch (fun _ => False) w3 w') :=
      hid (fun w3 ht3 => decode_same 2 (by decide) (fullL 2 mark l) (full_ok 2 (by decide) mark l hall) (encS 2 mark l) hl1 hl2 w3 ht3 (by omega))
    rw [full_drop] at KD
    obtain ⟨m, hm⟩ : ∃ m, m = (if 2 ≠ 4 ∧ mark = false ∧ l.head? = some 65279 then l.tail else l) := ⟨_, rfl⟩
    have hml : m.length ≤ 1048576 := by
      rw [hm]
      split
      · rw [List.length_tail]
        omega
      · exact hb
    rw [← hm] at KD
    have HM := hid hm
    clear hall hl1 hl2 hsz hm
    generalize encS 2 mark l = s at *
    go_wp2_with fail
    refine KE.out.mono ?_
    rintro e w3 ⟨rfl, t3⟩
    have T3 := hid (T2.out.trans t3 (fun _ _ e => e))
    replace HI := hid (HI.out.new t3)
    clear t3 T2 KE
    go_wp2_with fail
    refine (KR.out w3 (HX.out.new T3.out)).mono ?_
    rintro e w4 ⟨rfl, t4⟩
    have T4 := hid (T3.out.trans t4 (fun _ _ e => e))
    replace HI := hid (HI.out.new t4)
    clear t4 T3 KR
    go_wp2_with fail
    refine (ints_ix a2 a k2 k l.length l.length l w4 HI.out (HX.out.new T4.out) rfl rfl (by omega)).mono ?_
    rintro e w5 ⟨rfl, t5⟩
    have T5 := hid (T4.out.trans t5 (fun _ _ e => e))
    clear t5 T4 HI
    go_wp2_with fail
    refine (KD.out w5 (HT.out.new T5.out)).mono ?_
    rintro e w6 ⟨a1, n1, k1, a3, n3, k3, rfl, hn1, hi, t6⟩
    have T6 := hid (T5.out.trans t6 (fun _ _ e => e))
    have HI := hid hi
    have HN := hid hn1
    clear hi hn1 t6 KD T5
    have B1 := hid (RB2.made w6 (.int .i64 2) (.slice a1 n1 k1) (.slice a3 n3 k3) (.int .i64 0) (.int .i64 0) (.int .i64 0))
    have TA := hid (((Touch.refl (fun _ => False) w6).alloc (.cells #[.int .i64 2, .slice a1 n1 k1, .slice a3 n3 k3, .int .i64 0] 25)).alloc (.cells #[.int .i64 0, .int .i64 0] 28))
    go_upto_region 11 with fail
    generalize ((w6.alloc (.cells #[.int .i64 2, .slice a1 n1 k1, .slice a3 n3 k3, .int .i64 0] 25)).alloc (.cells #[.int .i64 0, .int .i64 0] 28)) = w7 at *
    obtain ⟨q, hq⟩ : ∃ q, q = w6.heap.size := ⟨_, rfl⟩
    rw [← hq] at B1 ⊢
    clear hq
    have T7 := hid (T6.out.trans TA.out (fun _ _ e => e))
    replace HI := hid (HI.out.new TA.out)
    have HX7 := hid (HX.out.new T7.out)
    clear T6 TA HX
    cases mark
    · cases l with
      | nil =>
        have HMM := hid (show m = [] by rw [HM.out]; rfl)
        obtain ⟨⟨q0, q1, q2, q3⟩, _⟩ := four_cells' B1.out.a
        obtain ⟨⟨p0, p1⟩, _⟩ := two_cells B1.out.b
        have KI := hid (ints_ix a1 (a) k1 (k) n1 (0) m w7 HI.out (by rw [HMM.out]; exact .inl rfl) HN.out (by rw [HMM.out]; rfl) (by omega))
        clear HI HN B1 HM HX7
        go_wp2_with fail
        refine KI.out.mono ?_
        rintro e w9 ⟨rfl, t9⟩
        have T9 := hid (T7.out.trans t9 (fun _ _ e => e))
        clear t9 KI q0 q1 q2 q3 p0 p1
        go_wp2
        go_ret
        exact ⟨rfl, T9.out⟩
      | cons x l =>
        obtain ⟨y, rfl, hc0, hxt⟩ := HX7.out.tail
        rw [add_none] at hc0
        have hlen : (x :: l).length = l.length + 1 := rfl
        rw [hlen] at hk
        by_cases hx : x = 65279
        · have HMM := hid (show m = l by rw [HM.out, if_pos ⟨by decide, rfl, by rw [hx]; rfl⟩]; rfl)
          obtain ⟨y2, k4, hsl, hx4⟩ := tail_ix y k x l w7 hxt hk
          have HSL := hid hsl
          have HXT := hid hx4
          subst hx
          clear hxt hsl hx4
          obtain ⟨⟨q0, q1, q2, q3⟩, _⟩ := four_cells' B1.out.a
          obtain ⟨⟨p0, p1⟩, _⟩ := two_cells B1.out.b
          have KI := hid (ints_ix a1 (y2) k1 (k4) n1 (l.length) m w7 HI.out (by rw [HMM.out]; exact HXT.out) HN.out (by rw [HMM.out]) (by omega))
          clear HI HN B1 HM HX7
          go_wp2_with (first | refine wpList_slice_from _ rfl _ _ rfl _ _ _ 1 _ rfl rfl (by rfl) (by simp) _ HSL.out ?_ | fail)
          refine KI.out.mono ?_
          rintro e w9 ⟨rfl, t9⟩
          have T9 := hid (T7.out.trans t9 (fun _ _ e => e))
          clear t9 KI q0 q1 q2 q3 p0 p1
          go_wp2
          go_ret
          exact ⟨rfl, T9.out⟩
        · have HMM := hid (show m = x :: l by rw [HM.out, if_neg (fun e => hx (by simpa using e.2.2))])
          clear hxt
          obtain ⟨⟨q0, q1, q2, q3⟩, _⟩ := four_cells' B1.out.a
          obtain ⟨⟨p0, p1⟩, _⟩ := two_cells B1.out.b
          have KI := hid (ints_ix a1 (some y) k1 (k) n1 (l.length + 1) m w7 HI.out (by rw [HMM.out]; exact HX7.out) HN.out (by rw [HMM.out]; rfl) (by omega))
          clear HI HN B1 HM HX7
          go_wp2_with fail
          refine KI.out.mono ?_
          rintro e w9 ⟨rfl, t9⟩
          have T9 := hid (T7.out.trans t9 (fun _ _ e => e))
          clear t9 KI q0 q1 q2 q3 p0 p1
          go_wp2
          go_ret
          exact ⟨rfl, T9.out⟩
    · have HMM := hid (show m = l by rw [HM.out, if_neg (fun e => by cases e.2.1)])
      obtain ⟨⟨q0, q1, q2, q3⟩, _⟩ := four_cells' B1.out.a
      obtain ⟨⟨p0, p1⟩, _⟩ := two_cells B1.out.b
      have KI := hid (ints_ix a1 (a) k1 (k) n1 (l.length) m w7 HI.out (by rw [HMM.out]; exact HX7.out) HN.out (by rw [HMM.out]) (by omega))
      clear HI HN B1 HM HX7
      go_wp2_with fail
      refine KI.out.mono ?_
      rintro e w9 ⟨rfl, t9⟩
      have T9 := hid (T7.out.trans t9 (fun _ _ e => e))
      clear t9 KI q0 q1 q2 q3 p0 p1
      go_wp2
      go_ret
      exact ⟨rfl, T9.out⟩
end Go.Proofs.YtpjnnbegimaaeaaDoor

/- CodingEncodes' walk in one coding (its number: 3); conditions: those told. -/
namespace Go.Proofs.YtpjnnbegimaaeaaDoor
open Go.RowKit
open Go.Lib

set_option maxRecDepth 100000 in
set_option maxHeartbeats 8000000 in
theorem codingEncodes_3 (a : Option Addr) (k : Nat) (l : List Int) (mark : Bool) (w : World) (ht : Tabs w) (hx : Ix w a l) (hb : l.length ≤ 1048576) (hk : l.length ≤ k) : Calls Tryd.prog 6 #[.slice a l.length k, .int .i64 3, .bool mark] w fun e w' => e = .returned (.bool true) ∧ Touch (fun _ => False) w w' := by
  have HT := hid ht
  have HX := hid hx
  clear ht hx
  go_enter Tryd.func6, Tryd.ntmps6
  go_wp2_with fail
  refine (speaks_yes w HT.out).mono ?_
  rintro e w1 ⟨rfl, t1⟩
  have TC := hid t1
  clear t1
  have ON := hid (OwI.none w1)
  have HX2 := hid ((HX.out.new TC.out).new ON.out.touch)
  go_wp2_with (at_builtin; refine wpList_append_ix _ rfl _ _ rfl _ 0 [] rfl ON.out.own a k l _ rfl rfl HX2.out (by omega) ?_)
  intro v2 w2 hown hgrow hat
  have O2 := hid (show OwI w1 w2 v2 l from ON.out.grow (e := []) (by simpa [encI] using hown) hgrow (hat.imp id (fun e => e.trans (by simp))))
  clear hown hgrow hat ON HX2
  obtain ⟨a2, k2, hv2, hg2⟩ := O2.out.sh
  subst hv2
  have T2 := hid (TC.out.trans O2.out.touch (fun _ _ e => e))
  have HI := hid (show Ix w2 a2 l from hg2.elim .inl Ig.ix)
  have KE := hid (encode_3 a2 k2 l mark w2 (HT.out.new T2.out) hg2 hb)
  have KR := hid (fun w3 hx3 => rencode_3 a k l mark w3 hx3 hb)
  clear hg2 O2 TC
  cases hall : l.all (okc 3)
  · rw [encR_no hall] at KE KR
    clear hall
    go_wp2_with fail
    refine KE.out.mono ?_
    rintro e w3 ⟨rfl, t3⟩
    have T3 := hid (T2.out.trans t3 (fun _ _ e => e))
    replace HI := hid (HI.out.new t3)
    clear t3 T2 KE
    go_wp2_with fail
    refine (KR.out w3 (HX.out.new T3.out)).mono ?_
    rintro e w4 ⟨rfl, t4⟩
    have T4 := hid (T3.out.trans t4 (fun _ _ e => e))
    replace HI := hid (HI.out.new t4)
    clear t4 T3 KR
    go_wp2_with fail
    refine (ints_ix a2 a k2 k l.length l.length l w4 HI.out (HX.out.new T4.out) rfl rfl (by omega)).mono ?_
    rintro e w5 ⟨rfl, t5⟩
    have T5 := hid (T4.out.trans t5 (fun _ _ e => e))
    clear t5 T4
    go_wp2
    go_ret
    exact ⟨rfl, T5.out⟩
  · rw [encR_yes (by decide) hall] at KE KR
    have hsz := encS_size (c := 3) (by decide) mark hall
    obtain ⟨hl1, hl2⟩ := encS_lay (c := 3) (by decide) mark hall
    have KD : Hid (∀ w3, Tabs w3 → Calls Tryd.prog 10 #[.string (encS 3 mark l), .int .i64 3, .bool true] w3 fun e w' => ∃ a1 n1 k1 a2 n2 k2, e = .returned (.tuple #[.agg #[.int .i64 3, .slice a1 n1 k1, .slice a2 n2 k2, .int .i64 0], .agg #[.int .i64 0, .int .i64 0]]) ∧ n1 = (dropM 3 (fullL 3 mark l)).length ∧ Ix w' a1 (dropM 3 (fullL 3 mark l)) ∧ Touch (fun _ => False) w3 w') :=
      hid (fun w3 ht3 => decode_same 3 (by decide) (fullL 3 mark l) (full_ok 3 (by decide) mark l hall) (encS 3 mark l) hl1 hl2 w3 ht3 (by omega))
    rw [full_drop] at KD
    obtain ⟨m, hm⟩ : ∃ m, m = (if 3 ≠ 4 ∧ mark = false ∧ l.head? = some 65279 then l.tail else l) := ⟨_, rfl⟩
    have hml : m.length ≤ 1048576 := by
      rw [hm]
      split
      · rw [List.length_tail]
        omega
      · exact hb
    rw [← hm] at KD
    have HM := hid hm
    clear hall hl1 hl2 hsz hm
    generalize encS 3 mark l = s at *
    go_wp2_with fail
    refine KE.out.mono ?_
    rintro e w3 ⟨rfl, t3⟩
    have T3 := hid (T2.out.trans t3 (fun _ _ e => e))
    replace HI := hid (HI.out.new t3)
    clear t3 T2 KE
    go_wp2_with fail
    refine (KR.out w3 (HX.out.new T3.out)).mono ?_
    rintro e w4 ⟨rfl, t4⟩
    have T4 := hid (T3.out.trans t4 (fun _ _ e => e))
    replace HI := hid (HI.out.new t4)
    clear t4 T3 KR
    go_wp2_with fail
    refine (ints_ix a2 a k2 k l.length l.length l w4 HI.out (HX.out.new T4.out) rfl rfl (by omega)).mono ?_
    rintro e w5 ⟨rfl, t5⟩
    have T5 := hid (T4.out.trans t5 (fun _ _ e => e))
    clear t5 T4 HI
    go_wp2_with fail
    refine (KD.out w5 (HT.out.new T5.out)).mono ?_
    rintro e w6 ⟨a1, n1, k1, a3, n3, k3, rfl, hn1, hi, t6⟩
    have T6 := hid (T5.out.trans t6 (fun _ _ e => e))
    have HI := hid hi
    have HN := hid hn1
    clear hi hn1 t6 KD T5
    have B1 := hid (RB2.made w6 (.int .i64 3) (.slice a1 n1 k1) (.slice a3 n3 k3) (.int .i64 0) (.int .i64 0) (.int .i64 0))
    have TA := hid (((Touch.refl (fun _ => False) w6).alloc (.cells #[.int .i64 3, .slice a1 n1 k1, .slice a3 n3 k3, .int .i64 0] 25)).alloc (.cells #[.int .i64 0, .int .i64 0] 28))
    go_upto_region 11 with fail
    generalize ((w6.alloc (.cells #[.int .i64 3, .slice a1 n1 k1, .slice a3 n3 k3, .int .i64 0] 25)).alloc (.cells #[.int .i64 0, .int .i64 0] 28)) = w7 at *
    obtain ⟨q, hq⟩ : ∃ q, q = w6.heap.size := ⟨_, rfl⟩
    rw [← hq] at B1 ⊢
    clear hq
    have T7 := hid (T6.out.trans TA.out (fun _ _ e => e))
    replace HI := hid (HI.out.new TA.out)
    have HX7 := hid (HX.out.new T7.out)
    clear T6 TA HX
    cases mark
    · cases l with
      | nil =>
        have HMM := hid (show m = [] by rw [HM.out]; rfl)
        obtain ⟨⟨q0, q1, q2, q3⟩, _⟩ := four_cells' B1.out.a
        obtain ⟨⟨p0, p1⟩, _⟩ := two_cells B1.out.b
        have KI := hid (ints_ix a1 (a) k1 (k) n1 (0) m w7 HI.out (by rw [HMM.out]; exact .inl rfl) HN.out (by rw [HMM.out]; rfl) (by omega))
        clear HI HN B1 HM HX7
        go_wp2_with fail
        refine KI.out.mono ?_
        rintro e w9 ⟨rfl, t9⟩
        have T9 := hid (T7.out.trans t9 (fun _ _ e => e))
        clear t9 KI q0 q1 q2 q3 p0 p1
        go_wp2
        go_ret
        exact ⟨rfl, T9.out⟩
      | cons x l =>
        obtain ⟨y, rfl, hc0, hxt⟩ := HX7.out.tail
        rw [add_none] at hc0
        have hlen : (x :: l).length = l.length + 1 := rfl
        rw [hlen] at hk
        by_cases hx : x = 65279
        · have HMM := hid (show m = l by rw [HM.out, if_pos ⟨by decide, rfl, by rw [hx]; rfl⟩]; rfl)
          obtain ⟨y2, k4, hsl, hx4⟩ := tail_ix y k x l w7 hxt hk
          have HSL := hid hsl
          have HXT := hid hx4
          subst hx
          clear hxt hsl hx4
          obtain ⟨⟨q0, q1, q2, q3⟩, _⟩ := four_cells' B1.out.a
          obtain ⟨⟨p0, p1⟩, _⟩ := two_cells B1.out.b
          have KI := hid (ints_ix a1 (y2) k1 (k4) n1 (l.length) m w7 HI.out (by rw [HMM.out]; exact HXT.out) HN.out (by rw [HMM.out]) (by omega))
          clear HI HN B1 HM HX7
          go_wp2_with (first | refine wpList_slice_from _ rfl _ _ rfl _ _ _ 1 _ rfl rfl (by rfl) (by simp) _ HSL.out ?_ | fail)
          refine KI.out.mono ?_
          rintro e w9 ⟨rfl, t9⟩
          have T9 := hid (T7.out.trans t9 (fun _ _ e => e))
          clear t9 KI q0 q1 q2 q3 p0 p1
          go_wp2
          go_ret
          exact ⟨rfl, T9.out⟩
        · have HMM := hid (show m = x :: l by rw [HM.out, if_neg (fun e => hx (by simpa using e.2.2))])
          clear hxt
          obtain ⟨⟨q0, q1, q2, q3⟩, _⟩ := four_cells' B1.out.a
          obtain ⟨⟨p0, p1⟩, _⟩ := two_cells B1.out.b
          have KI := hid (ints_ix a1 (some y) k1 (k) n1 (l.length + 1) m w7 HI.out (by rw [HMM.out]; exact HX7.out) HN.out (by rw [HMM.out]; rfl) (by omega))
          clear HI HN B1 HM HX7
          go_wp2_with fail
          refine KI.out.mono ?_
          rintro e w9 ⟨rfl, t9⟩
          have T9 := hid (T7.out.trans t9 (fun _ _ e => e))
          clear t9 KI q0 q1 q2 q3 p0 p1
          go_wp2
          go_ret
          exact ⟨rfl, T9.out⟩
    · have HMM := hid (show m = l by rw [HM.out, if_neg (fun e => by cases e.2.1)])
      obtain ⟨⟨q0, q1, q2, q3⟩, _⟩ := four_cells' B1.out.a
      obtain ⟨⟨p0, p1⟩, _⟩ := two_cells B1.out.b
      have KI := hid (ints_ix a1 (a) k1 (k) n1 (l.length) m w7 HI.out (by rw [HMM.out]; exact HX7.out) HN.out (by rw [HMM.out]) (by omega))
      clear HI HN B1 HM HX7
      go_wp2_with fail
      refine KI.out.mono ?_
      rintro e w9 ⟨rfl, t9⟩
      have T9 := hid (T7.out.trans t9 (fun _ _ e => e))
      clear t9 KI q0 q1 q2 q3 p0 p1
      go_wp2
      go_ret
      exact ⟨rfl, T9.out⟩
end Go.Proofs.YtpjnnbegimaaeaaDoor
