/- Texts of this proof, one behind the other: what each says stands ahead of it. -/
import Derived.Test.YtpjnnbegimaaeabDoorM15
/- TopScalars' walk; conditions: the text is of at most 1048576 bytes. -/
namespace Go.Proofs.YtpjnnbegimaaeabDoor
open Go.RowKit
open Go.Lib

theorem cell_set6 {w : World} {q b i : Nat} (h0 : b ≠ q) (h1 : b ≠ q + 1) (c0 c1 c2 c3 g0 g1 : Value) : ((((((w.setCell ⟨q, 0, none⟩ c0).setCell ⟨q, 1, none⟩ c1).setCell ⟨q, 2, none⟩ c2).setCell ⟨q, 3, none⟩ c3).setCell ⟨q + 1, 0, none⟩ g0).setCell ⟨q + 1, 1, none⟩ g1).cell? ⟨b, i, none⟩ = w.cell? ⟨b, i, none⟩ :=
  World.cell?_of_block (w := w) (set6_other h0 h1 c0 c1 c2 c3 g0 g1)
theorem rg_half (w : World) : S.Rg (w.alloc (.cells #[.int .i64 55296, .int .i64 57343] 34)) (some ⟨w.heap.size, 0, none⟩) [(55296, 57343)] := by
  refine .inr ⟨w.heap.size, 0, rfl, by simp, fun i hi => ?_⟩
  obtain rfl : i = 0 := by simp at hi; exact hi
  unfold World.cell?
  simp only [Nat.zero_mul, Nat.add_zero, Nat.zero_add]
  rw [block_new]
  exact ⟨rfl, rfl⟩
set_option maxRecDepth 100000 in
set_option maxHeartbeats 8000000 in
theorem topScalars_out (s : ByteArray) (c d : Int) (w : World) (ht : Tabs w) (hc : c < 0 ∨ (0 ≤ c ∧ 4 < c)) : Calls Tryd.prog 3 #[.string s, .int .i64 c, .int .i64 d] w fun e w' => e = .returned (.bool true) ∧ Touch (fun _ => False) w w' := by
  have HT := hid ht
  have HC := hid hc
  clear ht
  go_enter Tryd.func3, Tryd.ntmps3
  go_wp2_with fail
  refine (dec_a w HT.out).mono ?_
  rintro e w1 ⟨b1, k1, a2, n2, k2, rfl, h97, t1⟩
  have T1 := hid t1
  have lb1 := World.block_lt_of_cell? w1 _ h97
  clear t1
  have B1 := hid (RB2.made w1 (.int .i64 1) (.slice (some ⟨b1, 0, none⟩) 1 k1) (.slice a2 n2 k2) (.int .i64 0) (.int .i64 0) (.int .i64 0))
  have TA := hid (((Touch.refl (fun _ => False) w1).alloc (.cells #[.int .i64 1, .slice (some ⟨b1, 0, none⟩) 1 k1, .slice a2 n2 k2, .int .i64 0] 24)).alloc (.cells #[.int .i64 0, .int .i64 0] 27))
  have d97 := (TA.out.cell (p := ⟨b1, 0, none⟩) lb1 id).trans h97
  go_upto_region 2 with fail
  generalize ((w1.alloc (.cells #[.int .i64 1, .slice (some ⟨b1, 0, none⟩) 1 k1, .slice a2 n2 k2, .int .i64 0] 24)).alloc (.cells #[.int .i64 0, .int .i64 0] 27)) = w2 at *
  obtain ⟨q, hq⟩ : ∃ q, q = w1.heap.size := ⟨_, rfl⟩
  have HQ := hid (show w.heap.size ≤ q by have := T1.out.size; omega)
  rw [← hq] at B1 ⊢
  clear hq
  have T2 := hid (T1.out.trans TA.out (fun _ _ e => e))
  clear T1 TA h97 lb1
  obtain ⟨⟨q0, q1, q2, q3⟩, _⟩ := four_cells' B1.out.a
  obtain ⟨⟨p0, p1⟩, _⟩ := two_cells B1.out.b
  go_wp2_with fail
  refine (decode_out s c false w2 HC.out).mono ?_
  rintro e w3 ⟨rfl, t3⟩
  have B3 := hid ((B1.out.kept t3).set (.int .i64 0) (.slice none 0 0) (.slice none 0 0) (.int .i64 0) (.int .i64 1) (.int .i64 0))
  have T4 := hid (set6_touch (T2.out.trans t3 (fun _ _ e => e)) HQ.out (.int .i64 0) (.slice none 0 0) (.slice none 0 0) (.int .i64 0) (.int .i64 1) (.int .i64 0))
  have B0 := hid (B1.out.kept t3)
  obtain ⟨_, f0⟩ := four_cells' B0.out.a
  obtain ⟨_, f1⟩ := two_cells B0.out.b
  have lq := lt_of_block B0.out.a
  have lq1 := lt_of_block B0.out.b
  obtain ⟨⟨m0, m1, m2, m3⟩, _⟩ := four_cells' B0.out.a
  obtain ⟨⟨n0, n1⟩, _⟩ := two_cells B0.out.b
  clear t3 T2 B1 B0 q0 q1 q2 q3 p0 p1
  unfold zeroT
  go_upto_region 5 with fail
  generalize ((((((w3.setCell ⟨q, 0, none⟩ (.int .i64 0)).setCell ⟨q, 1, none⟩ (.slice none 0 0)).setCell ⟨q, 2, none⟩ (.slice none 0 0)).setCell ⟨q, 3, none⟩ (.int .i64 0)).setCell ⟨q + 1, 0, none⟩ (.int .i64 1)).setCell ⟨q + 1, 1, none⟩ (.int .i64 0)) = w4 at *
  clear m0 m1 m2 m3 n0 n1 f0 f1 lq lq1
  obtain ⟨⟨p0, p1⟩, _⟩ := two_cells B3.out.b
  rcases hc with h | ⟨h0, h4⟩
  · clear HC
    go_wp2
    go_ret
    exact ⟨rfl, T4.out⟩
  · have hn : ¬ (c < 0) := by omega
    clear HC
    go_wp2
    go_ret
    exact ⟨rfl, T4.out⟩
set_option maxRecDepth 100000 in
set_option maxHeartbeats 16000000 in
theorem topScalars_in (s : ByteArray) (c : Nat) (d : Int) (w : World) (ht : Tabs w) (hs : s.size ≤ 1048576) (hc : c ≤ 4) : Calls Tryd.prog 3 #[.string s, .int .i64 (c : Nat), .int .i64 d] w fun e w' => e = .returned (.bool true) ∧ Touch (fun _ => False) w w' := by
  have HT := hid ht
  clear ht
  go_enter Tryd.func3, Tryd.ntmps3
  go_wp2_with fail
  refine (dec_a w HT.out).mono ?_
  rintro e w1 ⟨b1, k1, a2, n2, k2, rfl, h97, t1⟩
  have T1 := hid t1
  have lb1 := World.block_lt_of_cell? w1 _ h97
  clear t1
  have B1 := hid (RB2.made w1 (.int .i64 1) (.slice (some ⟨b1, 0, none⟩) 1 k1) (.slice a2 n2 k2) (.int .i64 0) (.int .i64 0) (.int .i64 0))
  have TA := hid (((Touch.refl (fun _ => False) w1).alloc (.cells #[.int .i64 1, .slice (some ⟨b1, 0, none⟩) 1 k1, .slice a2 n2 k2, .int .i64 0] 24)).alloc (.cells #[.int .i64 0, .int .i64 0] 27))
  have d97 := (TA.out.cell (p := ⟨b1, 0, none⟩) lb1 id).trans h97
  go_upto_region 2 with fail
  generalize ((w1.alloc (.cells #[.int .i64 1, .slice (some ⟨b1, 0, none⟩) 1 k1, .slice a2 n2 k2, .int .i64 0] 24)).alloc (.cells #[.int .i64 0, .int .i64 0] 27)) = w2 at *
  obtain ⟨q, hq⟩ : ∃ q, q = w1.heap.size := ⟨_, rfl⟩
  have HQ := hid (show w.heap.size ≤ q by have := T1.out.size; omega)
  rw [← hq] at B1 ⊢
  clear hq
  have T2 := hid (T1.out.trans TA.out (fun _ _ e => e))
  clear T1 TA h97 lb1
  obtain ⟨⟨q0, q1, q2, q3⟩, _⟩ := four_cells' B1.out.a
  obtain ⟨⟨p0, p1⟩, _⟩ := two_cells B1.out.b
  obtain ⟨c1, bad, l, hsc, hll, K⟩ := dec_data s c hc hs w2 (HT.out.new T2.out)
  have HSC := hid hsc
  have KK := hid K
  have LQ := hid (lt_of_block B1.out.b)
  clear hsc K
  go_wp2_with fail
  refine KK.out.mono ?_
  rintro e w3 ⟨a1, k4, a4, n4, k5, rfl, hi, t3⟩
  have B3 := hid ((B1.out.kept t3).set (.int .i64 (c1 : Nat)) (.slice a1 l.length k4) (.slice a4 n4 k5) (.int .i64 (bad : Nat)) (.int .i64 0) (.int .i64 0))
  have T4 := hid (set6_touch (T2.out.trans t3 (fun _ _ e => e)) HQ.out (.int .i64 (c1 : Nat)) (.slice a1 l.length k4) (.slice a4 n4 k5) (.int .i64 (bad : Nat)) (.int .i64 0) (.int .i64 0))
  have SZ := hid (set6_size w3 q (.int .i64 (c1 : Nat)) (.slice a1 l.length k4) (.slice a4 n4 k5) (.int .i64 (bad : Nat)) (.int .i64 0) (.int .i64 0))
  have HL := hid (show l = [] ∨ ∃ b, a1 = some ⟨b, 0, none⟩ ∧ b < w3.heap.size ∧ ∀ i (h : i < l.length), ((((((w3.setCell ⟨q, 0, none⟩ (.int .i64 (c1 : Nat))).setCell ⟨q, 1, none⟩ (.slice a1 l.length k4)).setCell ⟨q, 2, none⟩ (.slice a4 n4 k5)).setCell ⟨q, 3, none⟩ (.int .i64 (bad : Nat))).setCell ⟨q + 1, 0, none⟩ (.int .i64 0)).setCell ⟨q + 1, 1, none⟩ (.int .i64 0)).cell? ⟨b, i, none⟩ = some (.int .i64 l[i]) from by
    rcases hi with hi | ⟨b, rfl, hb2, hb3, hcl⟩
    · exact .inl hi
    · have := LQ.out
      exact .inr ⟨b, rfl, hb3, fun i h => by rw [cell_set6 (by omega) (by omega)]; exact hcl i h⟩)
  have B0 := hid (B1.out.kept t3)
  obtain ⟨⟨m0, m1, m2, m3⟩, f0⟩ := four_cells' B0.out.a
  obtain ⟨⟨n0, n1⟩, f1⟩ := two_cells B0.out.b
  clear t3 T2 B1 B0 q0 q1 q2 q3 p0 p1 hi KK LQ
  go_upto_region 5 with fail
  generalize ((((((w3.setCell ⟨q, 0, none⟩ (.int .i64 (c1 : Nat))).setCell ⟨q, 1, none⟩ (.slice a1 l.length k4)).setCell ⟨q, 2, none⟩ (.slice a4 n4 k5)).setCell ⟨q, 3, none⟩ (.int .i64 (bad : Nat))).setCell ⟨q + 1, 0, none⟩ (.int .i64 0)).setCell ⟨q + 1, 1, none⟩ (.int .i64 0)) = w4 at *
  clear m0 m1 m2 m3 n0 n1 f0 f1 d97
  have HG := hid (show l = [] ∨ Ig w4 a1 l from HL.out.imp id (fun ⟨b, h1, h2, h3⟩ => ⟨b, h1, by rw [SZ.out]; exact h2, h3⟩))
  clear HL SZ HQ
  obtain ⟨⟨q0, q1, q2, q3⟩, _⟩ := four_cells' B3.out.a
  obtain ⟨⟨p0, p1⟩, _⟩ := two_cells B3.out.b
  have RG := hid (rg_half w4)
  have TH := hid ((Touch.refl (fun _ => False) w4).alloc (.cells #[.int .i64 55296, .int .i64 57343] 34))
  go_wp2_with fail
  refine (S.of_says (some ⟨w4.heap.size, 0, none⟩) 1 [(55296, 57343)] _ RG.out (by decide)).mono ?_
  rintro e w5 ⟨v5, s5, rfl, cn5, in5, ow5⟩
  obtain ⟨a5, k6, hv5, rg5⟩ := S.own_rg ow5.own
  subst hv5
  have KN := hid (S.not_says a5 k6 s5 w5 rg5 cn5)
  have T5 := hid (TH.out.trans ow5.touch (fun _ _ e => e))
  have IN5 := hid in5
  clear ow5 rg5 cn5 in5 TH RG
  go_wp2_with fail
  refine KN.out.mono ?_
  rintro e w6 ⟨v6, n6, rfl, cn6, in6, ow6⟩
  obtain ⟨a6, k7, hv6, rg6⟩ := ow6.rg
  subst hv6
  have T6 := hid (T5.out.trans ow6.touch (fun _ _ e => e))
  have RG6 := hid rg6
  have CN6 := hid cn6
  have GOOD := hid (fun x hx => good_in n6 s5 x hx IN5.out in6)
  clear ow6 rg6 cn6 in6 KN T5 IN5
  have B6 := hid (B3.out.kept T6.out)
  have TT := hid (T4.out.trans T6.out (fun _ _ e => e))
  replace HG := hid (HG.out.imp id (fun h => h.new T6.out))
  clear q0 q1 q2 q3 p0 p1 B3 T4 T6
  go_wp2_with fail
  go_loopg [10] l.length (fun gk v wq => ∃ i : Nat, i + gk = l.length ∧ v = .int .i64 (i : Nat) ∧ Touch (fun _ => False) w6 wq)
  case atStart => exact ⟨0, by omega, rfl, Touch.refl _ _⟩
  case round =>
    obtain ⟨i, hi, rfl, htc⟩ := hrel
    have TC := hid htc
    have BR := hid (B6.out.kept htc)
    have GR := hid (HG.out.imp id (fun h => h.new htc))
    have TR := hid (TT.out.trans htc (fun _ _ e => e))
    clear htc
    obtain ⟨⟨q0, q1, q2, q3⟩, _⟩ := four_cells' BR.out.a
    by_cases hlt : i < l.length
    · obtain ⟨gk, rfl⟩ : ∃ j, gk = j + 1 := ⟨gk - 1, by omega⟩
      have hltI : (i : Int) < (l.length : Int) := by omega
      obtain ⟨b, rfl, hb, hcl⟩ : Ig wr a1 l := GR.out.resolve_left (fun e => by rw [e] at hlt; simp at hlt)
      have d1 := hcl i hlt
      have KH := hid (S.has_says a6 k7 n6 l[i] wr (RG6.out.new TC.out) CN6.out)
      rw [GOOD.out l[i] (HSC.out l[i] (List.getElem_mem hlt))] at KH
      generalize l[i] = x at *
      clear hcl
      go_wp2_with fail
      refine KH.out.mono ?_
      rintro e w7 ⟨rfl, t7⟩
      have T7 := hid (TC.out.trans t7 (fun _ _ e => e))
      clear t7 KH
      go_wp2
      go_roundg gk
      case measure => omega
      case rel => exact ⟨i + 1, by omega, by go_num, T7.out⟩
    · have hltI : ¬ ((i : Int) < (l.length : Int)) := by omega
      clear TC B6 HG GOOD RG6 CN6 TT
      by_cases h1 : d < 1
      · go_wp2
        go_ret
        exact ⟨rfl, TR.out⟩
      by_cases h3 : 3 < d
      · go_wp2
        go_ret
        exact ⟨rfl, TR.out⟩
      rcases (show d = 1 ∨ d = 2 ∨ d = 3 by omega) with rfl | rfl | rfl
      · have HALL := hid (show l.all (okc 1) = true from List.all_eq_true.2 (fun x hx => by unfold okc; rw [HSC.out x hx]; rfl))
        have KE := hid (encode_1 a1 k4 l true wr (HT.out.new TR.out) GR.out hll)
        rw [encR_yes (by decide) HALL.out] at KE
        have hsz := encS_size (c := 1) (by decide) true HALL.out
        obtain ⟨hl1, hl2⟩ := encS_lay (c := 1) (by decide) true HALL.out
        have KD : Hid (∀ w3, Tabs w3 → Calls Tryd.prog 4 #[.string (encS 1 true l), .int .i64 1, .bool true] w3 fun e w' => ∃ a1 n1 k1 a2 n2 k2, e = .returned (.tuple #[.agg #[.int .i64 1, .slice a1 n1 k1, .slice a2 n2 k2, .int .i64 0], .agg #[.int .i64 0, .int .i64 0]]) ∧ n1 = (dropM 1 (fullL 1 true l)).length ∧ Ix w' a1 (dropM 1 (fullL 1 true l)) ∧ Touch (fun _ => False) w3 w') :=
          hid (fun w3 ht3 => decode_same 1 (by decide) (fullL 1 true l) (full_ok 1 (by decide) true l HALL.out) (encS 1 true l) hl1 hl2 w3 ht3 (by omega))
        rw [full_drop, if_neg (fun e => by cases e.2.1)] at KD
        clear hl1 hl2 hsz HALL
        generalize encS 1 true l = st at *
        go_wp2_with fail
        refine KE.out.mono ?_
        rintro e w7 ⟨rfl, t7⟩
        have T7 := hid (TR.out.trans t7 (fun _ _ e => e))
        replace BR := hid (BR.out.kept t7)
        replace GR := hid (GR.out.imp id (fun h => h.new t7))
        clear t7 KE TR q0 q1 q2 q3
        go_wp2_with fail
        refine (KD.out w7 (HT.out.new T7.out)).mono ?_
        rintro e w8 ⟨a8, n8, k8, a9, n9, k9, rfl, hn8, hi8, t8⟩
        subst hn8
        have T8 := hid (T7.out.trans t8 (fun _ _ e => e))
        replace BR := hid (BR.out.kept t8)
        replace GR := hid (GR.out.imp id (fun h => h.new t8))
        have HI8 := hid hi8
        clear t8 hi8 KD T7
        have C1 := hid (RB2.made w8 (.int .i64 1) (.slice a8 l.length k8) (.slice a9 n9 k9) (.int .i64 0) (.int .i64 0) (.int .i64 0))
        have TA := hid (((Touch.refl (fun _ => False) w8).alloc (.cells #[.int .i64 1, .slice a8 l.length k8, .slice a9 n9 k9, .int .i64 0] 24)).alloc (.cells #[.int .i64 0, .int .i64 0] 27))
        go_upto_region 17 with fail
        generalize ((w8.alloc (.cells #[.int .i64 1, .slice a8 l.length k8, .slice a9 n9 k9, .int .i64 0] 24)).alloc (.cells #[.int .i64 0, .int .i64 0] 27)) = w9 at *
        obtain ⟨q', hq'⟩ : ∃ q', q' = w8.heap.size := ⟨_, rfl⟩
        rw [← hq'] at C1 ⊢
        clear hq'
        have T9 := hid (T8.out.trans TA.out (fun _ _ e => e))
        replace BR := hid (BR.out.kept TA.out)
        replace GR := hid (GR.out.imp id (fun h => h.new TA.out))
        replace HI8 := hid (HI8.out.new TA.out)
        clear TA T8
        obtain ⟨⟨q0, q1, q2, q3⟩, _⟩ := four_cells' BR.out.a
        obtain ⟨⟨o0, o1, o2, o3⟩, _⟩ := four_cells' C1.out.a
        obtain ⟨⟨p0, p1⟩, _⟩ := two_cells C1.out.b
        go_wp2_with fail
        go_loopg [15] l.length (fun gk v wq => ∃ i : Nat, i + gk = l.length ∧ v = .int .i64 (i : Nat) ∧ Touch (fun _ => False) w9 wq)
        case atStart => exact ⟨0, by omega, rfl, Touch.refl _ _⟩
        case round =>
          obtain ⟨i, hi, rfl, htc⟩ := hrel
          have TC := hid htc
          replace BR := hid (BR.out.kept htc)
          replace C1 := hid (C1.out.kept htc)
          replace GR := hid (GR.out.imp id (fun h => h.new htc))
          replace HI8 := hid (HI8.out.new htc)
          have TR := hid (T9.out.trans htc (fun _ _ e => e))
          clear htc q0 q1 q2 q3 o0 o1 o2 o3 p0 p1
          obtain ⟨⟨q0, q1, q2, q3⟩, _⟩ := four_cells' BR.out.a
          obtain ⟨⟨o0, o1, o2, o3⟩, _⟩ := four_cells' C1.out.a
          by_cases hlt : i < l.length
          · obtain ⟨gk, rfl⟩ : ∃ j, gk = j + 1 := ⟨gk - 1, by omega⟩
            have hltI : (i : Int) < (l.length : Int) := by omega
            have hne : l ≠ [] := fun e => by rw [e] at hlt; simp at hlt
            obtain ⟨b, rfl, hb, hcl⟩ := GR.out.resolve_left hne
            obtain ⟨y, rfl, hcy⟩ := HI8.out.resolve_left hne
            have d1 := hcl i hlt
            have d2 := hcy i hlt
            generalize l[i] = x at *
            clear hcl hcy hne
            go_upto_region 22 with fail
            go_cut [127] (fun v wd => v = .bool false ∧ Touch (fun _ => False) wr wd)
            case first =>
              go_quiet (fail)
              go_wp2
              go_meet
              case rel => exact ⟨by simp, (Touch.refl _ wr).drewN _⟩
            obtain ⟨rfl, tcw⟩ := hcut
            have T2 := hid (TC.out.trans tcw (fun _ _ e => e))
            clear tcw d1 d2
            go_wp2_with fail
            go_roundg gk
            case measure => omega
            case rel => exact ⟨i + 1, by omega, by go_num, T2.out⟩
          · have hltI : ¬ ((i : Int) < (l.length : Int)) := by omega
            go_wp2
            go_ret
            exact ⟨rfl, TR.out⟩
      · have HALL := hid (show l.all (okc 2) = true from List.all_eq_true.2 (fun x hx => by unfold okc; rw [HSC.out x hx]; rfl))
        have KE := hid (encode_2 a1 k4 l true wr (HT.out.new TR.out) GR.out hll)
        rw [encR_yes (by decide) HALL.out] at KE
        have hsz := encS_size (c := 2) (by decide) true HALL.out
        obtain ⟨hl1, hl2⟩ := encS_lay (c := 2) (by decide) true HALL.out
        have KD : Hid (∀ w3, Tabs w3 → Calls Tryd.prog 4 #[.string (encS 2 true l), .int .i64 2, .bool true] w3 fun e w' => ∃ a1 n1 k1 a2 n2 k2, e = .returned (.tuple #[.agg #[.int .i64 2, .slice a1 n1 k1, .slice a2 n2 k2, .int .i64 0], .agg #[.int .i64 0, .int .i64 0]]) ∧ n1 = (dropM 2 (fullL 2 true l)).length ∧ Ix w' a1 (dropM 2 (fullL 2 true l)) ∧ Touch (fun _ => False) w3 w') :=
          hid (fun w3 ht3 => decode_same 2 (by decide) (fullL 2 true l) (full_ok 2 (by decide) true l HALL.out) (encS 2 true l) hl1 hl2 w3 ht3 (by omega))
        rw [full_drop, if_neg (fun e => by cases e.2.1)] at KD
        clear hl1 hl2 hsz HALL
        generalize encS 2 true l = st at *
        go_wp2_with fail
        refine KE.out.mono ?_
        rintro e w7 ⟨rfl, t7⟩
        have T7 := hid (TR.out.trans t7 (fun _ _ e => e))
        replace BR := hid (BR.out.kept t7)
        replace GR := hid (GR.out.imp id (fun h => h.new t7))
        clear t7 KE TR q0 q1 q2 q3
        go_wp2_with fail
        refine (KD.out w7 (HT.out.new T7.out)).mono ?_
        rintro e w8 ⟨a8, n8, k8, a9, n9, k9, rfl, hn8, hi8, t8⟩
        subst hn8
        have T8 := hid (T7.out.trans t8 (fun _ _ e => e))
        replace BR := hid (BR.out.kept t8)
        replace GR := hid (GR.out.imp id (fun h => h.new t8))
        have HI8 := hid hi8
        clear t8 hi8 KD T7
        have C1 := hid (RB2.made w8 (.int .i64 2) (.slice a8 l.length k8) (.slice a9 n9 k9) (.int .i64 0) (.int .i64 0) (.int .i64 0))
        have TA := hid (((Touch.refl (fun _ => False) w8).alloc (.cells #[.int .i64 2, .slice a8 l.length k8, .slice a9 n9 k9, .int .i64 0] 24)).alloc (.cells #[.int .i64 0, .int .i64 0] 27))
        go_upto_region 17 with fail
        generalize ((w8.alloc (.cells #[.int .i64 2, .slice a8 l.length k8, .slice a9 n9 k9, .int .i64 0] 24)).alloc (.cells #[.int .i64 0, .int .i64 0] 27)) = w9 at *
        obtain ⟨q', hq'⟩ : ∃ q', q' = w8.heap.size := ⟨_, rfl⟩
        rw [← hq'] at C1 ⊢
        clear hq'
        have T9 := hid (T8.out.trans TA.out (fun _ _ e => e))
        replace BR := hid (BR.out.kept TA.out)
        replace GR := hid (GR.out.imp id (fun h => h.new TA.out))
        replace HI8 := hid (HI8.out.new TA.out)
        clear TA T8
        obtain ⟨⟨q0, q1, q2, q3⟩, _⟩ := four_cells' BR.out.a
        obtain ⟨⟨o0, o1, o2, o3⟩, _⟩ := four_cells' C1.out.a
        obtain ⟨⟨p0, p1⟩, _⟩ := two_cells C1.out.b
        go_wp2_with fail
        go_loopg [15] l.length (fun gk v wq => ∃ i : Nat, i + gk = l.length ∧ v = .int .i64 (i : Nat) ∧ Touch (fun _ => False) w9 wq)
        case atStart => exact ⟨0, by omega, rfl, Touch.refl _ _⟩
        case round =>
          obtain ⟨i, hi, rfl, htc⟩ := hrel
          have TC := hid htc
          replace BR := hid (BR.out.kept htc)
          replace C1 := hid (C1.out.kept htc)
          replace GR := hid (GR.out.imp id (fun h => h.new htc))
          replace HI8 := hid (HI8.out.new htc)
          have TR := hid (T9.out.trans htc (fun _ _ e => e))
          clear htc q0 q1 q2 q3 o0 o1 o2 o3 p0 p1
          obtain ⟨⟨q0, q1, q2, q3⟩, _⟩ := four_cells' BR.out.a
          obtain ⟨⟨o0, o1, o2, o3⟩, _⟩ := four_cells' C1.out.a
          by_cases hlt : i < l.length
          · obtain ⟨gk, rfl⟩ : ∃ j, gk = j + 1 := ⟨gk - 1, by omega⟩
            have hltI : (i : Int) < (l.length : Int) := by omega
            have hne : l ≠ [] := fun e => by rw [e] at hlt; simp at hlt
            obtain ⟨b, rfl, hb, hcl⟩ := GR.out.resolve_left hne
            obtain ⟨y, rfl, hcy⟩ := HI8.out.resolve_left hne
            have d1 := hcl i hlt
            have d2 := hcy i hlt
            generalize l[i] = x at *
            clear hcl hcy hne
            go_upto_region 22 with fail
            go_cut [127] (fun v wd => v = .bool false ∧ Touch (fun _ => False) wr wd)
            case first =>
              go_quiet (fail)
              go_wp2
              go_meet
              case rel => exact ⟨by simp, (Touch.refl _ wr).drewN _⟩
            obtain ⟨rfl, tcw⟩ := hcut
            have T2 := hid (TC.out.trans tcw (fun _ _ e => e))
            clear tcw d1 d2
            go_wp2_with fail
            go_roundg gk
            case measure => omega
            case rel => exact ⟨i + 1, by omega, by go_num, T2.out⟩
          · have hltI : ¬ ((i : Int) < (l.length : Int)) := by omega
            go_wp2
            go_ret
            exact ⟨rfl, TR.out⟩
      · have HALL := hid (show l.all (okc 3) = true from List.all_eq_true.2 (fun x hx => by unfold okc; rw [HSC.out x hx]; rfl))
        have KE := hid (encode_3 a1 k4 l true wr (HT.out.new TR.out) GR.out hll)
        rw [encR_yes (by decide) HALL.out] at KE
        have hsz := encS_size (c := 3) (by decide) true HALL.out
        obtain ⟨hl1, hl2⟩ := encS_lay (c := 3) (by decide) true HALL.out
        have KD : Hid (∀ w3, Tabs w3 → Calls Tryd.prog 4 #[.string (encS 3 true l), .int .i64 3, .bool true] w3 fun e w' => ∃ a1 n1 k1 a2 n2 k2, e = .returned (.tuple #[.agg #[.int .i64 3, .slice a1 n1 k1, .slice a2 n2 k2, .int .i64 0], .agg #[.int .i64 0, .int .i64 0]]) ∧ n1 = (dropM 3 (fullL 3 true l)).length ∧ Ix w' a1 (dropM 3 (fullL 3 true l)) ∧ Touch (fun _ => False) w3 w') :=
          hid (fun w3 ht3 => decode_same 3 (by decide) (fullL 3 true l) (full_ok 3 (by decide) true l HALL.out) (encS 3 true l) hl1 hl2 w3 ht3 (by omega))
        rw [full_drop, if_neg (fun e => by cases e.2.1)] at KD
        clear hl1 hl2 hsz HALL
        generalize encS 3 true l = st at *
        go_wp2_with fail
        refine KE.out.mono ?_
        rintro e w7 ⟨rfl, t7⟩
        have T7 := hid (TR.out.trans t7 (fun _ _ e => e))
        replace BR := hid (BR.out.kept t7)
        replace GR := hid (GR.out.imp id (fun h => h.new t7))
        clear t7 KE TR q0 q1 q2 q3
        go_wp2_with fail
        refine (KD.out w7 (HT.out.new T7.out)).mono ?_
        rintro e w8 ⟨a8, n8, k8, a9, n9, k9, rfl, hn8, hi8, t8⟩
        subst hn8
        have T8 := hid (T7.out.trans t8 (fun _ _ e => e))
        replace BR := hid (BR.out.kept t8)
        replace GR := hid (GR.out.imp id (fun h => h.new t8))
        have HI8 := hid hi8
        clear t8 hi8 KD T7
        have C1 := hid (RB2.made w8 (.int .i64 3) (.slice a8 l.length k8) (.slice a9 n9 k9) (.int .i64 0) (.int .i64 0) (.int .i64 0))
        have TA := hid (((Touch.refl (fun _ => False) w8).alloc (.cells #[.int .i64 3, .slice a8 l.length k8, .slice a9 n9 k9, .int .i64 0] 24)).alloc (.cells #[.int .i64 0, .int .i64 0] 27))
        go_upto_region 17 with fail
        generalize ((w8.alloc (.cells #[.int .i64 3, .slice a8 l.length k8, .slice a9 n9 k9, .int .i64 0] 24)).alloc (.cells #[.int .i64 0, .int .i64 0] 27)) = w9 at *
        obtain ⟨q', hq'⟩ : ∃ q', q' = w8.heap.size := ⟨_, rfl⟩
        rw [← hq'] at C1 ⊢
        clear hq'
        have T9 := hid (T8.out.trans TA.out (fun _ _ e => e))
        replace BR := hid (BR.out.kept TA.out)
        replace GR := hid (GR.out.imp id (fun h => h.new TA.out))
        replace HI8 := hid (HI8.out.new TA.out)
        clear TA T8
        obtain ⟨⟨q0, q1, q2, q3⟩, _⟩ := four_cells' BR.out.a
        obtain ⟨⟨o0, o1, o2, o3⟩, _⟩ := four_cells' C1.out.a
        obtain ⟨⟨p0, p1⟩, _⟩ := two_cells C1.out.b
        go_wp2_with fail
        go_loopg [15] l.length (fun gk v wq => ∃ i : Nat, i + gk = l.length ∧ v = .int .i64 (i : Nat) ∧ Touch (fun _ => False) w9 wq)
        case atStart => exact ⟨0, by omega, rfl, Touch.refl _ _⟩
        case round =>
          obtain ⟨i, hi, rfl, htc⟩ := hrel
          have TC := hid htc
          replace BR := hid (BR.out.kept htc)
          replace C1 := hid (C1.out.kept htc)
          replace GR := hid (GR.out.imp id (fun h => h.new htc))
          replace HI8 := hid (HI8.out.new htc)
          have TR := hid (T9.out.trans htc (fun _ _ e => e))
          clear htc q0 q1 q2 q3 o0 o1 o2 o3 p0 p1
          obtain ⟨⟨q0, q1, q2, q3⟩, _⟩ := four_cells' BR.out.a
          obtain ⟨⟨o0, o1, o2, o3⟩, _⟩ := four_cells' C1.out.a
          by_cases hlt : i < l.length
          · obtain ⟨gk, rfl⟩ : ∃ j, gk = j + 1 := ⟨gk - 1, by omega⟩
            have hltI : (i : Int) < (l.length : Int) := by omega
            have hne : l ≠ [] := fun e => by rw [e] at hlt; simp at hlt
            obtain ⟨b, rfl, hb, hcl⟩ := GR.out.resolve_left hne
            obtain ⟨y, rfl, hcy⟩ := HI8.out.resolve_left hne
            have d1 := hcl i hlt
            have d2 := hcy i hlt
            generalize l[i] = x at *
            clear hcl hcy hne
            go_upto_region 22 with fail
            go_cut [127] (fun v wd => v = .bool false ∧ Touch (fun _ => False) wr wd)
            case first =>
              go_quiet (fail)
              go_wp2
              go_meet
              case rel => exact ⟨by simp, (Touch.refl _ wr).drewN _⟩
            obtain ⟨rfl, tcw⟩ := hcut
            have T2 := hid (TC.out.trans tcw (fun _ _ e => e))
            clear tcw d1 d2
            go_wp2_with fail
            go_roundg gk
            case measure => omega
            case rel => exact ⟨i + 1, by omega, by go_num, T2.out⟩
          · have hltI : ¬ ((i : Int) < (l.length : Int)) := by omega
            go_wp2
            go_ret
            exact ⟨rfl, TR.out⟩
theorem topScalars_walk (s : ByteArray) (c d : Int) (w : World) (ht : Tabs w) (hs : s.size ≤ 1048576) : Calls Tryd.prog 3 #[.string s, .int .i64 c, .int .i64 d] w fun e w' => e = .returned (.bool true) ∧ Touch (fun _ => False) w w' := by
  by_cases h : c < 0 ∨ (0 ≤ c ∧ 4 < c)
  · exact topScalars_out s c d w ht h
  · obtain ⟨n, rfl⟩ := Int.eq_ofNat_of_zero_le (show 0 ≤ c by omega)
    exact topScalars_in s n d w ht hs (by omega)
end Go.Proofs.YtpjnnbegimaaeabDoor
