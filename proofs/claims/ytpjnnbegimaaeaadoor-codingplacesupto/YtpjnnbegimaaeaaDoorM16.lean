/- Texts of this proof, one behind the other: what each says stands ahead of it. -/
import Derived.Test.YtpjnnbegimaaeaaDoorM15
/- CodingPlaces' walk where the coding is one of those there are; conditions: those told. -/
namespace Go.Proofs.YtpjnnbegimaaeaaDoor
open Go.RowKit
open Go.Lib

theorem toList_inj {a b : ByteArray} (h : a.toList = b.toList) : a = b := by
  rw [toList_data, toList_data] at h
  exact ByteArray.ext (Array.ext' h)
theorem cnt_take (s : ByteArray) (c : Nat) (L : List Nat) (i : Nat) (h : i < L.length) : (L.take (i + 1)).countP (badAt s c) = (L.take i).countP (badAt s c) + (if badAt s c L[i] = true then 1 else 0) := by
  rw [List.take_succ_eq_append_getElem h, List.countP_append, List.countP_singleton]
set_option maxRecDepth 100000 in
set_option maxHeartbeats 16000000 in
theorem codingPlaces_in (s : ByteArray) (c : Nat) (w : World) (ht : Tabs w) (hs : s.size ≤ 1048576) (hc : c ≤ 4) : Calls Tryd.prog 5 #[.string s, .int .i64 (c : Nat)] w fun e w' => e = .returned (.bool true) ∧ Touch (fun _ => False) w w' := by
  obtain ⟨L, hL⟩ : ∃ L, L = seg s (bg s c).1 s.size (bg s c).2 := ⟨_, rfl⟩
  have hbg := bg_in s c hc
  have hb3 := bg_le s c
  have K1 := hid (fun w ht => pl_dec1 s c hc hs L hL w ht)
  have K2 := hid (fun w ht => pl_dec2 s c hc hs L hL w ht)
  have HH := hid (show (L ++ [s.size])[0]? = some (bg s c).2 by rw [hL]; exact seg_head s (bg s c).1 s.size (bg s c).2 hbg.2.2 (by omega))
  have hLl : L.length ≤ 1048576 := by rw [hL]; exact Nat.le_trans (seg_len _ _ _ _) hs
  obtain ⟨c1, hc1⟩ : ∃ c1, c1 = (bg s c).1 := ⟨_, rfl⟩
  obtain ⟨i0, hi0⟩ : ∃ i0, i0 = (bg s c).2 := ⟨_, rfl⟩
  rw [← hc1, ← hi0] at hL hbg
  rw [← hi0] at hb3 HH
  simp only [← hc1] at K1 K2
  have hcc : c1 = 1 ∨ c1 = 2 ∨ c1 = 3 ∨ c1 = 4 := by omega
  have HAT := hid (show ∀ j (h : j < L.length), L[j] < s.size ∧ (L ++ [s.size])[j + 1]? = some (L[j] + (tkAt s c1 L[j]).2) by
    subst hL
    exact seg_at s c1 hcc s.size i0 hbg.2.2 (by omega))
  have HCC := hid hcc
  clear hL hc1 hi0 hcc hbg
  have HT := hid ht
  clear ht
  go_enter Tryd.func5, Tryd.ntmps5
  go_wp2_with fail
  refine (speaks_yes w HT.out).mono ?_
  rintro e w1 ⟨rfl, t1⟩
  have TC := hid t1
  clear t1
  go_wp2_with fail
  refine (K1.out w1 (HT.out.new TC.out)).mono ?_
  rintro e w2 ⟨a1, k1, a2, k2, rfl, i1, i2, t2⟩
  have T2 := hid (TC.out.trans t2 (fun _ _ e => e))
  have I1 := hid i1
  have I2 := hid i2
  clear t2 TC i1 i2 K1
  obtain ⟨B, hB⟩ : ∃ B, B = L.countP (badAt s c1) := ⟨_, rfl⟩
  rw [← hB]
  simp only [← hB] at K2
  have HB := hid hB
  clear hB
  have B1 := hid (RB2.made w2 (.int .i64 (c1 : Nat)) (.slice a1 L.length k1) (.slice a2 (L.length + 1) k2) (.int .i64 (B : Nat)) (.int .i64 0) (.int .i64 0))
  have TA := hid (((Touch.refl (fun _ => False) w2).alloc (.cells #[.int .i64 (c1 : Nat), .slice a1 L.length k1, .slice a2 (L.length + 1) k2, .int .i64 (B : Nat)] 25)).alloc (.cells #[.int .i64 0, .int .i64 0] 28))
  go_upto_region 4 with fail
  generalize ((w2.alloc (.cells #[.int .i64 (c1 : Nat), .slice a1 L.length k1, .slice a2 (L.length + 1) k2, .int .i64 (B : Nat)] 25)).alloc (.cells #[.int .i64 0, .int .i64 0] 28)) = w3 at *
  obtain ⟨q, hq⟩ : ∃ q, q = w2.heap.size := ⟨_, rfl⟩
  rw [← hq] at B1 ⊢
  clear hq
  have T3 := hid (T2.out.trans TA.out (fun _ _ e => e))
  replace I1 := hid (I1.out.imp id (fun h => h.new TA.out))
  replace I2 := hid (I2.out.new TA.out)
  clear T2 TA
  obtain ⟨⟨q0, q1, q2, q3⟩, _⟩ := four_cells' B1.out.a
  obtain ⟨⟨p0, p1⟩, _⟩ := two_cells B1.out.b
  go_wp2_with fail
  go_loopg [7, 8] L.length (fun gk v7 v8 wq => ∃ (i m : Nat), i + gk = L.length ∧ v8 = .int .i64 (i : Nat) ∧ v7 = .int .i64 (m : Nat) ∧ m ≤ (L.take i).countP (badAt s c1) ∧ Touch (fun _ => False) w3 wq)
  case atStart => exact ⟨0, 0, by omega, rfl, rfl, Nat.zero_le _, Touch.refl _ _⟩
  case round =>
    obtain ⟨i, m, hi, rfl, rfl, hm, htc⟩ := hrel
    have TC := hid htc
    replace B1 := hid (B1.out.kept htc)
    replace I1 := hid (I1.out.imp id (fun h => h.new htc))
    replace I2 := hid (I2.out.new htc)
    have TR := hid (T3.out.trans htc (fun _ _ e => e))
    have HM := hid hm
    have hmB : m ≤ 1048576 := Nat.le_trans hm (Nat.le_trans List.countP_le_length (by rw [List.length_take]; omega))
    clear q0 q1 q2 q3 p0 p1 htc hm
    obtain ⟨⟨q0, q1, q2, q3⟩, _⟩ := four_cells' B1.out.a
    by_cases hlt : i < L.length
    · obtain ⟨gk, rfl⟩ : ∃ j, gk = j + 1 := ⟨gk - 1, by omega⟩
      have hltI : (i : Int) < (L.length : Int) := by omega
      obtain ⟨b1, rfl, hb1, e1⟩ : Ig wr a1 (outL s c1 L) := I1.out.resolve_left (fun e => by have := outL_len s c1 L; rw [e] at this; simp at this; omega)
      obtain ⟨b2, rfl, hb2, e2⟩ := I2.out
      have d1 := e1 i (by rw [outL_len]; exact hlt)
      have d2 := e2 i (by rw [plL_len]; omega)
      have d3 := e2 (i + 1) (by rw [plL_len]; omega)
      obtain ⟨hp, hnx⟩ := HAT.out i hlt
      have HCT := hid (cnt_take s c1 L i hlt)
      rw [plL_at s L i L[i] (by rw [List.getElem?_append_left hlt, List.getElem?_eq_getElem hlt])] at d2
      rw [plL_at s L (i + 1) _ hnx] at d3
      rw [show (outL s c1 L)[i]'(by rw [outL_len]; exact hlt) = outAt s c1 L[i] by unfold outL; rw [List.getElem_map]] at d1
      obtain ⟨p, hpe⟩ : ∃ p, p = L[i] := ⟨_, rfl⟩
      rw [← hpe] at d1 d2 d3 hp HCT
      have hz := tkAt_size s c1 p
      have hr := tkAt_room c1 HCC.out s p hp
      obtain ⟨e1s, hke, heq⟩ := pl_enc s c1 HCC.out p hp
      obtain ⟨p2, hp2⟩ : ∃ p2, p2 = p + (tkAt s c1 p).2 := ⟨_, rfl⟩
      rw [← hp2] at d3 hr heq
      have h12 : p < p2 := by omega
      obtain ⟨x, hx⟩ : ∃ x, x = outAt s c1 p := ⟨_, rfl⟩
      rw [← hx] at d1 hke
      have HX := hid (show badAt s c1 p = true → x = 65533 from fun e => by rw [hx]; unfold outAt; rw [if_pos (of_decide_eq_true e)])
      have KE := hid hke
      have HEQ := hid heq
      clear hpe hnx hz hp2 hx hke heq e1 e2
      obtain ⟨bd, hbd⟩ : ∃ bd, bd = badAt s c1 p := ⟨_, rfl⟩
      rw [← hbd] at HX HEQ HCT
      clear hbd
      have h12I : ¬ ((p2 : Int) ≤ (p : Int)) := by omega
      have hrI : (p2 : Int) ≤ (s.size : Int) := by omega
      have hpI : (p : Int) ≤ (p2 : Int) := by omega
      go_upto_region 10 with fail
      go_quiet (fail)
      go_upto_region 13 with fail
      have T5 := hid ((Touch.refl (fun _ => False) wr).drewN nq)
      have d1' := (T5.out.cell (p := ⟨b1, i, none⟩) hb1 id).trans d1
      have B5 := hid (B1.out.kept T5.out)
      have TR5 := hid (TR.out.trans T5.out (fun _ _ e => e))
      have TC5 := hid (TC.out.trans T5.out (fun _ _ e => e))
      clear d1 d2 d3 q0 q1 q2 q3 T5 TC TR
      generalize wr.drewN nq = w5 at *
      obtain ⟨⟨q0, q1, q2, q3⟩, _⟩ := four_cells' B5.out.a
      have lb1 := World.block_lt_of_cell? w5 _ d1'
      have lbq := World.block_lt_of_cell? w5 _ q0
      have TX := hid ((Touch.refl (fun _ => False) w5).alloc (.cells #[.int .i64 x] 3))
      have GX := hid (ig_new w5 [x])
      have HTX := hid ((HT.out.new TR5.out).new TX.out)
      go_region_held3 (fun w' => w'.cell? ⟨q, 0, none⟩ = some (.int .i64 (c1 : Nat)) ∧ w'.cell? ⟨q, 1, none⟩ = some (.slice (some ⟨b1, 0, none⟩) L.length k1) ∧ w'.cell? ⟨b1, i, none⟩ = some (.int .i64 x))
        (first | go_keep | exact ⟨(T6.out.cell (p := ⟨q, 0, none⟩) lbq id).trans q0, (T6.out.cell (p := ⟨q, 1, none⟩) lbq id).trans q1, (T6.out.cell (p := ⟨b1, i, none⟩) lb1 id).trans d1'⟩)
        (first
          | (go_at_call 11
             refine (KE.out _ w5.heap.size HTX.out GX.out).mono ?_
             rintro e w6 ⟨rfl, t6⟩
             have T6 := hid (TX.out.trans t6 (fun _ _ e => e))
             clear t6)
          | (go_at_call 11
             refine (KE.out _ w5.heap.size (HTX.out.new ((Touch.refl _ _).drew)) (GX.out.new ((Touch.refl _ _).drew))).mono ?_
             rintro e w6 ⟨rfl, t6⟩
             have T6 := hid (TX.out.drew.trans t6 (fun _ _ e => e))
             clear t6))
      have TR6 := hid (TC5.out.trans T6.out (fun _ _ e => e))
      have B6 := hid (B5.out.kept T6.out)
      have d6 := (T6.out.cell (p := ⟨b1, i, none⟩) lb1 id).trans d1'
      clear q0 q1 q2 q3 d1' lb1 lbq TX GX HTX TC5 B5 TR5 KE
      obtain ⟨⟨q0, q1, q2, q3⟩, _⟩ := four_cells' B6.out.a
      clear B6 T6
      by_cases heq : e1s = s.extract p p2
      · subst heq
        go_wp2
        go_roundg gk
        case measure => omega
        case rel => exact ⟨i + 1, m, by omega, by go_num, rfl, by have h1 := HCT.out; have h2 := HM.out; omega, TR6.out⟩
      · obtain rfl : bd = true := by
          cases bd
          · exact absurd (HEQ.out rfl) heq
          · rfl
        obtain rfl := HX.out rfl
        have hbn : (e1s.toList == (s.extract p p2).toList) = false := Bool.eq_false_iff.2 (fun e => heq (toList_inj (beq_iff_eq.1 e)))
        go_wp2
        go_roundg gk
        case measure => omega
        case rel => exact ⟨i + 1, m + 1, by omega, by go_num, by go_num, by have h1 := HCT.out; have h2 := HM.out; rw [if_pos trivial] at h1; omega, TR6.out⟩
    · have hltI : ¬ ((i : Int) < (L.length : Int)) := by omega
      have hmB2 : m ≤ B := by
        have h1 := HM.out
        rw [List.take_of_length_le (by omega), ← HB.out] at h1
        exact h1
      have hmI : (m : Int) ≤ (B : Int) := by omega
      obtain ⟨b2, rfl, hb2, e2⟩ := I2.out
      have d2 := e2 0 (by rw [plL_len]; omega)
      have d3 := e2 L.length (by rw [plL_len]; omega)
      rw [plL_at s L 0 i0 HH.out] at d2
      rw [plL_at s L L.length s.size (by rw [List.getElem?_append_right (Nat.le_refl _), Nat.sub_self]; rfl)] at d3
      have hb3I : (i0 : Int) ≤ 3 := by omega
      have hnn : (L.length : Int) < (L.length : Int) + 1 := by omega
      have hBI : (B : Int) = 0 ↔ B = 0 := by omega
      have HT2 := hid (HT.out.new TR.out)
      clear e2 HM
      go_wp2_with fail
      refine (K2.out wr HT2.out).mono ?_
      rintro e w6 ⟨er, ix, c2, b3, a5, n5, k5, a6, n6, k6, rfl, her, t6⟩
      have T6 := hid (TR.out.trans t6 (fun _ _ e => e))
      have lb2 := World.block_lt_of_cell? wr _ d2
      replace d2 := (t6.cell (p := ⟨b2, 0, none⟩) lb2 id).trans d2
      replace d3 := (t6.cell (p := ⟨b2, L.length, none⟩) lb2 id).trans d3
      replace B1 := hid (B1.out.kept t6)
      clear q0 q1 q2 q3 t6 K2 HT2 TR TC
      have C1 := hid (RB2.made w6 (.int .i64 c2) (.slice a5 n5 k5) (.slice a6 n6 k6) (.int .i64 b3) (.int .i64 er) (.int .i64 ix))
      have TA := hid (((Touch.refl (fun _ => False) w6).alloc (.cells #[.int .i64 c2, .slice a5 n5 k5, .slice a6 n6 k6, .int .i64 b3] 25)).alloc (.cells #[.int .i64 er, .int .i64 ix] 28))
      go_upto_region 19 with fail
      generalize ((w6.alloc (.cells #[.int .i64 c2, .slice a5 n5 k5, .slice a6 n6 k6, .int .i64 b3] 25)).alloc (.cells #[.int .i64 er, .int .i64 ix] 28)) = w7 at *
      obtain ⟨q', hq'⟩ : ∃ q', q' = w6.heap.size := ⟨_, rfl⟩
      rw [← hq'] at C1 ⊢
      clear hq'
      have lb3 := World.block_lt_of_cell? w6 _ d2
      replace d2 := (TA.out.cell (p := ⟨b2, 0, none⟩) lb3 id).trans d2
      replace d3 := (TA.out.cell (p := ⟨b2, L.length, none⟩) lb3 id).trans d3
      replace B1 := hid (B1.out.kept TA.out)
      have T7 := hid (T6.out.trans TA.out (fun _ _ e => e))
      obtain ⟨⟨q0, q1, q2, q3⟩, _⟩ := four_cells' B1.out.a
      obtain ⟨⟨p0, p1⟩, _⟩ := two_cells C1.out.b
      clear T6 TA B1 C1 HB HH HAT lb2 lb3
      rcases her with ⟨rfl, hB0⟩ | ⟨rfl, hB0⟩
      · subst hB0
        go_wp2
        go_ret
        exact ⟨rfl, T7.out⟩
      · have HBN := hid (show ((B : Int) == 0) = false from beq_eq_false_iff_ne.2 (by omega))
        go_wp2
        go_ret
        refine ⟨?_, T7.out⟩
        show Ending.returned (Value.bool !((B : Int) == 0)) = _
        rw [HBN.out]
        rfl
theorem codingPlaces_walk (s : ByteArray) (c : Int) (w : World) (ht : Tabs w) (hs : s.size ≤ 1048576) : Calls Tryd.prog 5 #[.string s, .int .i64 c] w fun e w' => e = .returned (.bool true) ∧ Touch (fun _ => False) w w' := by
  by_cases h : c < 0 ∨ (0 ≤ c ∧ 4 < c)
  · exact codingPlaces_out s c w ht h
  · obtain ⟨n, rfl⟩ := Int.eq_ofNat_of_zero_le (show 0 ≤ c by omega)
    exact codingPlaces_in s n w ht hs (by omega)
end Go.Proofs.YtpjnnbegimaaeaaDoor
