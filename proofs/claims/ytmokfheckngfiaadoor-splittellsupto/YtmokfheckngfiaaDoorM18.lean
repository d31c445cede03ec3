/- Texts of this proof, one behind the other: what each says stands ahead of it. -/
import Derived.Test.YtmokfheckngfiaaDoorM16
import Derived.Test.YtmokfheckngfiaaDoorM17
import Derived.Test.YtmokfheckngfiaaDoorM3
/- The document's Scalar of a text, and Fits; conditions: those told. -/
namespace Go.Proofs.YtmokfheckngfiaaDoor
open Go.RowKit
open Go.Lib

theorem okc_sc2 {r : Int} (h : scB r = true) : okc 1 r = true := by
  unfold okc
  rw [h]
  rfl
theorem and_lw (u k m : Nat) (h : u < 256) (hk : k ≤ 20) (hm : 2 ^ k = m) : bits .and .i64 (u : Int) ((m - 1 : Nat) : Int) = ((u % m : Nat) : Int) := by
  subst hm
  exact and_lowest u k (by omega) hk
theorem toList_ne {s t : ByteArray} (h : s ≠ t) : (s.toList == t.toList) = false := by
  rw [Bool.eq_false_iff]
  intro k
  have := beq_iff_eq.1 k
  rw [Lib.toList_data, Lib.toList_data] at this
  exact h (ByteArray.ext (Array.toList_inj.1 this))
theorem scOf_no {l : List Int} (h : scB (vOf l) = false) : scOf l = -1 := by
  unfold scOf
  rw [if_neg]
  rintro ⟨_, h1, _⟩
  rw [h] at h1
  cases h1
theorem scOf_other {l : List Int} (h : en8 (vOf l) ≠ l) : scOf l = -1 := by
  unfold scOf
  rw [if_neg]
  rintro ⟨_, _, h1⟩
  exact h h1
theorem scOf_yes {l : List Int} (hl : l.length ≠ 0 ∧ l.length ≤ 4) (h1 : scB (vOf l) = true) (h : en8 (vOf l) = l) : scOf l = vOf l := by
  unfold scOf
  rw [if_pos ⟨hl, h1, h⟩]
theorem scOf_len {l : List Int} (h : ¬ (l.length ≠ 0 ∧ l.length ≤ 4)) : scOf l = -1 := by
  unfold scOf
  rw [if_neg]
  rintro ⟨h1, _⟩
  exact h h1
theorem bts_list (s : ByteArray) (n : Nat) (h : s.size = n) : bts s = (List.range n).map (fun i => (bts s).getD i 0) := by
  refine List.ext_getElem ?_ (fun i h1 h2 => ?_)
  · rw [List.length_map, List.length_range, bts_len, h]
  · rw [List.getElem_map, List.getElem_range, List.getD_eq_getElem?_getD, List.getElem?_eq_getElem h1]
    rfl
theorem bts_getD (s : ByteArray) (i : Nat) (h : i < s.size) : (bts s).getD i 0 = (s[i].toNat : Int) := by
  rw [List.getD_eq_getElem?_getD, List.getElem?_eq_getElem (by rw [bts_len]; exact h), Option.getD_some, bts_get s i h]
attribute [local irreducible] en8 scOf vOf bts
set_option maxRecDepth 100000 in
set_option maxHeartbeats 8000000 in
theorem rscal_1 (s : ByteArray) (w : World) (hs : s.size = 1) : Calls Tryd.prog 45 #[.string s] w fun e w' => e = .returned (.int .i64 (scOf (bts s))) ∧ Touch (fun _ => False) w w' := by
  have LEN := hid (show (bts s).length ≠ 0 ∧ (bts s).length ≤ 4 by rw [bts_len, hs]; decide)
  have HL0 := bts_list s 1 hs
  obtain ⟨a, ha⟩ : ∃ u : Nat, u = s[0].toNat := ⟨_, rfl⟩
  have qa : s[0].toNat = a := ha.symm
  have la : a < 256 := by rw [ha]; exact UInt8.toNat_lt _
  have wa : IntKind.i64.wrap (a : Int) = (a : Int) := by rw [IntKind.wrap_i64]; omega
  have ga := bts_getD s 0 (by omega)
  rw [qa] at ga
  have HL := hid (show bts s = [(a : Int)] from by
    rw [HL0, show List.range 1 = [0] from rfl]
    simp only [List.map_cons, List.map_nil]
    rw [ga])
  obtain ⟨V, hV⟩ : ∃ V : Int, V = (a : Int) := ⟨_, rfl⟩
  have HV := hid (show vOf (bts s) = V by rw [HL.out, hV]; unfold vOf; rfl)
  clear HL0 ga ha
  go_enter Tryd.func45, Tryd.ntmps45
  go_wp2_with fail
  obtain ⟨wn, hwn⟩ : ∃ wn, wn = w := ⟨_, rfl⟩
  rw [← hV, ← hwn]
  have TN := hid (show Touch (fun _ => False) w wn by rw [hwn]; exact Touch.refl _ _)
  clear hwn hV
  have KC := hid (rscalar_any V wn)
  cases hsc : scB V with
  | false =>
    rw [hsc] at KC
    have HR := hid (scOf_no (l := bts s) (by rw [HV.out]; exact hsc))
    go_wp2_with fail
    refine KC.out.mono ?_
    rintro e w5 ⟨rfl, rfl⟩
    clear KC
    go_wp2
    go_ret
    exact ⟨by rw [HR.out]; rfl, TN.out⟩
  | true =>
    rw [hsc] at KC
    have KY := hid (show ∀ w, Calls Tryd.prog 18 #[.int .i64 V, .int .i64 1] w fun e w' => e = .returned (.string (strOfNums (en8 V))) ∧ Touch (fun _ => False) w w' from fun w => bytes_any 1 (.inl rfl) V (okc_sc2 hsc) w)
    by_cases heq : en8 V = bts s
    · have HR := hid (scOf_yes (l := bts s) LEN.out (by rw [HV.out]; exact hsc) (by rw [HV.out]; exact heq))
      rw [HV.out] at HR
      rw [heq, str_bts] at KY
      clear hsc heq
      go_wp2_with fail
      refine KC.out.mono ?_
      rintro e w5 ⟨rfl, rfl⟩
      clear KC
      go_wp2_with fail
      refine (KY.out _).mono ?_
      rintro e w6 ⟨rfl, t6⟩
      have T6 := hid (TN.out.trans t6 (fun _ _ e => e))
      clear t6 KY
      go_wp2
      go_ret
      exact ⟨by rw [HR.out]; rfl, T6.out⟩
    · have HR := hid (scOf_other (l := bts s) (by rw [HV.out]; exact heq))
      have hne : strOfNums (en8 V) ≠ s := fun e => by
        have := congrArg bts e
        rw [bts_str _ (en8_in V (okc_sc2 hsc))] at this
        exact heq this
      have hb := toList_ne hne
      clear hsc heq hne
      generalize strOfNums (en8 V) = t at *
      go_wp2_with fail
      refine KC.out.mono ?_
      rintro e w5 ⟨rfl, rfl⟩
      clear KC
      go_wp2_with fail
      refine (KY.out _).mono ?_
      rintro e w6 ⟨rfl, t6⟩
      have T6 := hid (TN.out.trans t6 (fun _ _ e => e))
      clear t6 KY
      go_wp2
      go_ret
      exact ⟨by rw [HR.out]; rfl, T6.out⟩
set_option maxRecDepth 100000 in
set_option maxHeartbeats 8000000 in
theorem rscal_2 (s : ByteArray) (w : World) (hs : s.size = 2) : Calls Tryd.prog 45 #[.string s] w fun e w' => e = .returned (.int .i64 (scOf (bts s))) ∧ Touch (fun _ => False) w w' := by
  have LEN := hid (show (bts s).length ≠ 0 ∧ (bts s).length ≤ 4 by rw [bts_len, hs]; decide)
  have HL0 := bts_list s 2 hs
  obtain ⟨a, ha⟩ : ∃ u : Nat, u = s[0].toNat := ⟨_, rfl⟩
  have qa : s[0].toNat = a := ha.symm
  have la : a < 256 := by rw [ha]; exact UInt8.toNat_lt _
  have wa : IntKind.i64.wrap (a : Int) = (a : Int) := by rw [IntKind.wrap_i64]; omega
  have ga := bts_getD s 0 (by omega)
  rw [qa] at ga
  obtain ⟨b, hb⟩ : ∃ u : Nat, u = s[1].toNat := ⟨_, rfl⟩
  have qb : s[1].toNat = b := hb.symm
  have lb : b < 256 := by rw [hb]; exact UInt8.toNat_lt _
  have wb : IntKind.i64.wrap (b : Int) = (b : Int) := by rw [IntKind.wrap_i64]; omega
  have gb := bts_getD s 1 (by omega)
  rw [qb] at gb
  have HL := hid (show bts s = [(a : Int), (b : Int)] from by
    rw [HL0, show List.range 2 = [0, 1] from rfl]
    simp only [List.map_cons, List.map_nil]
    rw [ga, gb])
  obtain ⟨V1, hV1⟩ : ∃ V : Nat, V = a % 32 := ⟨_, rfl⟩
  obtain ⟨V2, hV2⟩ : ∃ V : Nat, V = 64 * V1 + b % 64 := ⟨_, rfl⟩
  obtain ⟨V, hV⟩ : ∃ V : Int, V = (V2 : Int) := ⟨_, rfl⟩
  have HV := hid (show vOf (bts s) = V by rw [HL.out, hV, hV2, hV1]; unfold vOf; show (64 * ((a : Int) % 32) + (b : Int) % 64) = _; omega)
  have lV1 : V1 < 32 := by omega
  have lV2 : V2 < 2048 := by omega
  have AA : bits .and .i64 (a : Int) 31 = (V1 : Int) := by rw [hV1]; exact and_lw a 5 32 la (by decide) (by decide)
  have Ab : bits .and .i64 (b : Int) 63 = ((b % 64 : Nat) : Int) := and_lw b 6 64 lb (by decide) (by decide)
  have HV2 := hid hV2
  have hV' := hid hV
  clear HL0 ga gb ha hb hV1 hV2 hV
  go_enter Tryd.func45, Tryd.ntmps45
  go_upto_region 6 with fail
  go_quiet (fail)
  go_wp2_with fail
  go_loopg [3, 4] 2 (fun gj v3 v4 wq => ((gj = 2 ∧ v4 = .int .i64 1 ∧ v3 = .int .i64 (V1 : Nat)) ∨ (gj = 1 ∧ v4 = .int .i64 2 ∧ v3 = .int .i64 (V2 : Nat))) ∧ Touch (fun _ => False) w wq)
  case atStart => exact ⟨.inl ⟨rfl, rfl, rfl⟩, by first | exact (Touch.refl _ _).drewN _ | exact (Touch.refl _ _).drew⟩
  case round =>
    obtain ⟨hr, htn⟩ := hrel
    have TN := hid htn
    clear htn
    generalize wr = wn at *
    rcases hr with ⟨rfl, rfl, rfl⟩ | ⟨rfl, rfl, rfl⟩
    · have hnx : (64 * (V1 : Int) + ((b % 64 : Nat) : Int)) = (V2 : Int) := by rw [HV2.out]; omega
      go_wp2
      go_roundg 1
      case measure => omega
      case rel => exact ⟨.inr (⟨rfl, by first | rfl | go_num, by first | (rw [← hnx]; go_num) | go_num⟩), TN.out⟩
    · rw [← hV'.out]
      have KC := hid (rscalar_any V wn)
      cases hsc : scB V with
      | false =>
        rw [hsc] at KC
        have HR := hid (scOf_no (l := bts s) (by rw [HV.out]; exact hsc))
        go_wp2_with fail
        refine KC.out.mono ?_
        rintro e w5 ⟨rfl, rfl⟩
        clear KC
        go_wp2
        go_ret
        exact ⟨by rw [HR.out]; rfl, TN.out⟩
      | true =>
        rw [hsc] at KC
        have KY := hid (show ∀ w, Calls Tryd.prog 18 #[.int .i64 V, .int .i64 1] w fun e w' => e = .returned (.string (strOfNums (en8 V))) ∧ Touch (fun _ => False) w w' from fun w => bytes_any 1 (.inl rfl) V (okc_sc2 hsc) w)
        by_cases heq : en8 V = bts s
        · have HR := hid (scOf_yes (l := bts s) LEN.out (by rw [HV.out]; exact hsc) (by rw [HV.out]; exact heq))
          rw [HV.out] at HR
          rw [heq, str_bts] at KY
          clear hsc heq
          go_wp2_with fail
          refine KC.out.mono ?_
          rintro e w5 ⟨rfl, rfl⟩
          clear KC
          go_wp2_with fail
          refine (KY.out _).mono ?_
          rintro e w6 ⟨rfl, t6⟩
          have T6 := hid (TN.out.trans t6 (fun _ _ e => e))
          clear t6 KY
          go_wp2
          go_ret
          exact ⟨by rw [HR.out]; rfl, T6.out⟩
        · have HR := hid (scOf_other (l := bts s) (by rw [HV.out]; exact heq))
          have hne : strOfNums (en8 V) ≠ s := fun e => by
            have := congrArg bts e
            rw [bts_str _ (en8_in V (okc_sc2 hsc))] at this
            exact heq this
          have hb := toList_ne hne
          clear hsc heq hne
          generalize strOfNums (en8 V) = t at *
          go_wp2_with fail
          refine KC.out.mono ?_
          rintro e w5 ⟨rfl, rfl⟩
          clear KC
          go_wp2_with fail
          refine (KY.out _).mono ?_
          rintro e w6 ⟨rfl, t6⟩
          have T6 := hid (TN.out.trans t6 (fun _ _ e => e))
          clear t6 KY
          go_wp2
          go_ret
          exact ⟨by rw [HR.out]; rfl, T6.out⟩
set_option maxRecDepth 100000 in
set_option maxHeartbeats 8000000 in
theorem rscal_3 (s : ByteArray) (w : World) (hs : s.size = 3) : Calls Tryd.prog 45 #[.string s] w fun e w' => e = .returned (.int .i64 (scOf (bts s))) ∧ Touch (fun _ => False) w w' := by
  have LEN := hid (show (bts s).length ≠ 0 ∧ (bts s).length ≤ 4 by rw [bts_len, hs]; decide)
  have HL0 := bts_list s 3 hs
  obtain ⟨a, ha⟩ : ∃ u : Nat, u = s[0].toNat := ⟨_, rfl⟩
  have qa : s[0].toNat = a := ha.symm
  have la : a < 256 := by rw [ha]; exact UInt8.toNat_lt _
  have wa : IntKind.i64.wrap (a : Int) = (a : Int) := by rw [IntKind.wrap_i64]; omega
  have ga := bts_getD s 0 (by omega)
  rw [qa] at ga
  obtain ⟨b, hb⟩ : ∃ u : Nat, u = s[1].toNat := ⟨_, rfl⟩
  have qb : s[1].toNat = b := hb.symm
  have lb : b < 256 := by rw [hb]; exact UInt8.toNat_lt _
  have wb : IntKind.i64.wrap (b : Int) = (b : Int) := by rw [IntKind.wrap_i64]; omega
  have gb := bts_getD s 1 (by omega)
  rw [qb] at gb
  obtain ⟨c, hc⟩ : ∃ u : Nat, u = s[2].toNat := ⟨_, rfl⟩
  have qc : s[2].toNat = c := hc.symm
  have lc : c < 256 := by rw [hc]; exact UInt8.toNat_lt _
  have wc : IntKind.i64.wrap (c : Int) = (c : Int) := by rw [IntKind.wrap_i64]; omega
  have gc := bts_getD s 2 (by omega)
  rw [qc] at gc
  have HL := hid (show bts s = [(a : Int), (b : Int), (c : Int)] from by
    rw [HL0, show List.range 3 = [0, 1, 2] from rfl]
    simp only [List.map_cons, List.map_nil]
    rw [ga, gb, gc])
  obtain ⟨V1, hV1⟩ : ∃ V : Nat, V = a % 16 := ⟨_, rfl⟩
  obtain ⟨V2, hV2⟩ : ∃ V : Nat, V = 64 * V1 + b % 64 := ⟨_, rfl⟩
  obtain ⟨V3, hV3⟩ : ∃ V : Nat, V = 64 * V2 + c % 64 := ⟨_, rfl⟩
  obtain ⟨V, hV⟩ : ∃ V : Int, V = (V3 : Int) := ⟨_, rfl⟩
  have HV := hid (show vOf (bts s) = V by rw [HL.out, hV, hV3, hV2, hV1]; unfold vOf; show (64 * (64 * ((a : Int) % 16) + (b : Int) % 64) + (c : Int) % 64) = _; omega)
  have lV1 : V1 < 16 := by omega
  have lV2 : V2 < 1024 := by omega
  have lV3 : V3 < 65536 := by omega
  have AA : bits .and .i64 (a : Int) 15 = (V1 : Int) := by rw [hV1]; exact and_lw a 4 16 la (by decide) (by decide)
  have Ab : bits .and .i64 (b : Int) 63 = ((b % 64 : Nat) : Int) := and_lw b 6 64 lb (by decide) (by decide)
  have HV2 := hid hV2
  have Ac : bits .and .i64 (c : Int) 63 = ((c % 64 : Nat) : Int) := and_lw c 6 64 lc (by decide) (by decide)
  have HV3 := hid hV3
  have hV' := hid hV
  clear HL0 ga gb gc ha hb hc hV1 hV2 hV3 hV
  go_enter Tryd.func45, Tryd.ntmps45
  go_upto_region 6 with fail
  go_quiet (fail)
  go_wp2_with fail
  go_loopg [3, 4] 3 (fun gj v3 v4 wq => ((gj = 3 ∧ v4 = .int .i64 1 ∧ v3 = .int .i64 (V1 : Nat)) ∨ (gj = 2 ∧ v4 = .int .i64 2 ∧ v3 = .int .i64 (V2 : Nat)) ∨ (gj = 1 ∧ v4 = .int .i64 3 ∧ v3 = .int .i64 (V3 : Nat))) ∧ Touch (fun _ => False) w wq)
  case atStart => exact ⟨.inl ⟨rfl, rfl, rfl⟩, by first | exact (Touch.refl _ _).drewN _ | exact (Touch.refl _ _).drew⟩
  case round =>
    obtain ⟨hr, htn⟩ := hrel
    have TN := hid htn
    clear htn
    generalize wr = wn at *
    rcases hr with ⟨rfl, rfl, rfl⟩ | ⟨rfl, rfl, rfl⟩ | ⟨rfl, rfl, rfl⟩
    · have hnx : (64 * (V1 : Int) + ((b % 64 : Nat) : Int)) = (V2 : Int) := by rw [HV2.out]; omega
      go_wp2
      go_roundg 2
      case measure => omega
      case rel => exact ⟨.inr (.inl ⟨rfl, by first | rfl | go_num, by first | (rw [← hnx]; go_num) | go_num⟩), TN.out⟩
    · have hnx : (64 * (V2 : Int) + ((c % 64 : Nat) : Int)) = (V3 : Int) := by rw [HV3.out]; omega
      go_wp2
      go_roundg 1
      case measure => omega
      case rel => exact ⟨.inr (.inr (⟨rfl, by first | rfl | go_num, by first | (rw [← hnx]; go_num) | go_num⟩)), TN.out⟩
    · rw [← hV'.out]
      have KC := hid (rscalar_any V wn)
      cases hsc : scB V with
      | false =>
        rw [hsc] at KC
        have HR := hid (scOf_no (l := bts s) (by rw [HV.out]; exact hsc))
        go_wp2_with fail
        refine KC.out.mono ?_
        rintro e w5 ⟨rfl, rfl⟩
        clear KC
        go_wp2
        go_ret
        exact ⟨by rw [HR.out]; rfl, TN.out⟩
      | true =>
        rw [hsc] at KC
        have KY := hid (show ∀ w, Calls Tryd.prog 18 #[.int .i64 V, .int .i64 1] w fun e w' => e = .returned (.string (strOfNums (en8 V))) ∧ Touch (fun _ => False) w w' from fun w => bytes_any 1 (.inl rfl) V (okc_sc2 hsc) w)
        by_cases heq : en8 V = bts s
        · have HR := hid (scOf_yes (l := bts s) LEN.out (by rw [HV.out]; exact hsc) (by rw [HV.out]; exact heq))
          rw [HV.out] at HR
          rw [heq, str_bts] at KY
          clear hsc heq
          go_wp2_with fail
          refine KC.out.mono ?_
          rintro e w5 ⟨rfl, rfl⟩
          clear KC
          go_wp2_with fail
          refine (KY.out _).mono ?_
          rintro e w6 ⟨rfl, t6⟩
          have T6 := hid (TN.out.trans t6 (fun _ _ e => e))
          clear t6 KY
          go_wp2
          go_ret
          exact ⟨by rw [HR.out]; rfl, T6.out⟩
        · have HR := hid (scOf_other (l := bts s) (by rw [HV.out]; exact heq))
          have hne : strOfNums (en8 V) ≠ s := fun e => by
            have := congrArg bts e
            rw [bts_str _ (en8_in V (okc_sc2 hsc))] at this
            exact heq this
          have hb := toList_ne hne
          clear hsc heq hne
          generalize strOfNums (en8 V) = t at *
          go_wp2_with fail
          refine KC.out.mono ?_
          rintro e w5 ⟨rfl, rfl⟩
          clear KC
          go_wp2_with fail
          refine (KY.out _).mono ?_
          rintro e w6 ⟨rfl, t6⟩
          have T6 := hid (TN.out.trans t6 (fun _ _ e => e))
          clear t6 KY
          go_wp2
          go_ret
          exact ⟨by rw [HR.out]; rfl, T6.out⟩
set_option maxRecDepth 100000 in
set_option maxHeartbeats 8000000 in
theorem rscal_4 (s : ByteArray) (w : World) (hs : s.size = 4) : Calls Tryd.prog 45 #[.string s] w fun e w' => e = .returned (.int .i64 (scOf (bts s))) ∧ Touch (fun _ => False) w w' := by
  have LEN := hid (show (bts s).length ≠ 0 ∧ (bts s).length ≤ 4 by rw [bts_len, hs]; decide)
  have HL0 := bts_list s 4 hs
  obtain ⟨a, ha⟩ : ∃ u : Nat, u = s[0].toNat := ⟨_, rfl⟩
  have qa : s[0].toNat = a := ha.symm
  have la : a < 256 := by rw [ha]; exact UInt8.toNat_lt _
  have wa : IntKind.i64.wrap (a : Int) = (a : Int) := by rw [IntKind.wrap_i64]; omega
  have ga := bts_getD s 0 (by omega)
  rw [qa] at ga
  obtain ⟨b, hb⟩ : ∃ u : Nat, u = s[1].toNat := ⟨_, rfl⟩
  have qb : s[1].toNat = b := hb.symm
  have lb : b < 256 := by rw [hb]; exact UInt8.toNat_lt _
  have wb : IntKind.i64.wrap (b : Int) = (b : Int) := by rw [IntKind.wrap_i64]; omega
  have gb := bts_getD s 1 (by omega)
  rw [qb] at gb
  obtain ⟨c, hc⟩ : ∃ u : Nat, u = s[2].toNat := ⟨_, rfl⟩
  have qc : s[2].toNat = c := hc.symm
  have lc : c < 256 := by rw [hc]; exact UInt8.toNat_lt _
  have wc : IntKind.i64.wrap (c : Int) = (c : Int) := by rw [IntKind.wrap_i64]; omega
  have gc := bts_getD s 2 (by omega)
  rw [qc] at gc
  obtain ⟨d, hd⟩ : ∃ u : Nat, u = s[3].toNat := ⟨_, rfl⟩
  have qd : s[3].toNat = d := hd.symm
  have ld : d < 256 := by rw [hd]; exact UInt8.toNat_lt _
  have wd : IntKind.i64.wrap (d : Int) = (d : Int) := by rw [IntKind.wrap_i64]; omega
  have gd := bts_getD s 3 (by omega)
  rw [qd] at gd
  have HL := hid (show bts s = [(a : Int), (b : Int), (c : Int), (d : Int)] from by
    rw [HL0, show List.range 4 = [0, 1, 2, 3] from rfl]
    simp only [List.map_cons, List.map_nil]
    rw [ga, gb, gc, gd])
  obtain ⟨V1, hV1⟩ : ∃ V : Nat, V = a % 8 := ⟨_, rfl⟩
  obtain ⟨V2, hV2⟩ : ∃ V : Nat, V = 64 * V1 + b % 64 := ⟨_, rfl⟩
  obtain ⟨V3, hV3⟩ : ∃ V : Nat, V = 64 * V2 + c % 64 := ⟨_, rfl⟩
  obtain ⟨V4, hV4⟩ : ∃ V : Nat, V = 64 * V3 + d % 64 := ⟨_, rfl⟩
  obtain ⟨V, hV⟩ : ∃ V : Int, V = (V4 : Int) := ⟨_, rfl⟩
  have HV := hid (show vOf (bts s) = V by rw [HL.out, hV, hV4, hV3, hV2, hV1]; unfold vOf; show (64 * (64 * (64 * ((a : Int) % 8) + (b : Int) % 64) + (c : Int) % 64) + (d : Int) % 64) = _; omega)
  have lV1 : V1 < 8 := by omega
  have lV2 : V2 < 512 := by omega
  have lV3 : V3 < 32768 := by omega
  have lV4 : V4 < 2097152 := by omega
  have AA : bits .and .i64 (a : Int) 7 = (V1 : Int) := by rw [hV1]; exact and_lw a 3 8 la (by decide) (by decide)
  have Ab : bits .and .i64 (b : Int) 63 = ((b % 64 : Nat) : Int) := and_lw b 6 64 lb (by decide) (by decide)
  have HV2 := hid hV2
  have Ac : bits .and .i64 (c : Int) 63 = ((c % 64 : Nat) : Int) := and_lw c 6 64 lc (by decide) (by decide)
  have HV3 := hid hV3
  have Ad : bits .and .i64 (d : Int) 63 = ((d % 64 : Nat) : Int) := and_lw d 6 64 ld (by decide) (by decide)
  have HV4 := hid hV4
  have hV' := hid hV
  clear HL0 ga gb gc gd ha hb hc hd hV1 hV2 hV3 hV4 hV
  go_enter Tryd.func45, Tryd.ntmps45
  go_upto_region 6 with fail
  go_quiet (fail)
  go_wp2_with fail
  go_loopg [3, 4] 4 (fun gj v3 v4 wq => ((gj = 4 ∧ v4 = .int .i64 1 ∧ v3 = .int .i64 (V1 : Nat)) ∨ (gj = 3 ∧ v4 = .int .i64 2 ∧ v3 = .int .i64 (V2 : Nat)) ∨ (gj = 2 ∧ v4 = .int .i64 3 ∧ v3 = .int .i64 (V3 : Nat)) ∨ (gj = 1 ∧ v4 = .int .i64 4 ∧ v3 = .int .i64 (V4 : Nat))) ∧ Touch (fun _ => False) w wq)
  case atStart => exact ⟨.inl ⟨rfl, rfl, rfl⟩, by first | exact (Touch.refl _ _).drewN _ | exact (Touch.refl _ _).drew⟩
  case round =>
    obtain ⟨hr, htn⟩ := hrel
    have TN := hid htn
    clear htn
    generalize wr = wn at *
    rcases hr with ⟨rfl, rfl, rfl⟩ | ⟨rfl, rfl, rfl⟩ | ⟨rfl, rfl, rfl⟩ | ⟨rfl, rfl, rfl⟩
    · have hnx : (64 * (V1 : Int) + ((b % 64 : Nat) : Int)) = (V2 : Int) := by rw [HV2.out]; omega
      go_wp2
      go_roundg 3
      case measure => omega
      case rel => exact ⟨.inr (.inl ⟨rfl, by first | rfl | go_num, by first | (rw [← hnx]; go_num) | go_num⟩), TN.out⟩
    · have hnx : (64 * (V2 : Int) + ((c % 64 : Nat) : Int)) = (V3 : Int) := by rw [HV3.out]; omega
      go_wp2
      go_roundg 2
      case measure => omega
      case rel => exact ⟨.inr (.inr (.inl ⟨rfl, by first | rfl | go_num, by first | (rw [← hnx]; go_num) | go_num⟩)), TN.out⟩
    · have hnx : (64 * (V3 : Int) + ((d % 64 : Nat) : Int)) = (V4 : Int) := by rw [HV4.out]; omega
      go_wp2
      go_roundg 1
      case measure => omega
      case rel => exact ⟨.inr (.inr (.inr (⟨rfl, by first | rfl | go_num, by first | (rw [← hnx]; go_num) | go_num⟩))), TN.out⟩
    · rw [← hV'.out]
      have KC := hid (rscalar_any V wn)
      cases hsc : scB V with
      | false =>
        rw [hsc] at KC
        have HR := hid (scOf_no (l := bts s) (by rw [HV.out]; exact hsc))
        go_wp2_with fail
        refine KC.out.mono ?_
        rintro e w5 ⟨rfl, rfl⟩
        clear KC
        go_wp2
        go_ret
        exact ⟨by rw [HR.out]; rfl, TN.out⟩
      | true =>
        rw [hsc] at KC
        have KY := hid (show ∀ w, Calls Tryd.prog 18 #[.int .i64 V, .int .i64 1] w fun e w' => e = .returned (.string (strOfNums (en8 V))) ∧ Touch (fun _ => False) w w' from fun w => bytes_any 1 (.inl rfl) V (okc_sc2 hsc) w)
        by_cases heq : en8 V = bts s
        · have HR := hid (scOf_yes (l := bts s) LEN.out (by rw [HV.out]; exact hsc) (by rw [HV.out]; exact heq))
          rw [HV.out] at HR
          rw [heq, str_bts] at KY
          clear hsc heq
          go_wp2_with fail
          refine KC.out.mono ?_
          rintro e w5 ⟨rfl, rfl⟩
          clear KC
          go_wp2_with fail
          refine (KY.out _).mono ?_
          rintro e w6 ⟨rfl, t6⟩
          have T6 := hid (TN.out.trans t6 (fun _ _ e => e))
          clear t6 KY
          go_wp2
          go_ret
          exact ⟨by rw [HR.out]; rfl, T6.out⟩
        · have HR := hid (scOf_other (l := bts s) (by rw [HV.out]; exact heq))
          have hne : strOfNums (en8 V) ≠ s := fun e => by
            have := congrArg bts e
            rw [bts_str _ (en8_in V (okc_sc2 hsc))] at this
            exact heq this
          have hb := toList_ne hne
          clear hsc heq hne
          generalize strOfNums (en8 V) = t at *
          go_wp2_with fail
          refine KC.out.mono ?_
          rintro e w5 ⟨rfl, rfl⟩
          clear KC
          go_wp2_with fail
          refine (KY.out _).mono ?_
          rintro e w6 ⟨rfl, t6⟩
          have T6 := hid (TN.out.trans t6 (fun _ _ e => e))
          clear t6 KY
          go_wp2
          go_ret
          exact ⟨by rw [HR.out]; rfl, T6.out⟩
theorem rscal_any (s : ByteArray) (w : World) : Calls Tryd.prog 45 #[.string s] w fun e w' => e = .returned (.int .i64 (scOf (bts s))) ∧ Touch (fun _ => False) w w' := by
  by_cases h0 : s.size = 0
  · have HR := hid (scOf_len (l := bts s) (by rw [bts_len]; omega))
    go_enter Tryd.func45, Tryd.ntmps45
    go_wp2
    go_ret
    exact ⟨by rw [HR.out]; rfl, Touch.refl _ _⟩
  · by_cases h4 : 4 < s.size
    · have HR := hid (scOf_len (l := bts s) (by rw [bts_len]; omega))
      have h0' : ((s.size : Int) == 0) = false := beq_eq_false_iff_ne.2 (by omega)
      have h4' : 4 < (s.size : Int) := by omega
      clear h0 h4
      go_enter Tryd.func45, Tryd.ntmps45
      go_wp2
      go_ret
      exact ⟨by rw [HR.out]; rfl, Touch.refl _ _⟩
    · rcases (show s.size = 1 ∨ s.size = 2 ∨ s.size = 3 ∨ s.size = 4 by omega) with h | h | h | h
      · exact rscal_1 s w h
      · exact rscal_2 s w h
      · exact rscal_3 s w h
      · exact rscal_4 s w h
set_option maxRecDepth 100000 in
set_option maxHeartbeats 8000000 in
theorem fits_any (a : Option Addr) (cap : Nat) (l : List S.R2) (s : ByteArray) (w : World) (hl : S.Rg w a l) (hb : l.length ≤ 140737488351232) :
    Calls Tryd.prog 25 #[.slice a l.length cap, .string s] w fun e w' => e = .returned (.bool (fitsB l (bts s))) ∧ Touch (fun _ => False) w w' := by
  have HL := hid hl
  clear hl
  have KS := hid (rscal_any s w)
  have HF := hid (show fitsB l (bts s) = (decide (0 ≤ scOf (bts s)) && S.hasB (scOf (bts s)) l) from rfl)
  generalize scOf (bts s) = V at *
  go_enter Tryd.func25, Tryd.ntmps25
  go_wp2_with fail
  refine KS.out.mono ?_
  rintro e w1 ⟨rfl, t1⟩
  have T1 := hid t1
  have KI := hid (S.in_any a cap l V w1 (HL.out.new t1) hb)
  clear t1 KS
  by_cases hV : 0 ≤ V
  · have HF2 := hid (show fitsB l (bts s) = S.hasB V l by rw [HF.out, decide_eq_true hV]; rfl)
    generalize S.hasB V l = B at *
    go_wp2_with fail
    refine KI.out.mono ?_
    rintro e w2 ⟨rfl, t2⟩
    have T2 := hid (T1.out.trans t2 (fun _ _ e => e))
    clear t2 KI
    go_wp2
    go_ret
    exact ⟨by rw [HF2.out]; rfl, T2.out⟩
  · have HF2 := hid (show fitsB l (bts s) = false by rw [HF.out, decide_eq_false hV]; rfl)
    clear KI
    go_wp2
    go_ret
    exact ⟨by rw [HF2.out]; rfl, T1.out⟩
end Go.Proofs.YtmokfheckngfiaaDoor
