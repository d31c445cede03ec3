/- Texts of this proof, one behind the other: what each says stands ahead of it. -/
import Derived.Test.YtdchbbegbijjgaaDoorM2
import Derived.Test.YtdchbbegbijjgaaDoorM1
import Derived.Deep.CutBlock
/- The document's Records, of any text of at most 2097152 bytes. -/
namespace Go.Proofs.YtdchbbegbijjgaaDoor
open Go.RowKit
open Go.Lib

theorem from_list (s : ByteArray) (p : Nat) : (s.extract p s.size).data.toList = s.data.toList.drop p := by
  rw [ext_list, List.take_of_length_le (by rw [List.length_drop, Array.length_toList]; exact Nat.le_refl _)]
theorem uptoV_some {s : ByteArray} {c : UInt8} {i : Nat} (h : idxOf c s.data.toList = some i) : uptoV s c = .tuple #[.string (s.extract 0 i), .bool true] := by unfold uptoV; rw [h]
theorem uptoV_none {s : ByteArray} {c : UInt8} (h : idxOf c s.data.toList = none) : uptoV s c = .tuple #[.string s, .bool false] := by unfold uptoV; rw [h]
theorem take_list (s : ByteArray) (i : Nat) : (s.extract 0 i).data.toList = s.data.toList.take i := by
  rw [ext_list, List.drop_zero, Nat.sub_zero]

set_option maxRecDepth 100000 in
set_option maxHeartbeats 8000000 in
theorem rrecords_any (s : ByteArray) (hs : s.size ≤ 2097152) (w : World) :
    Calls Tryd.prog 8 #[.string s] w fun e w' => ∃ v, e = .returned (.tuple #[v, .bool (recs s.data.toList).isSome]) ∧ OwE w w' 28 v ((recs s.data.toList).getD []) := by
  obtain ⟨i0, hi, hz0, hz1, hz2⟩ := info_parts info28
  obtain ⟨X, hX⟩ : ∃ X, X = recs s.data.toList := ⟨_, rfl⟩
  have HX := hid (show recsF s.size s.data.toList = X by rw [hX]; unfold recs; rw [Array.length_toList]; rfl)
  rw [← hX]
  clear hX
  go_enter Tryd.func8, Tryd.ntmps8
  go_wp2_with fail
  go_loopg [4, 5] s.size (fun gk v v5 wr => ∃ (p : Nat) (o : List R2), p ≤ s.size ∧ s.size - p ≤ gk ∧ o.length + gk ≤ s.size ∧ v5 = .int .i64 (p : Nat) ∧ Hid ((recsF gk (s.data.toList.drop p)).map (o ++ ·) = X) ∧ OwE w wr 28 v o)
  case atStart => exact ⟨0, [], Nat.zero_le _, by omega, by simp, rfl, hid (by rw [List.drop_zero, HX.out]; cases X <;> rfl), OwE.nil _ _⟩
  case round =>
    clear HX
    obtain ⟨p, o, hps, hdg, hol, rfl, HO, hown⟩ := hrel
    have OW := hid hown
    obtain ⟨a4, c4, hv4⟩ := own_shape hown.own
    subst hv4
    clear hown
    by_cases hd0 : p < s.size
    · have hpI : (p : Int) < (s.size : Int) := by omega
      have hpI2 : (p : Int) ≤ (s.size : Int) := by omega
      obtain ⟨G, rfl⟩ : ∃ G, gk = G + 1 := ⟨gk - 1, by omega⟩
      obtain ⟨D, hD⟩ : ∃ D, D = s.extract p s.size := ⟨_, rfl⟩
      have HD := hid hD.symm
      have hDl : D.data.toList = s.data.toList.drop p := by rw [hD]; exact from_list s p
      have hDs : D.size = s.size - p := by rw [hD, ByteArray.size_extract]; omega
      have hdl : D.data.toList.length = D.size := by rw [Array.length_toList]; rfl
      have HDL := hid hDl
      rw [← hDl] at HO
      have hne3 : D.data.toList ≠ [] := fun e => by rw [e] at hdl; simp at hdl; omega
      have K1 := hid (upto_any D 32 (by omega) wr)
      clear hD hDl
      cases hr : rec1 D.data.toList with
      | some r =>
        obtain ⟨hg, h4, i, hix, hre⟩ := rec_tells hr
        rw [recsF_more hr hne3] at HO
        have hil := inner_len hg
        have hixl := idx_lt hix
        obtain ⟨g1, g2, g3, g4, g5, g6, g7⟩ := hg
        rw [uptoV_some (idx_dAh _ g6)] at K1
        obtain ⟨d, hd⟩ : ∃ d, d = D.extract 0 (dAh D.data.toList) := ⟨_, rfl⟩
        have hdl2 : d.data.toList = D.data.toList.take (dAh D.data.toList) := by rw [hd]; exact take_list _ _
        have hds : d.size = dAh D.data.toList := by rw [hd, ByteArray.size_extract]; omega
        rw [← hd] at K1
        have K2 := hid (fun w => digits_any d (by omega) w)
        rw [hdl2, digits_yes ⟨g1, g2⟩] at K2
        unfold tupN at K2
        dsimp only at K2
        have hlt := sz_lt D.data.toList g2
        have hd00 : 0 < d.size := by omega
        have hd48 : ¬ (d[0].toNat : Int) = 48 := fun e => g3 (by
          have := at_opt d 0 hd00
          rw [hdl2, List.getElem?_take_of_lt (by omega)] at this
          rw [this]
          exact congrArg some (UInt8.toNat_inj.1 (by show _ = 48; omega)))
        have hd48B : ((d[0].toNat : Int) == 48) = false := by simpa using hd48
        have HIN := hid (show (D.data.toList.drop (d.size + 1)).take (szOf D.data.toList - 1 - (d.size + 1)) = inner D.data.toList by rw [hds]; rfl)
        obtain ⟨r1, hr1⟩ : ∃ r1, r1 = s.extract (p + d.size + 1) (p + szOf D.data.toList) := ⟨_, rfl⟩
        have hr1l : r1.data.toList = (D.data.toList.drop (d.size + 1)).take (szOf D.data.toList - (d.size + 1)) := by
          rw [hr1, ext_list, HDL.out, List.drop_drop]
          congr 1
          omega
        have hr1s : r1.size = szOf D.data.toList - (d.size + 1) := by rw [hr1, ByteArray.size_extract]; omega
        have e6 : r1.size - 1 < r1.size := by omega
        have hlast : (r1[r1.size - 1]'e6).toNat = 10 := by
          have := at_opt r1 (r1.size - 1) (by omega)
          rw [hr1l, List.getElem?_take_of_lt (by omega), List.getElem?_drop, show d.size + 1 + (r1.size - 1) = szOf D.data.toList - 1 by omega, g7] at this
          rw [← Option.some.inj this]
          rfl
        obtain ⟨r2, hr2⟩ : ∃ r2, r2 = r1.extract 0 (r1.size - 1) := ⟨_, rfl⟩
        have hr2l : r2.data.toList = inner D.data.toList := by
          rw [hr2, take_list, hr1l, List.take_take, ← HIN.out]
          congr 1
          omega
        have hr2s : r2.size = r1.size - 1 := by rw [hr2, ByteArray.size_extract]; omega
        have hr2i : i + 1 < r2.size := by
          have e : r2.data.toList.length = r2.size := by rw [Array.length_toList]; rfl
          rw [hr2l] at e
          omega
        have K3 := hid (fun w => upto_any r2 61 (by omega) w)
        rw [uptoV_some (by rw [hr2l]; exact hix)] at K3
        obtain ⟨ka, hka⟩ : ∃ ka, ka = r2.extract 0 (i + 1) := ⟨_, rfl⟩
        have hkas : ka.size = i + 1 := by rw [hka, ByteArray.size_extract]; omega
        have hkae : Value.string ka = sv r.1 := by
          rw [hre, hka, ext_ba, hr2l]
          rfl
        obtain ⟨va, hva⟩ : ∃ va, va = r2.extract (ka.size + 1) r2.size := ⟨_, rfl⟩
        have hvae : Value.string va = sv r.2 := by
          rw [hre, hva]
          show Value.string _ = Value.string ⟨((inner D.data.toList).drop (i + 2)).toArray⟩
          rw [ext_ba, hr2l, List.take_of_length_le (by rw [List.length_drop]; omega), hkas]
        rw [← hka] at K3
        have hkne := list_ne (d := ka) (by omega)
        have hkne2 : ¬ ka.toList = [] := fun e => by rw [e] at hkne; exact absurd hkne (by decide)
        have HRD := hid (show D.data.toList.drop (szOf D.data.toList) = s.data.toList.drop (p + szOf D.data.toList) by rw [HDL.out, List.drop_drop])
        rw [HRD.out] at HO
        obtain ⟨sz, hsz⟩ : ∃ sz, sz = szOf D.data.toList := ⟨_, rfl⟩
        rw [← hsz] at HO h4 g4 g5 K2 hlt hr1 hr1s
        rw [hdl] at g5
        rw [← hds] at h4 g4
        have HR1 := hid hr1.symm
        have HR2 := hid hr2.symm
        have HVA := hid hva.symm
        have HKE := hid hkae
        have HVE := hid hvae
        clear hr hre hix g1 g2 g3 g6 g7 hdl2 hr1l hr2l hr1 hr2 hka hva hkae hvae hd HRD HIN HDL hsz hne3 hdl hil
        clear hds hixl
        have a1 : ¬ (s.size : Int) - (p : Int) < (sz : Int) := by omega
        have a2 : ¬ (sz : Int) < (d.size : Int) + 4 := by omega
        have a3 : (0 : Int) < (d.size : Int) := by omega
        have b1 : (0 : Int) ≤ (p : Int) + (d.size : Int) + 1 := by omega
        have b2 : (p : Int) + (d.size : Int) + 1 ≤ (p : Int) + (sz : Int) := by omega
        have b3 : (p : Int) + (sz : Int) ≤ (s.size : Int) := by omega
        have b4 : ((p : Int) + (d.size : Int) + 1).toNat = p + d.size + 1 := by omega
        have b5 : ((p : Int) + (sz : Int)).toNat = p + sz := by omega
        have e1 : (0 : Int) ≤ (r1.size : Int) - 1 := by omega
        have e2 : (r1.size : Int) - 1 < (r1.size : Int) := by omega
        have e3 : ((r1.size : Int) - 1).toNat = r1.size - 1 := by omega
        have e4 : (r1.size : Int) - 1 ≤ (r1.size : Int) := by omega
        have e5 : (r1[r1.size - 1].toNat : Int) = 10 := by omega
        have e5B : ((r1[r1.size - 1].toNat : Int) != 10) = false := by simpa using e5
        clear hlast
        have f1 : (ka.size : Int) + 1 ≤ (r2.size : Int) := by omega
        have f2 : ((ka.size : Int) + 1).toNat = ka.size + 1 := by omega
        have k1 : r1.size ≤ 2097152 := by omega
        have k2 : r2.size ≤ 2097152 := by omega
        have k3 : ka.size ≤ 2097152 := by omega
        have k4 : d.size ≤ 2097152 := by omega
        clear hr1s hr2s hkas
        go_wp2_with fail
        rw [HD.out]
        refine K1.out.mono ?_
        rintro e w2 ⟨rfl, rfl⟩
        clear K1
        go_wp2_with fail
        refine (K2.out _).mono ?_
        rintro e w2 ⟨rfl, rfl⟩
        clear K2
        go_upto_region 9 with fail
        rw [HR1.out]
        go_upto_region 12 with fail
        rw [HR2.out]
        go_wp2_with fail
        refine (K3.out _).mono ?_
        rintro e w2 ⟨rfl, rfl⟩
        clear K3
        go_upto_region 15 with fail
        have HFR := hid (show [Value.string ka, Value.string (r2.extract (ka.size + 1) r2.size)] = flatR [r] by rw [HVA.out, HKE.out, HVE.out]; rfl)
        go_wp2_with (at_builtin; refine wpList_append_own_at _ rfl _ _ 25 rfl 0 28 i0 (.agg #[.string ⟨#[]⟩, .string ⟨#[]⟩]) 2 32 Tryd.underlying25 hi hz0 hz1 hz2 rfl (by decide) _ _ _ rfl (OW.out.own.alloc _) ⟨wr.heap.size, 0, none⟩ 1 1 [.string ka, .string (r2.extract (ka.size + 1) r2.size)] rfl rfl (row_new wr [.string ka, .string (r2.extract (ka.size + 1) r2.size)] 28) (by intro u hu; simp at hu; rcases hu with rfl | rfl <;> rfl) (by unfold maxLen; omega) (by omega) (Nat.zero_le _) ?_)
        intro v4' w4 hown hgrow _ hat
        rw [HFR.out] at hown
        have P4 := hid (OW.out.more (xs := [r]) hown hgrow hat)
        clear hown hgrow hat
        go_wp2
        go_roundg G
        case measure => omega
        case rel =>
          refine ⟨p + sz, o ++ [r], by omega, by omega, by simp; omega, by go_num, hid ?_, P4.out⟩
          rw [← HO.out, Option.map_map]
          congr 1
          funext x
          simp
      | none =>
        rw [recsF_none hr hne3] at HO
        have HX2 := hid (show X = none from HO.out.symm)
        have TT := hid OW.out.touch
        clear HO OW
        cases hix : idxOf 32 D.data.toList with
        | none =>
          rw [uptoV_none hix] at K1
          have K2 := hid (fun w => digits_any D (by omega) w)
          obtain ⟨x1, x2, hx⟩ : ∃ x1 x2, digitsV D.data.toList = (x1, x2) := ⟨_, _, rfl⟩
          rw [hx] at K2
          unfold tupN at K2
          dsimp only at K2
          clear hr hix hx hne3 HDL hdl hDs
          go_wp2_with fail
          rw [HD.out]
          refine K1.out.mono ?_
          rintro e w2 ⟨rfl, rfl⟩
          clear K1
          go_wp2_with fail
          refine (K2.out _).mono ?_
          rintro e w2 ⟨rfl, rfl⟩
          clear K2
          go_wp2
          refine bodyPost_ret (results_tmp2 rfl _ _ _) rfl ?_
          exact ⟨_, by rw [HX2.out]; rfl, by rw [HX2.out]; exact (OwE.nil _ _).still TT.out⟩
        | some i =>
          rw [uptoV_some hix] at K1
          have hil := idx_lt hix
          rw [hdl] at hil
          obtain ⟨d, hd⟩ : ∃ d, d = D.extract 0 i := ⟨_, rfl⟩
          have hdl2 : d.data.toList = D.data.toList.take i := by rw [hd]; exact take_list _ _
          have hds : d.size = i := by rw [hd, ByteArray.size_extract]; omega
          rw [← hd] at K1
          have K2 := hid (fun w => digits_any d (by omega) w)
          rw [hdl2] at K2
          obtain ⟨sz, ok, hx⟩ : ∃ x1 x2, digitsV (D.data.toList.take i) = (x1, x2) := ⟨_, _, rfl⟩
          rw [hx] at K2
          unfold tupN at K2
          dsimp only at K2
          cases ok with
          | false =>
            clear hr hix hx hne3 HDL hdl hDs hdl2 hd hil hds
            go_wp2_with fail
            rw [HD.out]
            refine K1.out.mono ?_
            rintro e w2 ⟨rfl, rfl⟩
            clear K1
            go_wp2_with fail
            refine (K2.out _).mono ?_
            rintro e w2 ⟨rfl, rfl⟩
            clear K2
            go_wp2
            refine bodyPost_ret (results_tmp2 rfl _ _ _) rfl ?_
            exact ⟨_, by rw [HX2.out]; rfl, by rw [HX2.out]; exact (OwE.nil _ _).still TT.out⟩
          | true =>
            obtain ⟨y1, y2, y3, y4, y5⟩ := digits_tell hix hx
            have hd00 : 0 < d.size := by omega
            have h48 : (d[0]'hd00).toNat = 48 → D.data.toList[0]? = some 48 := fun e => by
              have := at_opt d 0 hd00
              rw [hdl2, List.getElem?_take_of_lt (by omega)] at this
              rw [this]
              exact congrArg some (UInt8.toNat_inj.1 (by rw [e]; rfl))
            have h48' : D.data.toList[0]? = some 48 → (d[0]'hd00).toNat = 48 := fun e => by
              have := at_opt d 0 hd00
              rw [hdl2, List.getElem?_take_of_lt (by omega), e] at this
              rw [← Option.some.inj this]
              rfl
            have hlt := sz_lt D.data.toList (by omega)
            rw [y2] at hlt
            have HGD := hid (show ¬ (d[0]'hd00).toNat = 48 → d.size + 4 ≤ sz → sz ≤ D.size → D.data.toList[sz - 1]? = some 10 → Good D.data.toList by
              intro z1 z2 z3 z4
              exact ⟨by omega, by omega, fun e => z1 (h48' e), by omega, by rw [y2, hdl]; exact z3, by rw [y1]; exact y3, by rw [y2]; exact z4⟩)
            have HRN := hid (rec_none hr)
            have HIN := hid (show (D.data.toList.drop (d.size + 1)).take (sz - 1 - (d.size + 1)) = inner D.data.toList by rw [hds, ← y2]; unfold inner; rw [y1])
            have k4 : d.size ≤ 2097152 := by omega
            have a3 : (0 : Int) < (d.size : Int) := by omega
            have hds9 : d.size ≤ 9 := by omega
            clear h48 h48' y1 y2 y3 y4 y5 hix hx hr hd hdl2 hil hds hne3
            go_wp2_with fail
            rw [HD.out]
            refine K1.out.mono ?_
            rintro e w2 ⟨rfl, rfl⟩
            clear K1
            go_wp2_with fail
            refine (K2.out _).mono ?_
            rintro e w2 ⟨rfl, rfl⟩
            clear K2
            by_cases h1 : (d[0].toNat : Int) = 48
            · go_wp2
              refine bodyPost_ret (results_tmp2 rfl _ _ _) rfl ?_
              exact ⟨_, by rw [HX2.out]; rfl, by rw [HX2.out]; exact (OwE.nil _ _).still TT.out⟩
            · have h1B : ((d[0].toNat : Int) == 48) = false := by simpa using h1
              have HN48 := hid h1
              by_cases h2 : (s.size : Int) - (p : Int) < (sz : Int)
              · go_wp2
                refine bodyPost_ret (results_tmp2 rfl _ _ _) rfl ?_
                exact ⟨_, by rw [HX2.out]; rfl, by rw [HX2.out]; exact (OwE.nil _ _).still TT.out⟩
              · by_cases h3 : (sz : Int) < (d.size : Int) + 4
                · go_wp2
                  refine bodyPost_ret (results_tmp2 rfl _ _ _) rfl ?_
                  exact ⟨_, by rw [HX2.out]; rfl, by rw [HX2.out]; exact (OwE.nil _ _).still TT.out⟩
                · obtain ⟨r1, hr1⟩ : ∃ r1, r1 = s.extract (p + d.size + 1) (p + sz) := ⟨_, rfl⟩
                  have hr1l : r1.data.toList = (D.data.toList.drop (d.size + 1)).take (sz - (d.size + 1)) := by
                    rw [hr1, ext_list, HDL.out, List.drop_drop]
                    congr 1
                    omega
                  have hr1s : r1.size = sz - (d.size + 1) := by rw [hr1, ByteArray.size_extract]; omega
                  have e6 : r1.size - 1 < r1.size := by omega
                  have HLA := hid (show D.data.toList[sz - 1]? = some (r1[r1.size - 1]'e6) by
                    have := at_opt r1 (r1.size - 1) e6
                    rw [hr1l, List.getElem?_take_of_lt (by omega), List.getElem?_drop, show d.size + 1 + (r1.size - 1) = sz - 1 by omega] at this
                    exact this)
                  have HR1 := hid hr1.symm
                  obtain ⟨r2, hr2⟩ : ∃ r2, r2 = r1.extract 0 (r1.size - 1) := ⟨_, rfl⟩
                  have hr2l : r2.data.toList = inner D.data.toList := by
                    rw [hr2, take_list, hr1l, List.take_take, ← HIN.out]
                    congr 1
                    omega
                  have hr2s : r2.size = r1.size - 1 := by rw [hr2, ByteArray.size_extract]; omega
                  have HR2 := hid hr2.symm
                  have HR2L := hid hr2l
                  have HGD2 := hid (show (r1[r1.size - 1]'e6).toNat = 10 → Good D.data.toList from fun e => HGD.out (by omega) (by omega) (by omega) (by rw [HLA.out]; exact congrArg some (UInt8.toNat_inj.1 (by rw [e]; rfl))))
                  have K3 := hid (fun w => upto_any r2 61 (by omega) w)
                  have b1 : (0 : Int) ≤ (p : Int) + (d.size : Int) + 1 := by omega
                  have b2 : (p : Int) + (d.size : Int) + 1 ≤ (p : Int) + (sz : Int) := by omega
                  have b3 : (p : Int) + (sz : Int) ≤ (s.size : Int) := by omega
                  have b4 : ((p : Int) + (d.size : Int) + 1).toNat = p + d.size + 1 := by omega
                  have b5 : ((p : Int) + (sz : Int)).toNat = p + sz := by omega
                  have e1 : (0 : Int) ≤ (r1.size : Int) - 1 := by omega
                  have e2 : (r1.size : Int) - 1 < (r1.size : Int) := by omega
                  have e3 : ((r1.size : Int) - 1).toNat = r1.size - 1 := by omega
                  have e4 : (r1.size : Int) - 1 ≤ (r1.size : Int) := by omega
                  have k1 : r1.size ≤ 2097152 := by omega
                  have k2 : r2.size ≤ 2097152 := by omega
                  clear hr1s hr2s hr1l hr2l hr1 hr2 HDL hdl hDs
                  by_cases h4 : (r1[r1.size - 1].toNat : Int) = 10
                  · have h4B : ((r1[r1.size - 1].toNat : Int) != 10) = false := by simpa using h4
                    have HID := hid (HRN.out (HGD2.out (by omega)))
                    rw [← HR2L.out] at HID
                    rcases HID.out with hn | hn
                    · rw [uptoV_none hn] at K3
                      clear hn HID
                      go_upto_region 9 with fail
                      rw [HR1.out]
                      go_upto_region 12 with fail
                      rw [HR2.out]
                      go_wp2_with fail
                      refine (K3.out _).mono ?_
                      rintro e w2 ⟨rfl, rfl⟩
                      clear K3
                      go_wp2
                      refine bodyPost_ret (results_tmp2 rfl _ _ _) rfl ?_
                      exact ⟨_, by rw [HX2.out]; rfl, by rw [HX2.out]; exact (OwE.nil _ _).still TT.out⟩
                    · rw [uptoV_some hn, show r2.extract 0 0 = ⟨#[]⟩ by rw [ext_ba]; rfl] at K3
                      clear hn HID
                      go_upto_region 9 with fail
                      rw [HR1.out]
                      go_upto_region 12 with fail
                      rw [HR2.out]
                      go_wp2_with fail
                      refine (K3.out _).mono ?_
                      rintro e w2 ⟨rfl, rfl⟩
                      clear K3
                      go_wp2
                      refine bodyPost_ret (results_tmp2 rfl _ _ _) rfl ?_
                      exact ⟨_, by rw [HX2.out]; rfl, by rw [HX2.out]; exact (OwE.nil _ _).still TT.out⟩
                  · have h4B : ((r1[r1.size - 1].toNat : Int) != 10) = true := by simpa using h4
                    go_upto_region 9 with fail
                    rw [HR1.out]
                    go_wp2
                    refine bodyPost_ret (results_tmp2 rfl _ _ _) rfl ?_
                    exact ⟨_, by rw [HX2.out]; rfl, by rw [HX2.out]; exact (OwE.nil _ _).still TT.out⟩
    · obtain rfl : p = s.size := by omega
      rw [drop_all, recsF_nil] at HO
      have HX2 := hid (show X = some o by rw [← HO.out]; simp)
      clear HO
      go_wp2
      refine bodyPost_ret (results_tmp2 rfl _ _ _) rfl ?_
      exact ⟨_, by rw [HX2.out]; rfl, by rw [HX2.out]; exact OW.out⟩
end Go.Proofs.YtdchbbegbijjgaaDoor

/- Number and the document's Number, of any text, the rest; condition: the text fits into memory. -/
namespace Go.Proofs.YtdchbbegbijjgaaDoor
open Go.RowKit
open Go.Lib

theorem and127f : ∀ x : Fin 256, bits .and .u8 (x.1 : Int) 127 = ((x.1 % 128 : Nat) : Int) := by decide +kernel
theorem and127 (x : Nat) (h : 128 ≤ x) (h2 : x < 256) : bits .and .u8 (x : Int) 127 = ((x - 128 : Nat) : Int) := by
  have e := and127f ⟨x, h2⟩
  dsimp only at e
  rw [show x % 128 = x - 128 by omega] at e
  exact e

set_option maxRecDepth 100000 in
set_option maxHeartbeats 4000000 in
theorem wide_any (s : ByteArray) (hs : s.size ≤ 140737488351232) (h0 : 0 < s.size) (hb : 128 ≤ s[0].toNat) (w : World) :
    Calls Tryd.prog 9 #[.string s] w fun e w' => e = .returned (tupN (wideGo (s[0].toNat - 128) (s.data.toList.drop 1))) ∧ Touch (fun _ => False) w w' := by
  obtain ⟨X, hX⟩ : ∃ X, X = wideGo (s[0].toNat - 128) (s.data.toList.drop 1) := ⟨_, rfl⟩
  have HX := hid hX.symm
  rw [← hX]
  clear hX
  have hb2 : s[0].toNat < 256 := UInt8.toNat_lt _
  have ha := and127 s[0].toNat hb hb2
  have h0I : (0 : Int) < (s.size : Int) := by omega
  obtain ⟨y, hy⟩ : ∃ y, y = s[0].toNat := ⟨_, rfl⟩
  have hyb : s[0].toNat = y := hy.symm
  rw [hyb] at ha hb hb2 HX
  clear hy
  go_enter Tryd.func9, Tryd.ntmps9
  go_wp2_with fail
  go_loopg [4, 5] (s.size - 1) (fun gk v4 v5 wq => ∃ i n : Nat, i + gk = s.size ∧ v5 = .int .i64 (i : Nat) ∧ v4 = .int .i64 (n : Nat) ∧ n ≤ 1099511627776 ∧ Hid (wideGo n (s.data.toList.drop i) = X) ∧ w = wq)
  case atStart => exact ⟨1, y - 128, by omega, rfl, rfl, by omega, HX, rfl⟩
  case round =>
    obtain ⟨i, a, hi, rfl, rfl, hal, HD, rfl⟩ := hrel
    by_cases hlt : i < s.size
    · have hltI : (i : Int) < (s.size : Int) := by omega
      rw [byte_at s i hlt, wideGo] at HD
      obtain ⟨x, hxe⟩ : ∃ x : Nat, x = s[i].toNat := ⟨_, rfl⟩
      have hbg : s[i].toNat = x := hxe.symm
      have hx255 : x < 256 := by rw [hxe]; exact UInt8.toNat_lt _
      rw [hbg] at HD
      clear hxe
      have HOR := hid (show bits .or .i64 ((a : Int) * 256) (x : Int) = ((256 * a + x : Nat) : Int) by
        rw [show (a : Int) * 256 = ((2 ^ 8 * a : Nat) : Int) by omega, or_high x a 8 (by omega) (by omega)])
      obtain ⟨m, hm⟩ : ∃ m, m = 256 * a + x := ⟨_, rfl⟩
      rw [← hm] at HOR HD
      clear hm
      go_upto_region 5 with fail
      have hor := HOR.out
      by_cases hbig : m > 1099511627776
      · rw [if_pos hbig] at HD
        have hbI : 1099511627776 < (m : Int) := by omega
        go_wp2
        refine bodyPost_ret (results_tmp2 rfl _ _ _) rfl ?_
        exact ⟨by rw [← HD.out]; rfl, Touch.refl _ _⟩
      · rw [if_neg hbig] at HD
        have hbI : ¬ 1099511627776 < (m : Int) := by omega
        go_wp2
        go_roundg (gk - 1)
        case measure => omega
        case rel => exact ⟨i + 1, m, by omega, by go_num, rfl, by omega, HD, rfl⟩
    · obtain rfl : i = s.size := by omega
      rw [drop_all, wideGo] at HD
      go_wp2
      refine bodyPost_ret (results_tmp2 rfl _ _ _) rfl ?_
      exact ⟨by rw [← HD.out]; rfl, Touch.refl _ _⟩

theorem numP_none {s : ByteArray} (h : s.size = 0) : numP s.data.toList = (0, false) := by
  have : s.data.toList = [] := List.eq_nil_of_length_eq_zero (by rw [Array.length_toList]; exact h)
  rw [this]
  rfl
theorem list_cons (s : ByteArray) (h : 0 < s.size) : s.data.toList = s[0] :: s.data.toList.drop 1 := by
  have := byte_at s 0 h
  simpa using this
theorem numP_wide {s : ByteArray} (h : 0 < s.size) (hb : 128 ≤ s[0].toNat) : numP s.data.toList = wideGo (s[0].toNat - 128) (s.data.toList.drop 1) := by
  rw [list_cons s h, numP, if_pos hb]
  rfl
theorem numP_oct {s : ByteArray} (h : 0 < s.size) (hb : ¬ 128 ≤ s[0].toNat) : numP s.data.toList = octR 0 (s.data.toList.dropWhile fun b => decide (b.toNat = 32)) := by
  rw [list_cons s h, numP, if_neg hb]

set_option maxRecDepth 100000 in
theorem number_any (s : ByteArray) (hs : s.size ≤ 140737488351232) (w : World) :
    Calls Tryd.prog 5 #[.string s] w fun e w' => e = .returned (tupN (numP s.data.toList)) ∧ Touch (fun _ => False) w w' := by
  by_cases h0 : s.size = 0
  · rw [numP_none h0]
    have hde : s = ⟨#[]⟩ := by
      obtain ⟨⟨l⟩⟩ := s
      have : l = [] := List.eq_nil_of_length_eq_zero h0
      rw [this]
    subst hde
    go_enter Tryd.func5, Tryd.ntmps5
    go_wp2
    refine bodyPost_ret (results_tmp2 rfl _ _ _) rfl ?_
    exact ⟨rfl, Touch.refl _ _⟩
  · have h1 : 0 < s.size := by omega
    have hne := list_ne h1
    have h0I : (0 : Int) < (s.size : Int) := by omega
    by_cases hb : 128 ≤ s[0].toNat
    · rw [numP_wide h1 hb]
      have K := hid (wide_any s hs h1 hb w)
      generalize wideGo (s[0].toNat - 128) (s.data.toList.drop 1) = X at *
      have hbI : 128 ≤ (s[0].toNat : Int) := by omega
      go_enter Tryd.func5, Tryd.ntmps5
      go_wp2_with fail
      refine K.out.mono ?_
      rintro e w1 ⟨rfl, t1⟩
      have T1 := hid t1
      clear t1 K
      unfold tupN
      go_wp2
      refine bodyPost_ret (results_tmp2 rfl _ _ _) rfl ?_
      exact ⟨rfl, T1.out⟩
    · rw [numP_oct h1 hb]
      have K := hid (octal_any s hs w)
      generalize octR 0 (s.data.toList.dropWhile fun b => decide (b.toNat = 32)) = X at *
      have hbI : ¬ 128 ≤ (s[0].toNat : Int) := by omega
      go_enter Tryd.func5, Tryd.ntmps5
      go_wp2_with fail
      refine K.out.mono ?_
      rintro e w1 ⟨rfl, t1⟩
      have T1 := hid t1
      clear t1 K
      unfold tupN
      go_wp2
      refine bodyPost_ret (results_tmp2 rfl _ _ _) rfl ?_
      exact ⟨rfl, T1.out⟩

set_option maxRecDepth 100000 in
theorem speaks_yes (w : World) : Calls Tryd.prog 4 #[] w fun e w' => e = .returned (.bool true) ∧ Touch (fun _ => False) w w' := by
  have K := hid (number_any ⟨#[48, 48, 48, 48, 54, 52, 52, 0]⟩ (by decide) w)
  rw [show numP (ByteArray.mk #[48, 48, 48, 48, 54, 52, 52, 0]).data.toList = (420, true) by decide] at K
  unfold tupN at K
  go_enter Tryd.func4, Tryd.ntmps4
  go_wp2_with fail
  refine K.out.mono ?_
  rintro e w1 ⟨rfl, t1⟩
  have T1 := hid t1
  clear t1 K
  go_wp2
  go_ret
  exact ⟨rfl, T1.out⟩
end Go.Proofs.YtdchbbegbijjgaaDoor
