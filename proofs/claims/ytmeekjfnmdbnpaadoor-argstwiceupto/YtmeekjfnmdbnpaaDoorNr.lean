/- The document's Number; condition: the text fits into memory. -/
import Derived.Test.YtmeekjfnmdbnpaaDoorNp
import Derived.Test.YtmeekjfnmdbnpaaDoorNm
namespace Go.Proofs.YtmeekjfnmdbnpaaDoor
open Go.RowKit
open Go.Lib

theorem at_take (d : ByteArray) (i : Nat) (h : i < d.size) : d.data.toList.take (i + 1) = d.data.toList.take i ++ [d[i]] := by
  rw [List.take_succ_eq_append_getElem (by rw [len_size]; exact h)]
  rfl
set_option maxRecDepth 100000 in
set_option maxHeartbeats 4000000 in
theorem number_any (s : ByteArray) (hs : s.size ≤ 140737488355328) (w : World) :
    Calls Tryd.prog 24 #[.string s] w fun e w' => e = .returned (rnV s.data.toList) ∧ w = w' := by
  obtain ⟨RV, hRV⟩ : ∃ RV, RV = rnV s.data.toList := ⟨_, rfl⟩
  rw [← hRV]
  have HRV0 := hid hRV
  clear hRV
  by_cases hm : ∃ h : 0 < s.size, s[0] = 45
  · obtain ⟨h0, h45⟩ := hm
    have h0I : (0 : Int) < (s.size : Int) := by omega
    have h45n : s[0].toNat = 45 := by rw [h45]; rfl
    obtain ⟨D, hDe⟩ : ∃ D, D = s.extract 1 s.size := ⟨_, rfl⟩
    have HDd := hid (show D.data.toList = bodyN s.data.toList by
      have hh : s.data.toList.head? = some 45 := by
        rw [List.head?_eq_getElem?, at_opt s 0 h0, h45]
      unfold bodyN
      rw [if_pos hh, hDe, ext_list, List.take_of_length_le (by rw [List.length_drop, len_size]; omega)])
    have hDs : D.size ≤ 140737488355328 := by rw [hDe, ByteArray.size_extract]; omega
    have hx1 : s.extract 1 s.size = D := hDe.symm
    have h1I : (1 : Int) ≤ (s.size : Int) := by omega
    clear hDe h45
    go_enter Tryd.func24, Tryd.ntmps24
    go_upto_region 4 with fail
    clear h45n hx1 h1I h0I
    have HDL := hid (show D.size = (bodyN s.data.toList).length by rw [← HDd.out, len_size])
    by_cases hz0 : D.size = 0
    · have hz0I : ¬ (D.size : Int) ≠ 0 := by omega
      have hzB : ((D.size : Int) == 0) = true := by rw [beq_iff_eq]; omega
      have HV := hid (show RV = .tuple #[.int .i64 0, .bool false] by
        rw [HRV0.out]
        unfold rnV
        rw [← nrF_rn]
        unfold nrF
        rw [if_pos (.inl (by have := HDL.out; omega))])
      clear hz0I hz0
      go_wp2
      refine bodyPost_ret (results_tmp2 rfl _ _ _) rfl ?_
      exact ⟨by rw [HV.out]; rfl, rfl⟩
    have hzB : ((D.size : Int) == 0) = false := by rw [beq_eq_false_iff_ne]; omega
    by_cases h18 : (18 : Int) < (D.size : Int)
    ·
      have HV := hid (show RV = .tuple #[.int .i64 0, .bool false] by
        rw [HRV0.out]
        unfold rnV
        rw [← nrF_rn]
        unfold nrF
        rw [if_pos (.inr (.inl (by have := HDL.out; omega)))])
      skip
      go_wp2
      refine bodyPost_ret (results_tmp2 rfl _ _ _) rfl ?_
      exact ⟨by rw [HV.out]; rfl, rfl⟩
    have hD0 : 0 < D.size := by omega
    obtain ⟨f, hfe⟩ : ∃ f : Nat, f = D[0].toNat := ⟨_, rfl⟩
    have hfb : D[0].toNat = f := hfe.symm
    have HFE := hid hfe
    clear hfe
    have HHD := hid (show (bodyN s.data.toList).head? = some D[0] by
      rw [← HDd.out, List.head?_eq_getElem?]
      exact at_opt D 0 hD0)
    have HD0 := hid hD0
    by_cases hf : f = 48 ∧ 1 < s.size
    · obtain ⟨hf48, hs1⟩ := hf
      have hfB : ((f : Int) == 48) = true := by rw [beq_iff_eq]; omega
      have hs1I : (1 : Int) < (s.size : Int) := by omega
      have HV := hid (show RV = .tuple #[.int .i64 0, .bool false] by
        rw [HRV0.out]
        unfold rnV
        rw [← nrF_rn]
        unfold nrF
        rw [if_pos (.inr (.inr ⟨by
          rw [HHD.out]
          congr 1
          apply UInt8.toNat_inj.1
          rw [← HFE.out, hf48]
          rfl, by rw [len_size]; exact hs1⟩))])
      clear hf48
      go_wp2
      refine bodyPost_ret (results_tmp2 rfl _ _ _) rfl ?_
      exact ⟨by rw [HV.out]; rfl, rfl⟩
    have HNB := hid (show ¬ badN s.data.toList by
      rintro (h | h | h)
      · have := HDL.out; omega
      · have := HDL.out; omega
      · apply hf
        obtain ⟨h1, h2⟩ := h
        rw [HHD.out] at h1
        have e1 := congrArg UInt8.toNat (Option.some.inj h1)
        rw [← HFE.out] at e1
        exact ⟨e1, by rw [len_size] at h2; exact h2⟩)
    have HRV := hid (show RV = if (bodyN s.data.toList).all digB = true then .tuple #[.int .i64 (numN s.data.toList), .bool true] else .tuple #[.int .i64 0, .bool false] by
      rw [HRV0.out]
      unfold rnV
      rw [← nrF_rn]
      unfold nrF
      rw [if_neg HNB.out]
      by_cases hall : (bodyN s.data.toList).all digB = true
      · rw [if_pos hall, if_pos hall]
      · rw [if_neg hall, if_neg hall])
    rw [← HDd.out] at HRV
    have HNN := hid (show numN s.data.toList = if D.size < s.size then -(val10 D.data.toList : Int) else (val10 D.data.toList : Int) by
      unfold numN
      rw [← HDd.out, len_size, len_size])
    have hD18 : D.size ≤ 18 := by omega
    have CUT : decide ((f : Int) = 48) = true → ¬ (1 : Int) < (s.size : Int) := fun h => by have := of_decide_eq_true h; omega
    by_cases hf48 : f = 48
    · have hfB : ((f : Int) == 48) = true := by rw [beq_iff_eq]; omega
      have hs1I : ¬ (1 : Int) < (s.size : Int) := by omega
      clear CUT hf HNB
      go_upto_region 6 with fail
      clear hfb hfB hzB
      go_wp2_with fail
      go_loopg [5, 6] D.size (fun gk v5 v6 wq => ∃ i : Nat, i + gk = D.size ∧ v6 = .int .i64 (i : Nat) ∧ v5 = .int .i64 (val10 (D.data.toList.take i) : Nat) ∧ Hid ((D.data.toList.take i).all digB = true) ∧ Hid (val10 (D.data.toList.take i) < 10 ^ i) ∧ w = wq)
      case atStart => exact ⟨0, by omega, rfl, rfl, hid (by rw [List.take_zero]; rfl), hid (by rw [List.take_zero]; decide), rfl⟩
      case round =>
        obtain ⟨i, hig, rfl, rfl, HAL, HVB, rfl⟩ := hrel
        by_cases hlt : i < D.size
        · have hltI : (i : Int) < (D.size : Int) := by omega
          obtain ⟨G, rfl⟩ : ∃ G, gk = G + 1 := ⟨gk - 1, by omega⟩
          have HTK := hid (at_take D i hlt)
          have hV : val10 (D.data.toList.take i) < 1000000000000000000 := by
            have h1 := HVB.out
            have h2 : (10 : Nat) ^ i ≤ 10 ^ 17 := Nat.pow_le_pow_right (by decide) (by omega)
            have e : (10 : Nat) ^ 17 = 100000000000000000 := by decide
            omega
          have HV17 := hid (show val10 (D.data.toList.take i) < 100000000000000000 from by
            have h1 := HVB.out
            have h2 : (10 : Nat) ^ i ≤ 10 ^ 17 := Nat.pow_le_pow_right (by decide) (by omega)
            have e : (10 : Nat) ^ 17 = 100000000000000000 := by decide
            omega)
          have HDG := hid (dig_iff D[i])
          obtain ⟨x, hxe⟩ : ∃ x : Nat, x = D[i].toNat := ⟨_, rfl⟩
          have hbg : D[i].toNat = x := hxe.symm
          rw [hbg] at HDG
          have HXE := hid hxe
          have hx256 : x < 256 := by rw [hxe]; exact UInt8.toNat_lt _
          clear hxe
          by_cases hd : digB D[i] = true
          · have hr := HDG.out.1 hd
            have h1 : ¬ (x : Int) < 48 := by omega
            have h2 : ¬ (57 : Int) < (x : Int) := by omega
            have HVS := hid (show val10 (D.data.toList.take (i + 1)) = 10 * val10 (D.data.toList.take i) + (x - 48) by rw [HTK.out, val_snoc, ← HXE.out])
            have HAS := hid (show (D.data.toList.take (i + 1)).all digB = true by rw [HTK.out, List.all_append, HAL.out]; simpa using hd)
            have hV17 := HV17.out
            clear hd
            obtain ⟨Vj, hVj⟩ : ∃ Vj, Vj = val10 (D.data.toList.take i) := ⟨_, rfl⟩
            rw [← hVj] at hV HVS HVB hV17 ⊢
            clear hVj
            go_wp2
            go_roundg G
            case measure => omega
            case rel =>
              refine ⟨i + 1, by omega, by go_num, ?_, HAS, hid ?_, rfl⟩
              · rw [HVS.out]
                congr 1
                omega
              · rw [HVS.out, Nat.pow_succ]
                have := HVB.out
                omega
          · have HN := hid (show ¬ (48 ≤ x ∧ x ≤ 57) from fun h => hd (HDG.out.2 h))
            have HE := hid (show RV = .tuple #[.int .i64 0, .bool false] by
              rw [HRV.out, if_neg]
              intro e
              have := (List.all_eq_true.1 e) D[i] (by
                have := at_opt D i hlt
                exact List.mem_of_getElem? this)
              exact hd this)
            clear hd
            by_cases h1 : (x : Int) < 48
            · go_wp2
              refine bodyPost_ret (results_tmp2 rfl _ _ _) rfl ?_
              exact ⟨by rw [HE.out]; rfl, rfl⟩
            · have h2 : (57 : Int) < (x : Int) := by have := HN.out; omega
              go_wp2
              refine bodyPost_ret (results_tmp2 rfl _ _ _) rfl ?_
              exact ⟨by rw [HE.out]; rfl, rfl⟩
        · have hltI : ¬ (i : Int) < (D.size : Int) := by omega
          have hie : i = D.size := by omega
          have htk : D.data.toList.take i = D.data.toList := List.take_of_length_le (by rw [len_size]; omega)
          rw [htk] at HAL HVB ⊢
          have HE := hid (show RV = .tuple #[.int .i64 (if D.size < s.size then -(val10 D.data.toList : Int) else (val10 D.data.toList : Int)), .bool true] by rw [HRV.out, if_pos HAL.out, HNN.out])
          have hV : val10 D.data.toList < 1000000000000000000 := by
            have h1 := HVB.out
            have h2 : (10 : Nat) ^ i ≤ 10 ^ 18 := Nat.pow_le_pow_right (by decide) (by omega)
            have e : (10 : Nat) ^ 18 = 1000000000000000000 := by decide
            omega
          obtain ⟨Vj, hVj⟩ : ∃ Vj, Vj = val10 D.data.toList := ⟨_, rfl⟩
          rw [← hVj] at hV HE ⊢
          clear hVj htk hie
          by_cases hlen : D.size < s.size
          · rw [if_pos hlen] at HE
            have hlenI : (D.size : Int) < (s.size : Int) := by omega
            have hwn : IntKind.i64.wrap (-(Vj : Int)) = -(Vj : Int) := by rw [IntKind.wrap_i64]; omega
            go_wp2
            refine bodyPost_ret (results_tmp2 rfl _ _ _) rfl ?_
            exact ⟨by rw [HE.out]; rfl, rfl⟩
          · rw [if_neg hlen] at HE
            have hlenI : ¬ (D.size : Int) < (s.size : Int) := by omega
            go_wp2
            refine bodyPost_ret (results_tmp2 rfl _ _ _) rfl ?_
            exact ⟨by rw [HE.out]; rfl, rfl⟩
    · have hfB : ((f : Int) == 48) = false := by rw [beq_eq_false_iff_ne]; omega
      clear CUT hf HNB
      go_upto_region 6 with fail
      clear hfb hfB hzB
      go_wp2_with fail
      go_loopg [5, 6] D.size (fun gk v5 v6 wq => ∃ i : Nat, i + gk = D.size ∧ v6 = .int .i64 (i : Nat) ∧ v5 = .int .i64 (val10 (D.data.toList.take i) : Nat) ∧ Hid ((D.data.toList.take i).all digB = true) ∧ Hid (val10 (D.data.toList.take i) < 10 ^ i) ∧ w = wq)
      case atStart => exact ⟨0, by omega, rfl, rfl, hid (by rw [List.take_zero]; rfl), hid (by rw [List.take_zero]; decide), rfl⟩
      case round =>
        obtain ⟨i, hig, rfl, rfl, HAL, HVB, rfl⟩ := hrel
        by_cases hlt : i < D.size
        · have hltI : (i : Int) < (D.size : Int) := by omega
          obtain ⟨G, rfl⟩ : ∃ G, gk = G + 1 := ⟨gk - 1, by omega⟩
          have HTK := hid (at_take D i hlt)
          have hV : val10 (D.data.toList.take i) < 1000000000000000000 := by
            have h1 := HVB.out
            have h2 : (10 : Nat) ^ i ≤ 10 ^ 17 := Nat.pow_le_pow_right (by decide) (by omega)
            have e : (10 : Nat) ^ 17 = 100000000000000000 := by decide
            omega
          have HV17 := hid (show val10 (D.data.toList.take i) < 100000000000000000 from by
            have h1 := HVB.out
            have h2 : (10 : Nat) ^ i ≤ 10 ^ 17 := Nat.pow_le_pow_right (by decide) (by omega)
            have e : (10 : Nat) ^ 17 = 100000000000000000 := by decide
            omega)
          have HDG := hid (dig_iff D[i])
          obtain ⟨x, hxe⟩ : ∃ x : Nat, x = D[i].toNat := ⟨_, rfl⟩
          have hbg : D[i].toNat = x := hxe.symm
          rw [hbg] at HDG
          have HXE := hid hxe
          have hx256 : x < 256 := by rw [hxe]; exact UInt8.toNat_lt _
          clear hxe
          by_cases hd : digB D[i] = true
          · have hr := HDG.out.1 hd
            have h1 : ¬ (x : Int) < 48 := by omega
            have h2 : ¬ (57 : Int) < (x : Int) := by omega
            have HVS := hid (show val10 (D.data.toList.take (i + 1)) = 10 * val10 (D.data.toList.take i) + (x - 48) by rw [HTK.out, val_snoc, ← HXE.out])
            have HAS := hid (show (D.data.toList.take (i + 1)).all digB = true by rw [HTK.out, List.all_append, HAL.out]; simpa using hd)
            have hV17 := HV17.out
            clear hd
            obtain ⟨Vj, hVj⟩ : ∃ Vj, Vj = val10 (D.data.toList.take i) := ⟨_, rfl⟩
            rw [← hVj] at hV HVS HVB hV17 ⊢
            clear hVj
            go_wp2
            go_roundg G
            case measure => omega
            case rel =>
              refine ⟨i + 1, by omega, by go_num, ?_, HAS, hid ?_, rfl⟩
              · rw [HVS.out]
                congr 1
                omega
              · rw [HVS.out, Nat.pow_succ]
                have := HVB.out
                omega
          · have HN := hid (show ¬ (48 ≤ x ∧ x ≤ 57) from fun h => hd (HDG.out.2 h))
            have HE := hid (show RV = .tuple #[.int .i64 0, .bool false] by
              rw [HRV.out, if_neg]
              intro e
              have := (List.all_eq_true.1 e) D[i] (by
                have := at_opt D i hlt
                exact List.mem_of_getElem? this)
              exact hd this)
            clear hd
            by_cases h1 : (x : Int) < 48
            · go_wp2
              refine bodyPost_ret (results_tmp2 rfl _ _ _) rfl ?_
              exact ⟨by rw [HE.out]; rfl, rfl⟩
            · have h2 : (57 : Int) < (x : Int) := by have := HN.out; omega
              go_wp2
              refine bodyPost_ret (results_tmp2 rfl _ _ _) rfl ?_
              exact ⟨by rw [HE.out]; rfl, rfl⟩
        · have hltI : ¬ (i : Int) < (D.size : Int) := by omega
          have hie : i = D.size := by omega
          have htk : D.data.toList.take i = D.data.toList := List.take_of_length_le (by rw [len_size]; omega)
          rw [htk] at HAL HVB ⊢
          have HE := hid (show RV = .tuple #[.int .i64 (if D.size < s.size then -(val10 D.data.toList : Int) else (val10 D.data.toList : Int)), .bool true] by rw [HRV.out, if_pos HAL.out, HNN.out])
          have hV : val10 D.data.toList < 1000000000000000000 := by
            have h1 := HVB.out
            have h2 : (10 : Nat) ^ i ≤ 10 ^ 18 := Nat.pow_le_pow_right (by decide) (by omega)
            have e : (10 : Nat) ^ 18 = 1000000000000000000 := by decide
            omega
          obtain ⟨Vj, hVj⟩ : ∃ Vj, Vj = val10 D.data.toList := ⟨_, rfl⟩
          rw [← hVj] at hV HE ⊢
          clear hVj htk hie
          by_cases hlen : D.size < s.size
          · rw [if_pos hlen] at HE
            have hlenI : (D.size : Int) < (s.size : Int) := by omega
            have hwn : IntKind.i64.wrap (-(Vj : Int)) = -(Vj : Int) := by rw [IntKind.wrap_i64]; omega
            go_wp2
            refine bodyPost_ret (results_tmp2 rfl _ _ _) rfl ?_
            exact ⟨by rw [HE.out]; rfl, rfl⟩
          · rw [if_neg hlen] at HE
            have hlenI : ¬ (D.size : Int) < (s.size : Int) := by omega
            go_wp2
            refine bodyPost_ret (results_tmp2 rfl _ _ _) rfl ?_
            exact ⟨by rw [HE.out]; rfl, rfl⟩
  · have HM := hid hm
    have HDd := hid (show s.data.toList = bodyN s.data.toList by
      refine (body_pos _ ?_).symm
      intro e
      have h0 : 0 < s.size := by
        rcases Nat.eq_zero_or_pos s.size with h | h
        · have : s.data.toList = [] := List.eq_nil_of_length_eq_zero (by rw [len_size]; exact h)
          rw [this] at e
          cases e
        · exact h
      rw [List.head?_eq_getElem?, at_opt s 0 h0] at e
      exact hm ⟨h0, Option.some.inj e⟩)
    by_cases h0 : 0 < s.size
    · have h0I : (0 : Int) < (s.size : Int) := by omega
      have hnb : ((s[0].toNat : Int) == 45) = false := by
        rw [beq_eq_false_iff_ne]
        intro e
        exact hm ⟨h0, UInt8.toNat_inj.1 (by have e45 : (45 : UInt8).toNat = 45 := rfl; omega)⟩
      clear hm HM
      go_enter Tryd.func24, Tryd.ntmps24
      go_upto_region 4 with fail
      clear hnb h0I
      have HDL := hid (show s.size = (bodyN s.data.toList).length by rw [← HDd.out, len_size])
      by_cases hz0 : s.size = 0
      · have hz0I : ¬ (s.size : Int) ≠ 0 := by omega
        have hzB : ((s.size : Int) == 0) = true := by rw [beq_iff_eq]; omega
        have HV := hid (show RV = .tuple #[.int .i64 0, .bool false] by
          rw [HRV0.out]
          unfold rnV
          rw [← nrF_rn]
          unfold nrF
          rw [if_pos (.inl (by have := HDL.out; omega))])
        clear hz0I hz0
        go_wp2
        refine bodyPost_ret (results_tmp2 rfl _ _ _) rfl ?_
        exact ⟨by rw [HV.out]; rfl, rfl⟩
      have hzB : ((s.size : Int) == 0) = false := by rw [beq_eq_false_iff_ne]; omega
      by_cases h18 : (18 : Int) < (s.size : Int)
      ·
        have HV := hid (show RV = .tuple #[.int .i64 0, .bool false] by
          rw [HRV0.out]
          unfold rnV
          rw [← nrF_rn]
          unfold nrF
          rw [if_pos (.inr (.inl (by have := HDL.out; omega)))])
        skip
        go_wp2
        refine bodyPost_ret (results_tmp2 rfl _ _ _) rfl ?_
        exact ⟨by rw [HV.out]; rfl, rfl⟩
      have hD0 : 0 < s.size := by omega
      obtain ⟨f, hfe⟩ : ∃ f : Nat, f = s[0].toNat := ⟨_, rfl⟩
      have hfb : s[0].toNat = f := hfe.symm
      have HFE := hid hfe
      clear hfe
      have HHD := hid (show (bodyN s.data.toList).head? = some s[0] by
        rw [← HDd.out, List.head?_eq_getElem?]
        exact at_opt s 0 hD0)
      have HD0 := hid hD0
      by_cases hf : f = 48 ∧ 1 < s.size
      · obtain ⟨hf48, hs1⟩ := hf
        have hfB : ((f : Int) == 48) = true := by rw [beq_iff_eq]; omega
        have hs1I : (1 : Int) < (s.size : Int) := by omega
        have HV := hid (show RV = .tuple #[.int .i64 0, .bool false] by
          rw [HRV0.out]
          unfold rnV
          rw [← nrF_rn]
          unfold nrF
          rw [if_pos (.inr (.inr ⟨by
            rw [HHD.out]
            congr 1
            apply UInt8.toNat_inj.1
            rw [← HFE.out, hf48]
            rfl, by rw [len_size]; exact hs1⟩))])
        clear hf48
        go_wp2
        refine bodyPost_ret (results_tmp2 rfl _ _ _) rfl ?_
        exact ⟨by rw [HV.out]; rfl, rfl⟩
      have HNB := hid (show ¬ badN s.data.toList by
        rintro (h | h | h)
        · have := HDL.out; omega
        · have := HDL.out; omega
        · apply hf
          obtain ⟨h1, h2⟩ := h
          rw [HHD.out] at h1
          have e1 := congrArg UInt8.toNat (Option.some.inj h1)
          rw [← HFE.out] at e1
          exact ⟨e1, by rw [len_size] at h2; exact h2⟩)
      have HRV := hid (show RV = if (bodyN s.data.toList).all digB = true then .tuple #[.int .i64 (numN s.data.toList), .bool true] else .tuple #[.int .i64 0, .bool false] by
        rw [HRV0.out]
        unfold rnV
        rw [← nrF_rn]
        unfold nrF
        rw [if_neg HNB.out]
        by_cases hall : (bodyN s.data.toList).all digB = true
        · rw [if_pos hall, if_pos hall]
        · rw [if_neg hall, if_neg hall])
      rw [← HDd.out] at HRV
      have HNN := hid (show numN s.data.toList = if s.size < s.size then -(val10 s.data.toList : Int) else (val10 s.data.toList : Int) by
        unfold numN
        rw [← HDd.out, len_size])
      have hD18 : s.size ≤ 18 := by omega
      have CUT : decide ((f : Int) = 48) = true → ¬ (1 : Int) < (s.size : Int) := fun h => by have := of_decide_eq_true h; omega
      by_cases hf48 : f = 48
      · have hfB : ((f : Int) == 48) = true := by rw [beq_iff_eq]; omega
        have hs1I : ¬ (1 : Int) < (s.size : Int) := by omega
        clear CUT hf HNB
        go_upto_region 6 with fail
        clear hfb hfB hzB
        go_wp2_with fail
        go_loopg [5, 6] s.size (fun gk v5 v6 wq => ∃ i : Nat, i + gk = s.size ∧ v6 = .int .i64 (i : Nat) ∧ v5 = .int .i64 (val10 (s.data.toList.take i) : Nat) ∧ Hid ((s.data.toList.take i).all digB = true) ∧ Hid (val10 (s.data.toList.take i) < 10 ^ i) ∧ w = wq)
        case atStart => exact ⟨0, by omega, rfl, rfl, hid (by rw [List.take_zero]; rfl), hid (by rw [List.take_zero]; decide), rfl⟩
        case round =>
          obtain ⟨i, hig, rfl, rfl, HAL, HVB, rfl⟩ := hrel
          by_cases hlt : i < s.size
          · have hltI : (i : Int) < (s.size : Int) := by omega
            obtain ⟨G, rfl⟩ : ∃ G, gk = G + 1 := ⟨gk - 1, by omega⟩
            have HTK := hid (at_take s i hlt)
            have hV : val10 (s.data.toList.take i) < 1000000000000000000 := by
              have h1 := HVB.out
              have h2 : (10 : Nat) ^ i ≤ 10 ^ 17 := Nat.pow_le_pow_right (by decide) (by omega)
              have e : (10 : Nat) ^ 17 = 100000000000000000 := by decide
              omega
            have HV17 := hid (show val10 (s.data.toList.take i) < 100000000000000000 from by
              have h1 := HVB.out
              have h2 : (10 : Nat) ^ i ≤ 10 ^ 17 := Nat.pow_le_pow_right (by decide) (by omega)
              have e : (10 : Nat) ^ 17 = 100000000000000000 := by decide
              omega)
            have HDG := hid (dig_iff s[i])
            obtain ⟨x, hxe⟩ : ∃ x : Nat, x = s[i].toNat := ⟨_, rfl⟩
            have hbg : s[i].toNat = x := hxe.symm
            rw [hbg] at HDG
            have HXE := hid hxe
            have hx256 : x < 256 := by rw [hxe]; exact UInt8.toNat_lt _
            clear hxe
            by_cases hd : digB s[i] = true
            · have hr := HDG.out.1 hd
              have h1 : ¬ (x : Int) < 48 := by omega
              have h2 : ¬ (57 : Int) < (x : Int) := by omega
              have HVS := hid (show val10 (s.data.toList.take (i + 1)) = 10 * val10 (s.data.toList.take i) + (x - 48) by rw [HTK.out, val_snoc, ← HXE.out])
              have HAS := hid (show (s.data.toList.take (i + 1)).all digB = true by rw [HTK.out, List.all_append, HAL.out]; simpa using hd)
              have hV17 := HV17.out
              clear hd
              obtain ⟨Vj, hVj⟩ : ∃ Vj, Vj = val10 (s.data.toList.take i) := ⟨_, rfl⟩
              rw [← hVj] at hV HVS HVB hV17 ⊢
              clear hVj
              go_wp2
              go_roundg G
              case measure => omega
              case rel =>
                refine ⟨i + 1, by omega, by go_num, ?_, HAS, hid ?_, rfl⟩
                · rw [HVS.out]
                  congr 1
                  omega
                · rw [HVS.out, Nat.pow_succ]
                  have := HVB.out
                  omega
            · have HN := hid (show ¬ (48 ≤ x ∧ x ≤ 57) from fun h => hd (HDG.out.2 h))
              have HE := hid (show RV = .tuple #[.int .i64 0, .bool false] by
                rw [HRV.out, if_neg]
                intro e
                have := (List.all_eq_true.1 e) s[i] (by
                  have := at_opt s i hlt
                  exact List.mem_of_getElem? this)
                exact hd this)
              clear hd
              by_cases h1 : (x : Int) < 48
              · go_wp2
                refine bodyPost_ret (results_tmp2 rfl _ _ _) rfl ?_
                exact ⟨by rw [HE.out]; rfl, rfl⟩
              · have h2 : (57 : Int) < (x : Int) := by have := HN.out; omega
                go_wp2
                refine bodyPost_ret (results_tmp2 rfl _ _ _) rfl ?_
                exact ⟨by rw [HE.out]; rfl, rfl⟩
          · have hltI : ¬ (i : Int) < (s.size : Int) := by omega
            have hie : i = s.size := by omega
            have htk : s.data.toList.take i = s.data.toList := List.take_of_length_le (by rw [len_size]; omega)
            rw [htk] at HAL HVB ⊢
            have HE := hid (show RV = .tuple #[.int .i64 (if s.size < s.size then -(val10 s.data.toList : Int) else (val10 s.data.toList : Int)), .bool true] by rw [HRV.out, if_pos HAL.out, HNN.out])
            have hV : val10 s.data.toList < 1000000000000000000 := by
              have h1 := HVB.out
              have h2 : (10 : Nat) ^ i ≤ 10 ^ 18 := Nat.pow_le_pow_right (by decide) (by omega)
              have e : (10 : Nat) ^ 18 = 1000000000000000000 := by decide
              omega
            obtain ⟨Vj, hVj⟩ : ∃ Vj, Vj = val10 s.data.toList := ⟨_, rfl⟩
            rw [← hVj] at hV HE ⊢
            clear hVj htk hie
            by_cases hlen : s.size < s.size
            · rw [if_pos hlen] at HE
              have hlenI : (s.size : Int) < (s.size : Int) := by omega
              have hwn : IntKind.i64.wrap (-(Vj : Int)) = -(Vj : Int) := by rw [IntKind.wrap_i64]; omega
              go_wp2
              refine bodyPost_ret (results_tmp2 rfl _ _ _) rfl ?_
              exact ⟨by rw [HE.out]; rfl, rfl⟩
            · rw [if_neg hlen] at HE
              have hlenI : ¬ (s.size : Int) < (s.size : Int) := by omega
              go_wp2
              refine bodyPost_ret (results_tmp2 rfl _ _ _) rfl ?_
              exact ⟨by rw [HE.out]; rfl, rfl⟩
      · have hfB : ((f : Int) == 48) = false := by rw [beq_eq_false_iff_ne]; omega
        clear CUT hf HNB
        go_upto_region 6 with fail
        clear hfb hfB hzB
        go_wp2_with fail
        go_loopg [5, 6] s.size (fun gk v5 v6 wq => ∃ i : Nat, i + gk = s.size ∧ v6 = .int .i64 (i : Nat) ∧ v5 = .int .i64 (val10 (s.data.toList.take i) : Nat) ∧ Hid ((s.data.toList.take i).all digB = true) ∧ Hid (val10 (s.data.toList.take i) < 10 ^ i) ∧ w = wq)
        case atStart => exact ⟨0, by omega, rfl, rfl, hid (by rw [List.take_zero]; rfl), hid (by rw [List.take_zero]; decide), rfl⟩
        case round =>
          obtain ⟨i, hig, rfl, rfl, HAL, HVB, rfl⟩ := hrel
          by_cases hlt : i < s.size
          · have hltI : (i : Int) < (s.size : Int) := by omega
            obtain ⟨G, rfl⟩ : ∃ G, gk = G + 1 := ⟨gk - 1, by omega⟩
            have HTK := hid (at_take s i hlt)
            have hV : val10 (s.data.toList.take i) < 1000000000000000000 := by
              have h1 := HVB.out
              have h2 : (10 : Nat) ^ i ≤ 10 ^ 17 := Nat.pow_le_pow_right (by decide) (by omega)
              have e : (10 : Nat) ^ 17 = 100000000000000000 := by decide
              omega
            have HV17 := hid (show val10 (s.data.toList.take i) < 100000000000000000 from by
              have h1 := HVB.out
              have h2 : (10 : Nat) ^ i ≤ 10 ^ 17 := Nat.pow_le_pow_right (by decide) (by omega)
              have e : (10 : Nat) ^ 17 = 100000000000000000 := by decide
              omega)
            have HDG := hid (dig_iff s[i])
            obtain ⟨x, hxe⟩ : ∃ x : Nat, x = s[i].toNat := ⟨_, rfl⟩
            have hbg : s[i].toNat = x := hxe.symm
            rw [hbg] at HDG
            have HXE := hid hxe
            have hx256 : x < 256 := by rw [hxe]; exact UInt8.toNat_lt _
            clear hxe
            by_cases hd : digB s[i] = true
            · have hr := HDG.out.1 hd
              have h1 : ¬ (x : Int) < 48 := by omega
              have h2 : ¬ (57 : Int) < (x : Int) := by omega
              have HVS := hid (show val10 (s.data.toList.take (i + 1)) = 10 * val10 (s.data.toList.take i) + (x - 48) by rw [HTK.out, val_snoc, ← HXE.out])
              have HAS := hid (show (s.data.toList.take (i + 1)).all digB = true by rw [HTK.out, List.all_append, HAL.out]; simpa using hd)
              have hV17 := HV17.out
              clear hd
              obtain ⟨Vj, hVj⟩ : ∃ Vj, Vj = val10 (s.data.toList.take i) := ⟨_, rfl⟩
              rw [← hVj] at hV HVS HVB hV17 ⊢
              clear hVj
              go_wp2
              go_roundg G
              case measure => omega
              case rel =>
                refine ⟨i + 1, by omega, by go_num, ?_, HAS, hid ?_, rfl⟩
                · rw [HVS.out]
                  congr 1
                  omega
                · rw [HVS.out, Nat.pow_succ]
                  have := HVB.out
                  omega
            · have HN := hid (show ¬ (48 ≤ x ∧ x ≤ 57) from fun h => hd (HDG.out.2 h))
              have HE := hid (show RV = .tuple #[.int .i64 0, .bool false] by
                rw [HRV.out, if_neg]
                intro e
                have := (List.all_eq_true.1 e) s[i] (by
                  have := at_opt s i hlt
                  exact List.mem_of_getElem? this)
                exact hd this)
              clear hd
              by_cases h1 : (x : Int) < 48
              · go_wp2
                refine bodyPost_ret (results_tmp2 rfl _ _ _) rfl ?_
                exact ⟨by rw [HE.out]; rfl, rfl⟩
              · have h2 : (57 : Int) < (x : Int) := by have := HN.out; omega
                go_wp2
                refine bodyPost_ret (results_tmp2 rfl _ _ _) rfl ?_
                exact ⟨by rw [HE.out]; rfl, rfl⟩
          · have hltI : ¬ (i : Int) < (s.size : Int) := by omega
            have hie : i = s.size := by omega
            have htk : s.data.toList.take i = s.data.toList := List.take_of_length_le (by rw [len_size]; omega)
            rw [htk] at HAL HVB ⊢
            have HE := hid (show RV = .tuple #[.int .i64 (if s.size < s.size then -(val10 s.data.toList : Int) else (val10 s.data.toList : Int)), .bool true] by rw [HRV.out, if_pos HAL.out, HNN.out])
            have hV : val10 s.data.toList < 1000000000000000000 := by
              have h1 := HVB.out
              have h2 : (10 : Nat) ^ i ≤ 10 ^ 18 := Nat.pow_le_pow_right (by decide) (by omega)
              have e : (10 : Nat) ^ 18 = 1000000000000000000 := by decide
              omega
            obtain ⟨Vj, hVj⟩ : ∃ Vj, Vj = val10 s.data.toList := ⟨_, rfl⟩
            rw [← hVj] at hV HE ⊢
            clear hVj htk hie
            by_cases hlen : s.size < s.size
            · rw [if_pos hlen] at HE
              have hlenI : (s.size : Int) < (s.size : Int) := by omega
              have hwn : IntKind.i64.wrap (-(Vj : Int)) = -(Vj : Int) := by rw [IntKind.wrap_i64]; omega
              go_wp2
              refine bodyPost_ret (results_tmp2 rfl _ _ _) rfl ?_
              exact ⟨by rw [HE.out]; rfl, rfl⟩
            · rw [if_neg hlen] at HE
              have hlenI : ¬ (s.size : Int) < (s.size : Int) := by omega
              go_wp2
              refine bodyPost_ret (results_tmp2 rfl _ _ _) rfl ?_
              exact ⟨by rw [HE.out]; rfl, rfl⟩
    ·
      have hz : s.size = 0 := by omega
      have h0I : ¬ (0 : Int) < (s.size : Int) := by omega
      have hzB : ((s.size : Int) == 0) = true := by rw [beq_iff_eq]; omega
      have HV := hid (show RV = .tuple #[.int .i64 0, .bool false] by
        rw [HRV0.out]
        unfold rnV
        rw [← nrF_rn]
        unfold nrF
        rw [if_pos (.inl (by rw [← HDd.out, len_size]; exact hz))])
      clear hz hm h0
      go_enter Tryd.func24, Tryd.ntmps24
      go_wp2
      refine bodyPost_ret (results_tmp2 rfl _ _ _) rfl ?_
      exact ⟨by rw [HV.out]; rfl, rfl⟩
end Go.Proofs.YtmeekjfnmdbnpaaDoor
