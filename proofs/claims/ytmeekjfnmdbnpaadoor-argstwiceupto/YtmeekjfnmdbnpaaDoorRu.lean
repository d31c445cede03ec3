/- The document's Unpack; condition: the text fits into memory. -/
import Derived.Test.YtmeekjfnmdbnpaaDoorSk
import Derived.Test.YtmeekjfnmdbnpaaDoorPr
namespace Go.Proofs.YtmeekjfnmdbnpaaDoor
open Go.RowKit
open Go.Lib

theorem dgN_drop (G : Nat) (cs : Bs) (j : Nat) (c : UInt8) (h : cs[j]? = some c) : dgN (G + 1) (cs.drop j) = if digB c = true then dgN G (cs.drop (j + 1)) + 1 else 0 := by
  obtain ⟨h1, h2⟩ := List.getElem?_eq_some_iff.1 h
  rw [List.drop_eq_getElem_cons h1, h2, dgN]
theorem dgN_none (G : Nat) (cs : Bs) (j : Nat) (h : cs[j]? = none) : dgN G (cs.drop j) = 0 := by
  have : cs.drop j = [] := List.drop_eq_nil_of_le (List.getElem?_eq_none_iff.1 h)
  rw [this]
  cases G <;> rfl
theorem rt_bad (cs : Bs) (K V : Nat) (hK : K = dgN 7 cs) (hV : V = val10 (cs.take K)) (h : rtB cs K V) : tk cs = none := by
  rw [← rtk_tk]
  unfold rtk
  rw [← hK, ← hV, if_pos h]
theorem rt_ok (cs : Bs) (K V : Nat) (hK : K = dgN 7 cs) (hV : V = val10 (cs.take K)) (h : ¬ rtB cs K V) : tk cs = some ((cs.drop (K + 1)).take V, cs.drop (K + 2 + V)) := by
  rw [← rtk_tk]
  unfold rtk
  rw [← hK, ← hV, if_neg h]
theorem rt_in (cs : Bs) (K V : Nat) (_ : K = dgN 7 cs) (_ : V = val10 (cs.take K)) (h : ¬ rtB cs K V) : K + 2 + V ≤ cs.length := by
  have : ¬ cs.length ≤ V + K + 1 := fun e => h (.inr (.inr (.inr (.inl e))))
  omega
theorem val_take (cs : Bs) (j : Nat) (c : UInt8) (h : cs[j]? = some c) : val10 (cs.take (j + 1)) = 10 * val10 (cs.take j) + (c.toNat - 48) := by
  obtain ⟨h1, h2⟩ := List.getElem?_eq_some_iff.1 h
  rw [List.take_succ_eq_append_getElem h1, val_snoc, h2]
/-- Does a digit stand there? -/
def dgA (cs : Bs) (j : Nat) : Bool := decide (j < 7) && (match cs[j]? with | some c => digB c | none => false)
set_option maxRecDepth 100000 in
set_option maxHeartbeats 8000000 in
theorem runpack_any (s : ByteArray) (w : World) (hs : s.size ≤ 1099511627776) :
    Calls Tryd.prog 12 #[.string s] w fun e w' => ∃ v', e = .returned (.tuple #[v', .int .i64 (faE (un s.data.toList)), .int .i64 (faA (un s.data.toList))]) ∧ OwS w w' v' (okL (un s.data.toList)) := by
  obtain ⟨i0, hi, hz0, hz1, hz2⟩ := info_parts info9
  obtain ⟨X, hX⟩ : ∃ X, X = un s.data.toList := ⟨_, rfl⟩
  rw [← hX]
  have HX := hid (show onto [] (unF (s.size + 1) 0 (s.data.toList.drop 0)) = X by
    rw [hX, List.drop_zero]
    unfold un
    rw [len_size]
    cases unF (s.size + 1) 0 s.data.toList <;> rfl)
  clear hX
  go_enter Tryd.func12, Tryd.ntmps12
  go_wp2_with fail
  go_loopg [5, 6] (s.size + 1) (fun gk v5 v6 wr => ∃ (p : Nat) (o : List Bs), p ≤ s.size ∧ s.size < gk + p ∧ o.length ≤ p ∧ v6 = .int .i64 (p : Nat) ∧ Hid (onto o (unF gk p (s.data.toList.drop p)) = X) ∧ OwS w wr v5 o)
  case atStart => exact ⟨0, [], by omega, by omega, by simp, rfl, HX, OwS.nil _⟩
  case round =>
    clear HX
    obtain ⟨p, o, hps, hpg, hol, rfl, HO, hown⟩ := hrel
    have OW := hid hown
    obtain ⟨a4, c4, hv4⟩ := own_shape hown.own
    subst hv4
    clear hown
    obtain ⟨G, rfl⟩ : ∃ G, gk = G + 1 := ⟨gk - 1, by omega⟩
    by_cases hlt : p < s.size
    · have hltI : (p : Int) < (s.size : Int) := by omega
      obtain ⟨cs, hcsE⟩ : ∃ cs, cs = s.data.toList.drop p := ⟨_, rfl⟩
      have HCS := hid (show s.data.toList.drop p = cs from hcsE.symm)
      rw [← hcsE] at HO
      have hcs : cs ≠ [] := fun e => by
        have := congrArg List.length e
        rw [hcsE, List.length_drop, len_size, List.length_nil] at this
        omega
      have HLC := hid (show cs.length = s.size - p by rw [hcsE, List.length_drop, len_size])
      clear hcsE
      go_wp2_with fail
      go_loopg [7, 8] 7 (fun gk v7 v8 wq => ∃ (j kN : Nat), j + gk = 7 ∧ kN ≤ s.size ∧ kN = p + j ∧ v8 = .int .i64 (kN : Nat) ∧ v7 = .int .i64 (val10 (cs.take j) : Nat) ∧ Hid (val10 (cs.take j) < 10 ^ j) ∧ Hid (j + dgN gk (cs.drop j) = dgN 7 cs) ∧ wr = wq)
      case atStart => exact ⟨0, p, by omega, hps, rfl, rfl, rfl, hid (by rw [List.take_zero]; decide), hid (by rw [List.drop_zero, Nat.zero_add]), rfl⟩
      case round =>
        obtain ⟨j, kN, hjg, hks, hkp7, rfl, rfl, HVJ, HJ, rfl⟩ := hrel
        have hVJ : val10 (cs.take j) < 10000000 := by
          have h1 := HVJ.out
          have h2 : (10 : Nat) ^ j ≤ 10 ^ 7 := Nat.pow_le_pow_right (by decide) (by omega)
          have e7 : (10 : Nat) ^ 7 = 10000000 := by decide
          omega
        have HKP := hid hkp7
        clear hkp7
        go_upto_region 5 with fail
        go_cut [35] (fun v wd => v = .bool (dgA cs j) ∧ wr = wd)
        case first =>
          by_cases hke : kN < s.size
          · have hkeI : (kN : Int) < (s.size : Int) := by omega
            have HCJ := hid (show cs[j]? = some s[kN] by
              rw [← HCS.out, List.getElem?_drop, ← HKP.out]
              exact at_opt s kN hke)
            by_cases h7 : j < 7
            · have h7I : (kN : Int) < (p : Int) + 7 := by have := HKP.out; omega
              have HDA := hid (show dgA cs j = digB s[kN] by unfold dgA; rw [HCJ.out, decide_eq_true h7]; rfl)
              have HDG := hid (dig_iff s[kN])
              obtain ⟨x, hxe⟩ : ∃ x : Nat, x = s[kN].toNat := ⟨_, rfl⟩
              have hbg : s[kN].toNat = x := hxe.symm
              rw [hbg] at HDG
              clear hxe
              by_cases h1 : (48 : Int) ≤ (x : Int)
              · by_cases h2 : (x : Int) ≤ 57
                · go_wp2
                  go_meet
                  case rel => exact ⟨by rw [HDA.out, HDG.out.2 ⟨by omega, by omega⟩], rfl⟩
                · go_wp2
                  go_meet
                  case rel => exact ⟨by rw [HDA.out, show digB s[kN] = false from Bool.eq_false_iff.2 (fun e => by have := HDG.out.1 e; omega)], rfl⟩
              · go_wp2
                go_meet
                case rel => exact ⟨by rw [HDA.out, show digB s[kN] = false from Bool.eq_false_iff.2 (fun e => by have := HDG.out.1 e; omega)], rfl⟩
            · have h7I : ¬ (kN : Int) < (p : Int) + 7 := by have := HKP.out; omega
              go_wp2
              go_meet
              case rel => exact ⟨by unfold dgA; rw [decide_eq_false h7]; rfl, rfl⟩
          · have hkeI : ¬ (kN : Int) < (s.size : Int) := by omega
            go_wp2
            go_meet
            case rel => exact ⟨by
              unfold dgA
              rw [← HCS.out, List.getElem?_drop, List.getElem?_eq_none (by rw [len_size]; have := HKP.out; omega), Bool.and_false], rfl⟩
        obtain ⟨rfl, rfl⟩ := hcut
        cases hd : dgA cs j with
        | true =>
          obtain ⟨c, HCJ, hdc, h7⟩ : ∃ c, Hid (cs[j]? = some c) ∧ digB c = true ∧ j < 7 := by
            unfold dgA at hd
            rw [Bool.and_eq_true] at hd
            cases hc : cs[j]? with
            | none => rw [hc] at hd; exact absurd hd.2 (by decide)
            | some c => rw [hc] at hd; exact ⟨c, hid rfl, hd.2, of_decide_eq_true hd.1⟩
          obtain ⟨g, rfl⟩ : ∃ g, gk = g + 1 := ⟨gk - 1, by omega⟩
          rw [dgN_drop g cs j _ HCJ.out, if_pos hdc] at HJ
          have hke : kN < s.size := by
            obtain ⟨h1, _⟩ := List.getElem?_eq_some_iff.1 HCJ.out
            have h2 := HLC.out
            have h3 := HKP.out
            omega
          have hcx : s[kN] = c := by
            have h1 := HCJ.out
            rw [← HCS.out, List.getElem?_drop, ← HKP.out, at_opt s kN hke] at h1
            exact Option.some.inj h1
          have hr := (dig_iff c).1 hdc
          have HVT := hid (val_take cs j _ HCJ.out)
          obtain ⟨x, hxe⟩ : ∃ x : Nat, x = c.toNat := ⟨_, rfl⟩
          have hbg : s[kN].toNat = x := by rw [hcx, hxe]
          rw [← hxe] at HVT hr
          have h1 : (48 : Int) ≤ (x : Int) := by omega
          have h2 : (x : Int) ≤ 57 := by omega
          have hu : IntKind.u8.wrap ((x : Int) - 48) = (x : Int) - 48 := by rw [IntKind.wrap_u8]; omega
          clear hd hdc hcx hxe HCJ
          obtain ⟨Vj, hVj⟩ : ∃ Vj, Vj = val10 (cs.take j) := ⟨_, rfl⟩
          rw [← hVj] at hVJ HVT HVJ ⊢
          clear hVj
          go_wp2
          go_roundg g
          case measure => omega
          case rel =>
            refine ⟨j + 1, kN + 1, by omega, by omega, by have := HKP.out; omega, by go_num, ?_, hid ?_, hid (by have := HJ.out; omega), rfl⟩
            · rw [HVT.out]
              congr 1
              omega
            · rw [HVT.out, Nat.pow_succ]
              have := HVJ.out
              omega
        | false =>
          have HJ2 := hid (show j = dgN 7 cs by
            have h1 := HJ.out
            have h2 : dgN gk (cs.drop j) = 0 := by
              cases gk with
              | zero => rfl
              | succ g =>
                unfold dgA at hd
                rw [decide_eq_true (show j < 7 by omega), Bool.true_and] at hd
                cases hc : cs[j]? with
                | none => exact dgN_none _ _ _ hc
                | some c =>
                  rw [hc] at hd
                  rw [dgN_drop g cs j c hc, if_neg (by rw [show digB c = false from hd]; decide)]
            omega)
          obtain ⟨K, hKe⟩ : ∃ K, K = j := ⟨_, rfl⟩
          have HKd := hid (show K = dgN 7 cs from by rw [hKe]; exact HJ2.out)
          obtain ⟨V, hVe⟩ : ∃ V, V = val10 (cs.take j) := ⟨_, rfl⟩
          have HVd := hid (show V = val10 (cs.take K) from by rw [hVe, hKe])
          rw [← hVe] at hVJ ⊢
          have hKk : K + p = kN := by have := HKP.out; omega
          clear hVe HJ HJ2 HVJ hd HKP
          go_upto_region 8 with fail
          go_cut [90] (fun v wd => v = .bool (decide (rtB cs K V)) ∧ wr = wd)
          case first =>
            by_cases hK0 : K = 0
            · have hkp : kN = p := by omega
              subst hkp
              go_wp2
              go_meet
              case rel => exact ⟨by rw [show decide (rtB cs K V) = true from decide_eq_true (.inl hK0)], rfl⟩
            have hkpN : ¬ (kN : Int) = (p : Int) := by omega
            have hkpB : ((kN : Int) == (p : Int)) = false := by simpa using hkpN
            obtain ⟨f, hfe⟩ : ∃ f : Nat, f = s[p].toNat := ⟨_, rfl⟩
            have hfb : s[p].toNat = f := hfe.symm
            have HHD := hid (show cs.head? = some s[p] by
              rw [← HCS.out, List.head?_drop]
              exact at_opt s p hlt)
            have HFE := hid hfe
            clear hfe
            by_cases hf48 : (f : Int) = 48
            · have hf48B : ((f : Int) == 48) = true := by simpa using hf48
              have H48 := hid (show cs.head? = some 48 by
                rw [HHD.out]
                congr 1
                apply UInt8.toNat_inj.1
                have := HFE.out
                have e48 : (48 : UInt8).toNat = 48 := rfl
                omega)
              by_cases hK1 : 1 < K
              · have hgt : (p : Int) + 1 < (kN : Int) := by omega
                go_wp2
                go_meet
                case rel => exact ⟨by rw [show decide (rtB cs K V) = true from decide_eq_true (.inr (.inl ⟨H48.out, hK1⟩))], rfl⟩
              · have hgt : ¬ (p : Int) + 1 < (kN : Int) := by omega
                have HZ := hid (show ¬ (cs.head? = some 48 ∧ 1 < K) from fun e => hK1 e.2)
                by_cases h3 : (s.size : Int) ≤ (kN : Int)
                ·
                  go_wp2
                  go_meet
                  case rel => exact ⟨by rw [show decide (rtB cs K V) = true from decide_eq_true (.inr (.inr (.inl (by rw [← HCS.out, List.getElem?_drop, List.getElem?_eq_none (by rw [len_size]; omega)]; exact fun e => by cases e))))], rfl⟩
                have h3n : kN < s.size := by omega
                have HCK := hid (show cs[K]? = some s[kN] by
                  rw [← HCS.out, List.getElem?_drop, show p + K = kN by omega]
                  exact at_opt s kN h3n)
                obtain ⟨y, hye⟩ : ∃ y : Nat, y = s[kN].toNat := ⟨_, rfl⟩
                have hyb : s[kN].toNat = y := hye.symm
                have HYE := hid hye
                clear hye
                by_cases h4 : (y : Int) = 58
                · have h4B : ((y : Int) != 58) = false := by simpa using h4
                  have H58 := hid (show cs[K]? = some 58 by
                    rw [HCK.out]
                    congr 1
                    apply UInt8.toNat_inj.1
                    have := HYE.out
                    have e58 : (58 : UInt8).toNat = 58 := rfl
                    omega)
                  by_cases h5 : (s.size : Int) - (kN : Int) - 1 ≤ (V : Int)
                  ·
                    go_wp2
                    go_meet
                    case rel => exact ⟨by rw [show decide (rtB cs K V) = true from decide_eq_true (.inr (.inr (.inr (.inl (by have h9 := HLC.out; omega)))))], rfl⟩
                  have h6n : kN + 1 + V < s.size := by omega
                  have HCZ := hid (show cs[K + 1 + V]? = some s[kN + 1 + V] by
                    rw [← HCS.out, List.getElem?_drop, show p + (K + 1 + V) = kN + 1 + V by omega]
                    exact at_opt s (kN + 1 + V) h6n)
                  obtain ⟨z, hze⟩ : ∃ z : Nat, z = s[kN + 1 + V].toNat := ⟨_, rfl⟩
                  obtain ⟨m6, hm6⟩ : ∃ m6 : Nat, m6 = kN + 1 + V := ⟨_, rfl⟩
                  have hm7 : m6 < s.size := by omega
                  have hzb : s[m6].toNat = z := by rw [hze]; congr 1; simp [hm6]
                  have HZE := hid hze
                  clear hze
                  have hm8 : (kN : Int) + 1 + (V : Int) = (m6 : Int) := by omega
                  have HM6 := hid hm6
                  clear hm6
                  by_cases h7 : (z : Int) = 44
                  · have h7B : ((z : Int) != 44) = false := by simpa using h7
                    have H44 := hid (show cs[K + 1 + V]? = some 44 by
                      rw [HCZ.out]
                      congr 1
                      apply UInt8.toNat_inj.1
                      have := HZE.out
                      have e44 : (44 : UInt8).toNat = 44 := rfl
                      omega)
                    have HNB := hid (show ¬ rtB cs K V by
                      rintro (e | e | e | e | e)
                      · exact hK0 e
                      · exact HZ.out e
                      · exact e H58.out
                      · have h9 := HLC.out
                        omega
                      · exact e H44.out)
                    go_wp2
                    go_meet
                    case rel => exact ⟨by rw [show decide (rtB cs K V) = false from decide_eq_false HNB.out], rfl⟩
                  · have h7B : ((z : Int) != 44) = true := by simpa using h7
                    go_wp2
                    go_meet
                    case rel => exact ⟨by rw [show decide (rtB cs K V) = true from decide_eq_true (.inr (.inr (.inr (.inr (by rw [HCZ.out]; intro e; have e2 := congrArg UInt8.toNat (Option.some.inj e); have := HZE.out; have e44 : (44 : UInt8).toNat = 44 := rfl; omega)))))], rfl⟩
                · have h4B : ((y : Int) != 58) = true := by simpa using h4
                  go_wp2
                  go_meet
                  case rel => exact ⟨by rw [show decide (rtB cs K V) = true from decide_eq_true (.inr (.inr (.inl (by rw [HCK.out]; intro e; have e2 := congrArg UInt8.toNat (Option.some.inj e); have := HYE.out; have e58 : (58 : UInt8).toNat = 58 := rfl; omega))))], rfl⟩
            · have hf48B : ((f : Int) == 48) = false := by simpa using hf48
              have HZ := hid (show ¬ (cs.head? = some 48 ∧ 1 < K) from fun e => by
                rw [HHD.out] at e
                have e2 := congrArg UInt8.toNat (Option.some.inj e.1)
                have := HFE.out
                have e48 : (48 : UInt8).toNat = 48 := rfl
                omega)
              by_cases h3 : (s.size : Int) ≤ (kN : Int)
              ·
                go_wp2
                go_meet
                case rel => exact ⟨by rw [show decide (rtB cs K V) = true from decide_eq_true (.inr (.inr (.inl (by rw [← HCS.out, List.getElem?_drop, List.getElem?_eq_none (by rw [len_size]; omega)]; exact fun e => by cases e))))], rfl⟩
              have h3n : kN < s.size := by omega
              have HCK := hid (show cs[K]? = some s[kN] by
                rw [← HCS.out, List.getElem?_drop, show p + K = kN by omega]
                exact at_opt s kN h3n)
              obtain ⟨y, hye⟩ : ∃ y : Nat, y = s[kN].toNat := ⟨_, rfl⟩
              have hyb : s[kN].toNat = y := hye.symm
              have HYE := hid hye
              clear hye
              by_cases h4 : (y : Int) = 58
              · have h4B : ((y : Int) != 58) = false := by simpa using h4
                have H58 := hid (show cs[K]? = some 58 by
                  rw [HCK.out]
                  congr 1
                  apply UInt8.toNat_inj.1
                  have := HYE.out
                  have e58 : (58 : UInt8).toNat = 58 := rfl
                  omega)
                by_cases h5 : (s.size : Int) - (kN : Int) - 1 ≤ (V : Int)
                ·
                  go_wp2
                  go_meet
                  case rel => exact ⟨by rw [show decide (rtB cs K V) = true from decide_eq_true (.inr (.inr (.inr (.inl (by have h9 := HLC.out; omega)))))], rfl⟩
                have h6n : kN + 1 + V < s.size := by omega
                have HCZ := hid (show cs[K + 1 + V]? = some s[kN + 1 + V] by
                  rw [← HCS.out, List.getElem?_drop, show p + (K + 1 + V) = kN + 1 + V by omega]
                  exact at_opt s (kN + 1 + V) h6n)
                obtain ⟨z, hze⟩ : ∃ z : Nat, z = s[kN + 1 + V].toNat := ⟨_, rfl⟩
                obtain ⟨m6, hm6⟩ : ∃ m6 : Nat, m6 = kN + 1 + V := ⟨_, rfl⟩
                have hm7 : m6 < s.size := by omega
                have hzb : s[m6].toNat = z := by rw [hze]; congr 1; simp [hm6]
                have HZE := hid hze
                clear hze
                have hm8 : (kN : Int) + 1 + (V : Int) = (m6 : Int) := by omega
                have HM6 := hid hm6
                clear hm6
                by_cases h7 : (z : Int) = 44
                · have h7B : ((z : Int) != 44) = false := by simpa using h7
                  have H44 := hid (show cs[K + 1 + V]? = some 44 by
                    rw [HCZ.out]
                    congr 1
                    apply UInt8.toNat_inj.1
                    have := HZE.out
                    have e44 : (44 : UInt8).toNat = 44 := rfl
                    omega)
                  have HNB := hid (show ¬ rtB cs K V by
                    rintro (e | e | e | e | e)
                    · exact hK0 e
                    · exact HZ.out e
                    · exact e H58.out
                    · have h9 := HLC.out
                      omega
                    · exact e H44.out)
                  go_wp2
                  go_meet
                  case rel => exact ⟨by rw [show decide (rtB cs K V) = false from decide_eq_false HNB.out], rfl⟩
                · have h7B : ((z : Int) != 44) = true := by simpa using h7
                  go_wp2
                  go_meet
                  case rel => exact ⟨by rw [show decide (rtB cs K V) = true from decide_eq_true (.inr (.inr (.inr (.inr (by rw [HCZ.out]; intro e; have e2 := congrArg UInt8.toNat (Option.some.inj e); have := HZE.out; have e44 : (44 : UInt8).toNat = 44 := rfl; omega)))))], rfl⟩
              · have h4B : ((y : Int) != 58) = true := by simpa using h4
                go_wp2
                go_meet
                case rel => exact ⟨by rw [show decide (rtB cs K V) = true from decide_eq_true (.inr (.inr (.inl (by rw [HCK.out]; intro e; have e2 := congrArg UInt8.toNat (Option.some.inj e); have := HYE.out; have e58 : (58 : UInt8).toNat = 58 := rfl; omega))))], rfl⟩
          obtain ⟨rfl, rfl⟩ := hcut
          cases hbad : decide (rtB cs K V) with
          | true =>
            have HE := hid (show X = .error p by
              rw [← HO.out, unF, if_neg hcs, rt_bad cs K V HKd.out HVd.out (of_decide_eq_true hbad)]
              rfl)
            clear HO hbad
            go_wp2
            refine bodyPost_ret (results_tmp3 rfl _ _ _) rfl ?_
            exact ⟨_, by rw [HE.out]; rfl, by rw [HE.out]; exact (OwS.nil _).still OW.out.touch⟩
          | false =>
            have HT := hid (rt_ok cs K V HKd.out HVd.out (of_decide_eq_false hbad))
            have HBD := hid (rt_in cs K V HKd.out HVd.out (of_decide_eq_false hbad))
            have hin : kN + 2 + V ≤ s.size := by have h1 := HBD.out; have h2 := HLC.out; omega
            rw [unF_step G p cs _ _ hcs HT.out o] at HO
            have hl := tk_eq HT.out
            have HEX := hid (show s.extract (kN + 1) (kN + 1 + V) = ⟨((cs.drop (K + 1)).take V).toArray⟩ from ba_eq (by
              rw [ext_list, ← HCS.out, List.drop_drop, show kN + 1 + V - (kN + 1) = V by omega, show p + (K + 1) = kN + 1 by omega]))
            have HPK := hid (show p + (pk ((cs.drop (K + 1)).take V)).length = kN + 2 + V by
              rw [List.length_drop] at hl
              have h2 := HLC.out
              omega)
            have HDR := hid (show cs.drop (K + 2 + V) = s.data.toList.drop (kN + 2 + V) by
              rw [← HCS.out, List.drop_drop, show p + (K + 2 + V) = kN + 2 + V by omega])
            rw [HPK.out, HDR.out] at HO
            clear hl HT HPK HDR
            obtain ⟨T, hT⟩ : ∃ T, T = s.extract (kN + 1) (kN + 1 + V) := ⟨_, rfl⟩
            have HTD := hid (show (cs.drop (K + 1)).take V = T.data.toList by rw [hT, HEX.out])
            rw [HTD.out] at HO
            obtain ⟨x1, hx1⟩ : ∃ x1 : Nat, x1 = kN + 1 := ⟨_, rfl⟩
            obtain ⟨x2, hx2⟩ : ∃ x2 : Nat, x2 = kN + 1 + V := ⟨_, rfl⟩
            rw [← hx2, ← hx1] at hT
            have e1 : (kN : Int) + 1 = (x1 : Int) := by omega
            have e2 : (x1 : Int) + (V : Int) = (x2 : Int) := by omega
            have e3 : (x1 : Int) ≤ (x2 : Int) := by omega
            have e4 : (x2 : Int) ≤ (s.size : Int) := by omega
            obtain ⟨x3, hx3⟩ : ∃ x3 : Nat, x3 = kN + 2 := ⟨_, rfl⟩
            obtain ⟨x4, hx4⟩ : ∃ x4 : Nat, x4 = kN + 2 + V := ⟨_, rfl⟩
            rw [← hx4] at HO
            have e5 : (kN : Int) + 2 = (x3 : Int) := by omega
            have e6 : (x3 : Int) + (V : Int) = (x4 : Int) := by omega
            have hx4b : x4 ≤ s.size := by omega
            have hx4c : p + 2 ≤ x4 := by omega
            have hT2 : s.extract x1 x2 = T := hT.symm
            clear hT hx1 hx2 hx3 hx4 HEX HTD hin HBD hKk
            go_wp2_with (at_builtin; refine wpList_append_own_at _ rfl _ _ 24 rfl 0 9 i0 (.string ⟨#[]⟩) 1 16 Tryd.underlying24 hi hz0 hz1 hz2 rfl (by decide) _ _ _ rfl (OW.out.own.alloc _) ⟨wr.heap.size, 0, none⟩ 1 1 [.string T] rfl rfl (row_new wr [.string T] 9) (by intro u hu; simp at hu; subst hu; rfl) (by unfold maxLen; omega) (by omega) (Nat.zero_le _) ?_)
            intro v4' w4 hown hgrow _ hat
            have P4 := hid (OW.out.more (xs := [T.data.toList]) hown hgrow hat)
            clear hown hgrow hat
            go_wp2
            go_roundg G
            case measure => omega
            case rel => exact ⟨x4, o ++ [T.data.toList], by omega, by omega, by simp; omega, rfl, HO, P4.out⟩
    · have hltI : ¬ (p : Int) < (s.size : Int) := by omega
      have HX2 := hid (show X = .ok o by
        rw [← HO.out, List.drop_eq_nil_of_le (by rw [len_size]; omega), unF, if_pos rfl]
        show Except.ok (o ++ []) = _
        rw [List.append_nil])
      clear HO
      go_wp2
      refine bodyPost_ret (results_tmp3 rfl _ _ _) rfl ?_
      exact ⟨_, by rw [HX2.out]; rfl, by rw [HX2.out]; exact OW.out⟩
end Go.Proofs.YtmeekjfnmdbnpaaDoor
