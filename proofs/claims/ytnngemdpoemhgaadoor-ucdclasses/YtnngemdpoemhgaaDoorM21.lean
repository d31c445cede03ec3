/- Texts of this proof, one behind the other: what each says stands ahead of it. -/
import Derived.Test.YtnngemdpoemhgaaDoorM16
/- UcdClasses, the walk at one letter; condition: the two tables lie there. -/
namespace Go.Proofs.YtnngemdpoemhgaaDoor
open Go.RowKit

set_option maxRecDepth 100000 in
set_option maxHeartbeats 16000000 in
theorem classes_perl_W (s : ByteArray) (r : Int) (w : World) (ht : Tabs w) : Calls Tryd.prog 7 #[.string s, .int .i64 r, .int .u8 87] w fun e w' => e = .returned (.bool true) ∧ Touch (fun _ => False) w w' := by
  have HT := hid ht
  clear ht
  go_enter Tryd.func7, Tryd.ntmps7
  go_wp2_with fail
  refine (speaks_yes w HT.out).mono ?_
  rintro e w1 ⟨rfl, tc⟩
  have T := hid tc
  clear tc HT
  go_wp2_with fail
  refine (class_all s w1).mono ?_
  rintro e w2 ⟨v, n, rfl, hcn, hin, ow⟩
  replace T := hid (T.out.trans ow.touch (fun _ _ e => e))
  obtain ⟨na, nc, hv, hrn⟩ := ow.rg
  subst hv
  have CN := hid hcn
  have RN := hid hrn
  have HN := hid hin
  clear ow hcn hin hrn
  go_upto_region 4 with fail
  go_cut [9] (fun v wd => v = .bool (kn s 0) ∧ w2 = wd)
  case first =>
    cases h1 : (s.toList == [65, 110, 121])
    · cases h2 : (s.toList == [76])
      · cases h3 : (s.toList == [78])
        · have HK := hid (show kn s 0 = false by unfold kn; rw [h1, h2, h3]; rfl)
          go_wp2
          go_meet
          case rel => exact ⟨by rw [HK.out], rfl⟩
        · have HK := hid (show kn s 0 = true by unfold kn; rw [h1, h2, h3]; rfl)
          go_wp2
          go_meet
          case rel => exact ⟨by rw [HK.out], rfl⟩
      · have HK := hid (show kn s 0 = true by unfold kn; rw [h1, h2]; rfl)
        go_wp2
        go_meet
        case rel => exact ⟨by rw [HK.out], rfl⟩
    · have HK := hid (show kn s 0 = true by unfold kn; rw [h1]; rfl)
      go_wp2
      go_meet
      case rel => exact ⟨by rw [HK.out], rfl⟩
  obtain ⟨rfl, rfl⟩ := hcut
  go_wp2_with fail
  refine (refNames_any w2).mono ?_
  rintro e w3 ⟨lb, lc, rfl, hns, tc⟩
  replace T := hid (T.out.trans tc (fun _ _ e => e))
  replace RN := hid (RN.out.new tc)
  have NS := hid hns
  clear tc hns
  go_wp2_with fail
  go_loopg [9, 11] 15 (fun gk v i wr => ∃ k : Nat, k + gk = 15 ∧ i = .int .i64 (k : Nat) ∧ v = .bool (kn s k) ∧ w3 = wr)
  case atStart => exact ⟨0, rfl, rfl, rfl, rfl⟩
  case round =>
    obtain ⟨k, hk, rfl, rfl, rfl⟩ := hrel
    by_cases hlt : k < 15
    · obtain ⟨p, hp⟩ : ∃ p, refN[k]? = some p := ⟨refN[k]'(by simpa [refN] using hlt), List.getElem?_eq_getElem _⟩
      have c0 := NS.out.2 k p hp
      have HST := hid (kn_step s k p hp)
      have hkI : (k : Int) < 15 := by omega
      clear hp
      generalize hb : (p.toList == s.toList) = b at *
      have HB := hid hb
      cases hq : kn s k
      · rw [hq] at HST
        cases b
        · go_wp2_with fail
          go_roundg (gk - 1)
          case measure => omega
          case rel => exact ⟨k + 1, by omega, by go_num, by rw [HST.out]; rfl, rfl⟩
        · go_wp2_with fail
          go_roundg (gk - 1)
          case measure => omega
          case rel => exact ⟨k + 1, by omega, by go_num, by rw [HST.out]; rfl, rfl⟩
      · rw [hq] at HST
        clear hb
        go_wp2_with fail
        go_roundg (gk - 1)
        case measure => omega
        case rel => exact ⟨k + 1, by omega, by go_num, by rw [HST.out]; rfl, rfl⟩
    · obtain rfl : k = 15 := by omega
      obtain ⟨K, hK⟩ : ∃ K, kn s 15 = K := ⟨_, rfl⟩
      have HK := hid hK
      rw [hK]
      clear hK
      obtain ⟨X, hX⟩ : ∃ X, (decide (0 ≤ r ∧ r ≤ 1114111) && hasB r (lOf s)) = X := ⟨_, rfl⟩
      have KH := hid (has_says na nc n r w3 RN.out CN.out)
      rw [has_law (neg := false) HN.out] at KH
      simp only [Bool.false_eq_true, if_false] at KH
      rw [hX] at KH
      have HX := hid hX
      clear hX
      go_upto_region 10 with fail
      go_cut [76] (fun v wd => v = .bool false ∧ Touch (fun _ => False) w3 wd)
      case first =>
        cases K
        · have hl := lOf_unknown HK.out
          obtain rfl : n = [] := canon_one CN.out ⟨by simp, .nil⟩ (fun x => by
            rw [HN.out x, hl]
            exact ⟨fun q => absurd q.2 (in_nil x), fun q => absurd q (in_nil x)⟩)
          have hX0 : X = false := by rw [← HX.out, hl]; simp [hasB]
          subst hX0
          clear hl
          go_wp2_with fail
          refine KH.out.mono ?_
          rintro e w4 ⟨rfl, tq⟩
          have TQ := hid tq
          clear tq KH
          go_wp2
          go_meet
          case rel => exact ⟨rfl, TQ.out⟩
        · have KI := hid (fun wq => in_all s HK.out r wq)
          go_wp2_with fail
          refine KH.out.mono ?_
          rintro e w4 ⟨rfl, tq⟩
          have TQ := hid tq
          clear tq KH
          go_wp2_with fail
          refine (KI.out w4).mono ?_
          rintro e w5 ⟨he, tq⟩
          simp only [Bool.false_eq_true, if_false] at he
          rw [HX.out] at he
          subst he
          replace TQ := hid (TQ.out.trans tq (fun _ _ e => e))
          clear tq KI
          cases X
          · go_wp2
            go_meet
            case rel => exact ⟨rfl, TQ.out⟩
          · go_wp2
            go_meet
            case rel => exact ⟨rfl, TQ.out⟩
      obtain ⟨rfl, tcw⟩ := hcut
      have TW := hid (T.out.trans tcw (fun _ _ e => e))
      clear tcw KH T RN NS HX HK HN CN
      · go_wp2_with fail
        refine (perl_W wc).mono ?_
        rintro e w4 ⟨v, p, rfl, hcp, hip, owp⟩
        obtain ⟨pa, pc, hv, hrp⟩ := owp.rg
        subst hv
        have T4 := hid (TW.out.trans owp.touch (fun _ _ e => e))
        have KH := hid (has_says pa pc p r w4 hrp hcp)
        rw [has_law (neg := true) hip] at KH
        have KI := hid (fun wq => in_W r wq)
        simp only [if_true] at KH
        clear owp hcp hip hrp
        generalize hY : (!hasB r lW) = Y at *
        go_upto_region 14 with fail
        go_cut [137] (fun v wd => v = .bool false ∧ Touch (fun _ => False) w4 wd)
        case first =>
          rcases out_cases r with ⟨h0, h1, hd⟩ | ⟨h0, hd⟩ | ⟨h0, h1, hd⟩
          · rw [hd] at KH
            have HD := hid hd
            clear hd
            go_wp2_with fail
            refine KH.out.mono ?_
            rintro e w5 ⟨he, tq⟩
            simp only [Bool.true_and] at he
            subst he
            have TQ := hid tq
            clear tq KH
            go_wp2_with fail
            rw [conv1 w5 _]
            go_wp2_with fail
            change Calls Tryd.prog 23 #[.string ⟨#[87]⟩, .int .i64 r] _ _
            refine (KI.out _).mono ?_
            rintro e w6 ⟨he, tq⟩
            rw [HD.out] at he
            simp only [if_true, Bool.true_and] at he
            subst he
            replace TQ := hid ((TQ.out.alloc (.cells #[.int .u8 87] 5)).trans tq (fun _ _ e => e))
            clear tq KI hY
            cases Y
            · go_wp2
              go_meet
              case rel => exact ⟨rfl, TQ.out⟩
            · go_wp2
              go_meet
              case rel => exact ⟨rfl, TQ.out⟩
          · rw [hd] at KH
            clear hd KI
            go_wp2_with fail
            refine KH.out.mono ?_
            rintro e w5 ⟨he, tq⟩
            simp only [Bool.false_and] at he
            subst he
            have TQ := hid tq
            clear tq KH
            go_wp2
            go_meet
            case rel => exact ⟨rfl, TQ.out⟩
          · rw [hd] at KH
            clear hd KI
            have hd2 : decide (r ≤ 1114111) = false := decide_eq_false (by omega)
            go_wp2_with fail
            refine KH.out.mono ?_
            rintro e w5 ⟨he, tq⟩
            simp only [Bool.false_and] at he
            subst he
            have TQ := hid tq
            clear tq KH
            go_wp2
            go_meet
            case rel => exact ⟨rfl, TQ.out⟩
        obtain ⟨rfl, tcz⟩ := hcut
        have TX := hid (T4.out.trans tcz (fun _ _ e => e))
        clear tcz KH KI T4 hY
        go_wp2_with fail
        refine (names_any wc).mono ?_
        rintro e w7 ⟨nb, nnc, rfl, hns, tq⟩
        have NS := hid hns
        have T7 := hid (TX.out.trans tq (fun _ _ e => e))
        clear hns tq
        go_wp2_with fail
        go_loopg [16] 17 (fun gk i wr => ∃ k : Nat, k + gk = 17 ∧ i = .int .i64 ((k + 1 : Nat) : Int) ∧ Touch (fun _ => False) w7 wr)
        case atStart => exact ⟨0, rfl, rfl, Touch.refl _ _⟩
        case round =>
          obtain ⟨k, hk, rfl, htc⟩ := hrel
          have TR := hid htc
          have NR := hid (NS.out.new htc)
          clear htc
          by_cases hlt : k < 17
          · obtain ⟨p, hp⟩ : ∃ p, names18[k]? = some p := ⟨names18[k]'(by simp [names18, tableN]; omega), List.getElem?_eq_getElem _⟩
            obtain ⟨q, hq⟩ : ∃ q, names18[k + 1]? = some q := ⟨names18[k + 1]'(by simp [names18, tableN]; omega), List.getElem?_eq_getElem _⟩
            have c0 := NR.out.2 k p hp
            have c1 := NR.out.2 (k + 1) q hq
            have hbl := rise_at k hlt p q hp hq
            have hkI : ((k + 1 : Nat) : Int) < 18 := by omega
            clear hp hq
            go_wp2_with fail
            go_quiet (fail)
            go_wp2
            go_roundg (gk - 1)
            case measure => omega
            case rel => exact ⟨k + 1, by omega, by go_num, TR.out.drewN _⟩
          · obtain rfl : k = 17 := by omega
            go_wp2_with fail
            go_loopg [17] 18 (fun gk i wr => ∃ k : Nat, k + gk = 18 ∧ i = .int .i64 (k : Nat) ∧ Touch (fun _ => False) w7 wr)
            case atStart => exact ⟨0, rfl, rfl, TR.out⟩
            case round =>
              obtain ⟨k, hk, rfl, htc⟩ := hrel
              have TR2 := hid htc
              have NR2 := hid (NS.out.new htc)
              clear htc
              by_cases hlt : k < 18
              · obtain ⟨p, hp⟩ : ∃ p, names18[k]? = some p := ⟨names18[k]'(by simp [names18, tableN]; omega), List.getElem?_eq_getElem _⟩
                have c0 := NR2.out.2 k p hp
                have KC := hid (class_all p wr)
                rw [names_known k p hp] at KC
                have hkI : (k : Int) < 18 := by omega
                clear hp
                go_wp2_with fail
                refine KC.out.mono ?_
                rintro e w8 ⟨v, n', rfl, _, _, ow⟩
                have T8 := hid (TR2.out.trans ow.touch (fun _ _ e => e))
                obtain ⟨va, vc, hv⟩ := own_shape ow.own
                subst hv
                clear ow KC
                go_wp2_with fail
                go_roundg (gk - 1)
                case measure => omega
                case rel => exact ⟨k + 1, by omega, by go_num, T8.out⟩
              · obtain rfl : k = 18 := by omega
                go_wp2
                go_ret
                exact ⟨rfl, T7.out.trans TR2.out (fun _ _ e => e)⟩
end Go.Proofs.YtnngemdpoemhgaaDoor
