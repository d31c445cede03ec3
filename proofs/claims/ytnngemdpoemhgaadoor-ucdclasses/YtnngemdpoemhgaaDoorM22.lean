/- Texts of this proof, one behind the other: what each says stands ahead of it. -/
import Derived.Test.YtnngemdpoemhgaaDoorM16
import Derived.Test.YtnngemdpoemhgaaDoorM17
import Derived.Test.YtnngemdpoemhgaaDoorM18
import Derived.Test.YtnngemdpoemhgaaDoorM19
import Derived.Test.YtnngemdpoemhgaaDoorM20
import Derived.Test.YtnngemdpoemhgaaDoorM21
/- UcdClasses, the walk at a byte that is no letter of Perl; condition: the two tables lie there. -/
namespace Go.Proofs.YtnngemdpoemhgaaDoor
open Go.RowKit

set_option maxRecDepth 100000 in
set_option maxHeartbeats 16000000 in
theorem classes_other (s : ByteArray) (r c : Int) (w : World) (h1 : c ≠ 100) (h2 : c ≠ 115) (h3 : c ≠ 119) (h4 : c ≠ 68) (h5 : c ≠ 83) (h6 : c ≠ 87) (ht : Tabs w) : Calls Tryd.prog 7 #[.string s, .int .i64 r, .int .u8 c] w fun e w' => e = .returned (.bool true) ∧ Touch (fun _ => False) w w' := by
  have HT := hid ht
  have D1 := hid h1
  have D2 := hid h2
  have D3 := hid h3
  have D4 := hid h4
  have D5 := hid h5
  have D6 := hid h6
  clear h1 h2 h3 h4 h5 h6
  clear ht
  go_enter Tryd.func7, Tryd.ntmps7
  go_wp2_with fail
  refine (speaks_yes w HT.out).mono ?_
  rintro e w1 ⟨rfl, tc⟩
  have T := hid tc
  clear tc HT
  go_wp2_with fail
  refine (class_all s w1).mono ?_
  rintro e w2 ⟨v, n, rfl, hcn, hin, ow⟩
  replace T := hid (T.out.trans ow.touch (fun _ _ e => e))
  obtain ⟨na, nc, hv, hrn⟩ := ow.rg
  subst hv
  have CN := hid hcn
  have RN := hid hrn
  have HN := hid hin
  clear ow hcn hin hrn
  go_upto_region 4 with fail
  go_cut [9] (fun v wd => v = .bool (kn s 0) ∧ w2 = wd)
  case first =>
    cases q1 : (s.toList == [65, 110, 121])
    · cases q2 : (s.toList == [76])
      · cases q3 : (s.toList == [78])
        · have HK := hid (show kn s 0 = false by unfold kn; rw [q1, q2, q3]; rfl)
          go_wp2
          go_meet
          case rel => exact ⟨by rw [HK.out], rfl⟩
        · have HK := hid (show kn s 0 = true by unfold kn; rw [q1, q2, q3]; rfl)
          go_wp2
          go_meet
          case rel => exact ⟨by rw [HK.out], rfl⟩
      · have HK := hid (show kn s 0 = true by unfold kn; rw [q1, q2]; rfl)
        go_wp2
        go_meet
        case rel => exact ⟨by rw [HK.out], rfl⟩
    · have HK := hid (show kn s 0 = true by unfold kn; rw [q1]; rfl)
      go_wp2
      go_meet
      case rel => exact ⟨by rw [HK.out], rfl⟩
  obtain ⟨rfl, rfl⟩ := hcut
  go_wp2_with fail
  refine (refNames_any w2).mono ?_
  rintro e w3 ⟨lb, lc, rfl, hns, tc⟩
  replace T := hid (T.out.trans tc (fun _ _ e => e))
  replace RN := hid (RN.out.new tc)
  have NS := hid hns
  clear tc hns
  go_wp2_with fail
  go_loopg [9, 11] 15 (fun gk v i wr => ∃ k : Nat, k + gk = 15 ∧ i = .int .i64 (k : Nat) ∧ v = .bool (kn s k) ∧ w3 = wr)
  case atStart => exact ⟨0, rfl, rfl, rfl, rfl⟩
  case round =>
    obtain ⟨k, hk, rfl, rfl, rfl⟩ := hrel
    by_cases hlt : k < 15
    · obtain ⟨p, hp⟩ : ∃ p, refN[k]? = some p := ⟨refN[k]'(by simpa [refN] using hlt), List.getElem?_eq_getElem _⟩
      have c0 := NS.out.2 k p hp
      have HST := hid (kn_step s k p hp)
      have hkI : (k : Int) < 15 := by omega
      clear hp
      generalize hb : (p.toList == s.toList) = b at *
      have HB := hid hb
      cases hq : kn s k
      · rw [hq] at HST
        cases b
        · go_wp2_with fail
          go_roundg (gk - 1)
          case measure => omega
          case rel => exact ⟨k + 1, by omega, by go_num, by rw [HST.out]; rfl, rfl⟩
        · go_wp2_with fail
          go_roundg (gk - 1)
          case measure => omega
          case rel => exact ⟨k + 1, by omega, by go_num, by rw [HST.out]; rfl, rfl⟩
      · rw [hq] at HST
        clear hb
        go_wp2_with fail
        go_roundg (gk - 1)
        case measure => omega
        case rel => exact ⟨k + 1, by omega, by go_num, by rw [HST.out]; rfl, rfl⟩
    · obtain rfl : k = 15 := by omega
      obtain ⟨K, hK⟩ : ∃ K, kn s 15 = K := ⟨_, rfl⟩
      have HK := hid hK
      rw [hK]
      clear hK
      obtain ⟨X, hX⟩ : ∃ X, (decide (0 ≤ r ∧ r ≤ 1114111) && hasB r (lOf s)) = X := ⟨_, rfl⟩
      have KH := hid (has_says na nc n r w3 RN.out CN.out)
      rw [has_law (neg := false) HN.out] at KH
      simp only [Bool.false_eq_true, if_false] at KH
      rw [hX] at KH
      have HX := hid hX
      clear hX
      go_upto_region 10 with fail
      go_cut [76] (fun v wd => v = .bool false ∧ Touch (fun _ => False) w3 wd)
      case first =>
        cases K
        · have hl := lOf_unknown HK.out
          obtain rfl : n = [] := canon_one CN.out ⟨by simp, .nil⟩ (fun x => by
            rw [HN.out x, hl]
            exact ⟨fun q => absurd q.2 (in_nil x), fun q => absurd q (in_nil x)⟩)
          have hX0 : X = false := by rw [← HX.out, hl]; simp [hasB]
          subst hX0
          clear hl
          go_wp2_with fail
          refine KH.out.mono ?_
          rintro e w4 ⟨rfl, tq⟩
          have TQ := hid tq
          clear tq KH
          go_wp2
          go_meet
          case rel => exact ⟨rfl, TQ.out⟩
        · have KI := hid (fun wq => in_all s HK.out r wq)
          go_wp2_with fail
          refine KH.out.mono ?_
          rintro e w4 ⟨rfl, tq⟩
          have TQ := hid tq
          clear tq KH
          go_wp2_with fail
          refine (KI.out w4).mono ?_
          rintro e w5 ⟨he, tq⟩
          simp only [Bool.false_eq_true, if_false] at he
          rw [HX.out] at he
          subst he
          replace TQ := hid (TQ.out.trans tq (fun _ _ e => e))
          clear tq KI
          cases X
          · go_wp2
            go_meet
            case rel => exact ⟨rfl, TQ.out⟩
          · go_wp2
            go_meet
            case rel => exact ⟨rfl, TQ.out⟩
      obtain ⟨rfl, tcw⟩ := hcut
      have TW := hid (T.out.trans tcw (fun _ _ e => e))
      clear tcw KH T RN NS HX HK HN CN
      · have h1 := D1.out
        have h2 := D2.out
        have h3 := D3.out
        have h4 := D4.out
        have h5 := D5.out
        have h6 := D6.out
        have g1 : (c == 100) = false := by simp [h1]
        have g2 : (c == 115) = false := by simp [h2]
        have g3 : (c == 119) = false := by simp [h3]
        have g4 : (c == 68) = false := by simp [h4]
        have g5 : (c == 83) = false := by simp [h5]
        have g6 : (c == 87) = false := by simp [h6]
        have KP := hid (perl_none c wc h1 h2 h3 h4 h5 h6)
        clear h1 h2 h3 h4 h5 h6
        go_wp2_with fail
        refine KP.out.mono ?_
        rintro e w4 ⟨rfl, rfl⟩
        clear KP
        go_wp2_with fail
        refine (names_any w4).mono ?_
        rintro e w7 ⟨nb, nnc, rfl, hns, tq⟩
        have NS := hid hns
        have T7 := hid (TW.out.trans tq (fun _ _ e => e))
        clear hns tq
        go_wp2_with fail
        go_loopg [16] 17 (fun gk i wr => ∃ k : Nat, k + gk = 17 ∧ i = .int .i64 ((k + 1 : Nat) : Int) ∧ Touch (fun _ => False) w7 wr)
        case atStart => exact ⟨0, rfl, rfl, Touch.refl _ _⟩
        case round =>
          obtain ⟨k, hk, rfl, htc⟩ := hrel
          have TR := hid htc
          have NR := hid (NS.out.new htc)
          clear htc
          by_cases hlt : k < 17
          · obtain ⟨p, hp⟩ : ∃ p, names18[k]? = some p := ⟨names18[k]'(by simp [names18, tableN]; omega), List.getElem?_eq_getElem _⟩
            obtain ⟨q, hq⟩ : ∃ q, names18[k + 1]? = some q := ⟨names18[k + 1]'(by simp [names18, tableN]; omega), List.getElem?_eq_getElem _⟩
            have c0 := NR.out.2 k p hp
            have c1 := NR.out.2 (k + 1) q hq
            have hbl := rise_at k hlt p q hp hq
            have hkI : ((k + 1 : Nat) : Int) < 18 := by omega
            clear hp hq
            go_wp2_with fail
            go_quiet (fail)
            go_wp2
            go_roundg (gk - 1)
            case measure => omega
            case rel => exact ⟨k + 1, by omega, by go_num, TR.out.drewN _⟩
          · obtain rfl : k = 17 := by omega
            go_wp2_with fail
            go_loopg [17] 18 (fun gk i wr => ∃ k : Nat, k + gk = 18 ∧ i = .int .i64 (k : Nat) ∧ Touch (fun _ => False) w7 wr)
            case atStart => exact ⟨0, rfl, rfl, TR.out⟩
            case round =>
              obtain ⟨k, hk, rfl, htc⟩ := hrel
              have TR2 := hid htc
              have NR2 := hid (NS.out.new htc)
              clear htc
              by_cases hlt : k < 18
              · obtain ⟨p, hp⟩ : ∃ p, names18[k]? = some p := ⟨names18[k]'(by simp [names18, tableN]; omega), List.getElem?_eq_getElem _⟩
                have c0 := NR2.out.2 k p hp
                have KC := hid (class_all p wr)
                rw [names_known k p hp] at KC
                have hkI : (k : Int) < 18 := by omega
                clear hp
                go_wp2_with fail
                refine KC.out.mono ?_
                rintro e w8 ⟨v, n', rfl, _, _, ow⟩
                have T8 := hid (TR2.out.trans ow.touch (fun _ _ e => e))
                obtain ⟨va, vc, hv⟩ := own_shape ow.own
                subst hv
                clear ow KC
                go_wp2_with fail
                go_roundg (gk - 1)
                case measure => omega
                case rel => exact ⟨k + 1, by omega, by go_num, T8.out⟩
              · obtain rfl : k = 18 := by omega
                go_wp2
                go_ret
                exact ⟨rfl, T7.out.trans TR2.out (fun _ _ e => e)⟩
end Go.Proofs.YtnngemdpoemhgaaDoor

/- UcdClasses, the walk at every byte; condition: the two tables lie there. -/
namespace Go.Proofs.YtnngemdpoemhgaaDoor
open Go.RowKit

theorem ucdClasses_walk (s : ByteArray) (r c : Int) (w : World) (ht : Tabs w) : Calls Tryd.prog 7 #[.string s, .int .i64 r, .int .u8 c] w fun e w' => e = .returned (.bool true) ∧ Touch (fun _ => False) w w' := by
  rcases (show c = 100 ∨ c = 115 ∨ c = 119 ∨ c = 68 ∨ c = 83 ∨ c = 87 ∨ (c ≠ 100 ∧ c ≠ 115 ∧ c ≠ 119 ∧ c ≠ 68 ∧ c ≠ 83 ∧ c ≠ 87) by omega) with rfl | rfl | rfl | rfl | rfl | rfl | ⟨h1, h2, h3, h4, h5, h6⟩
  · exact classes_perl_d s r w ht
  · exact classes_perl_s s r w ht
  · exact classes_perl_w s r w ht
  · exact classes_perl_D s r w ht
  · exact classes_perl_S s r w ht
  · exact classes_perl_W s r w ht
  · exact classes_other s r c w h1 h2 h3 h4 h5 h6 ht
end Go.Proofs.YtnngemdpoemhgaaDoor
