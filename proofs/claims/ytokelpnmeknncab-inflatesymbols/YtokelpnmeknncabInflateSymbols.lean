/- InflateSymbols: the length and the distance of every number are the document's, and each is told by one symbol and its bits; for every input. -/
import Derived.Test.YtokelpnmeknncabS3
import Derived.Test.YtokelpnmeknncabLr
import Derived.Test.YtokelpnmeknncabIc
import Derived.Test.YtokelpnmeknncabRows
import Derived.WalkKit
import Derived.ProofKit
import Derived.OpenShut
import Derived.ShutString
import Derived.ChangeOld
import Derived.Below
import Derived.SizedLaws
import Derived.Deep.DeepCutAuto
import Derived.Deep.CutRange
import Derived.Deep.LoopGhost
namespace Go.Proofs.Ytokelpnmeknncab
open Go.ChangeShapes Go.WideShapes Go.ChangeAt Go.RowKit
open Go.ChangeMaps (open_string shut_string)

theorem own : ownKnob Try.prog.godebug = none := by kernel_rfl
theorem cnt_no {p : Nat → Bool} {k : Nat} (h : p k = false) : cnt p (k + 1) = cnt p k := by rw [cnt, h]; rfl
theorem cnt_yes {p : Nat → Bool} {k : Nat} (h : p k = true) : cnt p (k + 1) = cnt p k + 1 := by rw [cnt, h]; rfl
theorem sum_val' (a e : Nat) (ha : a ≤ 40000) (he : e ≤ 13) : wrap64 ((a : Int) + wrap64 (2 ^ min e 64)) = ((a + 2 ^ e : Nat) : Int) := by
  rw [show min e 64 = e by omega]
  exact sum_val a e _ ha he rfl
theorem len_le (k : Nat) (h1 : 257 ≤ k) (h2 : k ≤ 285) : lenN k ≤ 40000 := by
  unfold lenN
  split
  · omega
  · have := ll_le (k - 257) (by omega)
    omega
theorem lb_le' (k : Nat) (h2 : k ≤ 285) : lb k ≤ 13 := by unfold lb; split <;> omega

set_option maxRecDepth 100000 in
set_option maxHeartbeats 4000000 in
theorem inflateSymbols_walk (x L D : Int) (w : World) (_h0 : (Lit.int .i64 x).wf = true) (_h1 : (Lit.int .i64 L).wf = true) (_h2 : (Lit.int .i64 D).wf = true) :
    Calls Try.prog 4 #[.int .i64 x, .int .i64 L, .int .i64 D] w fun e w' => e = .returned (.bool true) ∧ Below w.heap.size w w' := by
  go_enter Try.func4, Try.ntmps4
  go_wp2_with fail
  refine (speaks3_yes w).mono ?_
  rintro e w1 ⟨rfl, ht⟩
  have T1 := hid ht
  clear ht
  go_wp2_with fail
  refine (len_any x w1).mono ?_
  rintro e w2 ⟨⟨a, b, ok, rfl, h1⟩, rfl⟩
  go_wp2_with fail
  refine (rlen_any x w2).mono ?_
  rintro e w3 ⟨⟨a', b', ok', rfl, h2⟩, rfl⟩
  have hs : a' = a ∧ b' = b ∧ ok' = ok := by
    rcases h1 with ⟨g1, g2, g3, g4⟩ | ⟨g1, g2, g3, g4, g5⟩
    · rcases h2 with ⟨k1, k2, k3, k4⟩ | ⟨k1, k2, _⟩
      · exact ⟨by rw [g2, k2], by rw [g3, k3], by rw [g4, k4]⟩
      · exact absurd ⟨k1, k2⟩ g1
    · rcases h2 with ⟨k1, _⟩ | ⟨_, _, k3, k4, k5⟩
      · exact absurd ⟨g1, g2⟩ k1
      · exact ⟨by rw [g3, k3], by rw [g4, k4], by rw [g5, k5]⟩
  obtain ⟨rfl, rfl, rfl⟩ := hs
  clear h1 h2
  go_wp2_with fail
  refine (dist_any x w3).mono ?_
  rintro e w4 ⟨⟨c, d, oc, rfl, h1⟩, rfl⟩
  go_wp2_with fail
  refine (rdist_any x w4).mono ?_
  rintro e w5 ⟨⟨c', d', oc', rfl, h2⟩, rfl⟩
  have hs : c' = c ∧ d' = d ∧ oc' = oc := by
    rcases h1 with ⟨g1, g2, g3, g4⟩ | ⟨g1, g2, g3, g4, g5⟩
    · rcases h2 with ⟨k1, k2, k3, k4⟩ | ⟨k1, k2, _⟩
      · exact ⟨by rw [g2, k2], by rw [g3, k3], by rw [g4, k4]⟩
      · exact absurd ⟨k1, k2⟩ g1
    · rcases h2 with ⟨k1, _⟩ | ⟨_, _, k3, k4, k5⟩
      · exact absurd ⟨g1, g2⟩ k1
      · exact ⟨by rw [g3, k3], by rw [g4, k4], by rw [g5, k5]⟩
  obtain ⟨rfl, rfl, rfl⟩ := hs
  clear h1 h2
  have hcases : ∃ (L' D' : Nat), 3 ≤ L' ∧ L' < 259 ∧ 1 ≤ D' ∧ D' ≤ 32768 ∧ ((3 ≤ L ∧ L ≤ 258 ∧ 1 ≤ D ∧ D ≤ 32768 ∧ L = L' ∧ D = D') ∨ (¬ (3 ≤ L ∧ L ≤ 258 ∧ 1 ≤ D ∧ D ≤ 32768) ∧ (77 : Int) = L' ∧ (3000 : Int) = D')) := by
    by_cases hin : 3 ≤ L ∧ L ≤ 258 ∧ 1 ≤ D ∧ D ≤ 32768
    · exact ⟨L.toNat, D.toNat, by omega, by omega, by omega, by omega, .inl (by omega)⟩
    · exact ⟨77, 3000, by omega, by omega, by omega, by omega, .inr ⟨hin, rfl, rfl⟩⟩
  obtain ⟨Ln, Dn, hL1, hL2, hD1, hD2, hc⟩ := hcases
  have HC := hid hc
  clear hc
  go_upto_region 9 with fail
  go_cut [92] (fun c wc => c = .bool (!(decide (3 ≤ L ∧ L ≤ 258 ∧ 1 ≤ D ∧ D ≤ 32768))) ∧ w5 = wc)
  case first =>
    by_cases q1 : L < 3
    · go_wp2
      go_meet
      case rel => exact ⟨congrArg Value.bool (by rw [decide_eq_false (by omega)]; rfl), rfl⟩
    by_cases q2 : 258 < L
    · go_wp2
      go_meet
      case rel => exact ⟨congrArg Value.bool (by rw [decide_eq_false (by omega)]; rfl), rfl⟩
    by_cases q3 : D < 1
    · go_wp2
      go_meet
      case rel => exact ⟨congrArg Value.bool (by rw [decide_eq_false (by omega)]; rfl), rfl⟩
    by_cases q4 : 32768 < D
    · go_wp2
      go_meet
      case rel => exact ⟨congrArg Value.bool (by rw [decide_eq_false (by omega)]; rfl), rfl⟩
    go_wp2
    go_meet
    case rel => exact ⟨congrArg Value.bool (by rw [decide_eq_true (by omega)]; rfl), rfl⟩
  obtain ⟨rfl, rfl⟩ := hcut
  go_upto_if 92 with fail
  go_cut [1, 2] (fun a b wc => a = .int .i64 (Ln : Nat) ∧ b = .int .i64 (Dn : Nat) ∧ w5 = wc)
  case first =>
    rcases HC.out with ⟨q1, q2, q3, q4, e1, e2⟩ | ⟨q, e1, e2⟩
    · have e1 := hid e1
      have e2 := hid e2
      have hb : (!(decide (3 ≤ L ∧ L ≤ 258 ∧ 1 ≤ D ∧ D ≤ 32768))) = false := by rw [decide_eq_true ⟨q1, q2, q3, q4⟩]; rfl
      rw [hb]
      go_wp2
      go_meet
      case rel => exact ⟨by rw [e1.out], by rw [e2.out], rfl⟩
    · have e1 := hid e1
      have e2 := hid e2
      have hb : (!(decide (3 ≤ L ∧ L ≤ 258 ∧ 1 ≤ D ∧ D ≤ 32768))) = true := by rw [decide_eq_false q]; rfl
      rw [hb]
      go_wp2
      go_meet
      case rel => exact ⟨by rw [e1.out], by rw [e2.out], rfl⟩
  obtain ⟨rfl, rfl, rfl⟩ := hcut
  clear HC
  go_wp2_with fail
  go_loopg [19, 20, 21] 300 (fun g n m i wr => ∃ k : Nat, k + g = 300 ∧ i = .int .i64 (k : Nat) ∧ n = .int .i64 (cnt (pl Ln) k : Nat) ∧ m = .int .i64 (cnt (pd Dn) k : Nat) ∧ w5 = wr)
  case atStart => exact ⟨0, rfl, rfl, rfl, rfl, rfl⟩
  case round =>
    obtain ⟨k, hk, rfl, rfl, rfl, rfl⟩ := hrel
    by_cases hlt : k < 300
    · have n1 := cnt_le (pl Ln) k
      have n2 := cnt_le (pd Dn) k
      go_wp2_with fail
      refine (len_any (k : Int) _).mono ?_
      rintro e w6 ⟨⟨a6, b6, ok6, rfl, h6⟩, rfl⟩
      go_upto_region 16 with fail
      go_cut [124] (fun c wc => c = .bool (pl Ln k) ∧ w6 = wc)
      case first =>
        rcases h6 with ⟨g1, rfl, rfl, rfl⟩ | ⟨g1, g2, rfl, rfl, rfl⟩
        · go_wp2
          go_meet
          case rel => exact ⟨congrArg Value.bool (show false = pl Ln k from (decide_eq_false (by omega)).symm), rfl⟩
        · rw [Int.toNat_natCast]
          have hsl := sum_val' (lenN k) (lb k) (len_le k (by omega) (by omega)) (lb_le' k (by omega))
          have hpl : ∀ b, (257 ≤ k ∧ k ≤ 285 ∧ lenN k ≤ Ln ∧ Ln < lenN k + 2 ^ lb k ∧ (k ≠ 284 ∨ Ln ≠ 258) ↔ b = true) → b = pl Ln k := by
            intro b hb
            unfold pl
            cases b
            · exact (decide_eq_false (fun h => by simpa using hb.1 h)).symm
            · exact (decide_eq_true (hb.2 rfl)).symm
          have HP := hid hpl
          clear hpl
          by_cases l1 : lenN k ≤ Ln
          · by_cases l2 : Ln < lenN k + 2 ^ lb k
            · have q2 : (Ln : Int) < wrap64 ((lenN k : Int) + wrap64 (2 ^ min (lb k) 64)) := by rw [hsl]; omega
              have L2 := hid l2
              clear hsl l2
              by_cases h284 : k = 284
              · have e1 : ((k : Int) != 284) = false := by simp; omega
                by_cases h258 : Ln = 258
                · have e2 : ((Ln : Int) != 258) = false := by simp; omega
                  have E := hid h284
                  have F := hid h258
                  clear h284 h258
                  go_wp2
                  go_meet
                  case rel => exact ⟨congrArg Value.bool (HP.out false (by have := E.out; have := F.out; simp; omega)), rfl⟩
                · have e2 : ((Ln : Int) != 258) = true := by simp; omega
                  have E := hid h284
                  have F := hid h258
                  clear h284 h258
                  go_wp2
                  go_meet
                  case rel => exact ⟨congrArg Value.bool (HP.out true (by have := E.out; have := F.out; have := L2.out; simp; omega)), rfl⟩
              · have e1 : ((k : Int) != 284) = true := by simp; omega
                have E := hid h284
                clear h284
                go_wp2
                go_meet
                case rel => exact ⟨congrArg Value.bool (HP.out true (by have := E.out; have := L2.out; simp; omega)), rfl⟩
            · have q2 : ¬ (Ln : Int) < wrap64 ((lenN k : Int) + wrap64 (2 ^ min (lb k) 64)) := by rw [hsl]; omega
              have L2 := hid l2
              clear hsl l2
              go_wp2
              go_meet
              case rel => exact ⟨congrArg Value.bool (HP.out false (by have := L2.out; simp; omega)), rfl⟩
          · clear hsl
            go_wp2
            go_meet
            case rel => exact ⟨congrArg Value.bool (HP.out false (by simp; omega)), rfl⟩
      obtain ⟨rfl, rfl⟩ := hcut
      clear h6
      have n3 : cnt (pl Ln) (k + 1) = cnt (pl Ln) k + (pl Ln k).toNat := rfl
      have N3 := hid n3
      clear n3
      go_upto_if 124 with fail
      go_cut [19] (fun n wc => n = .int .i64 (cnt (pl Ln) (k + 1) : Nat) ∧ w6 = wc)
      case first =>
        cases hp : pl Ln k
        · go_wp2
          go_meet
          case rel => exact ⟨by rw [N3.out, hp]; rfl, rfl⟩
        · go_wp2
          go_meet
          case rel => exact ⟨by rw [N3.out, hp]; rfl, rfl⟩
      obtain ⟨rfl, rfl⟩ := hcut
      clear N3
      have n1 := cnt_le (pl Ln) (k + 1)
      go_wp2_with fail
      refine (dist_any (k : Int) _).mono ?_
      rintro e w7 ⟨⟨a7, b7, ok7, rfl, h7⟩, rfl⟩
      go_upto_region 19 with fail
      go_cut [146] (fun c wc => c = .bool (pd Dn k) ∧ w7 = wc)
      case first =>
        rcases h7 with ⟨g1, rfl, rfl, rfl⟩ | ⟨g1, g2, rfl, rfl, rfl⟩
        · go_wp2
          go_meet
          case rel => exact ⟨congrArg Value.bool (show false = pd Dn k from (decide_eq_false (by omega)).symm), rfl⟩
        · rw [Int.toNat_natCast]
          have hsl := sum_val' (dl k) (db k) (dl_le k (by omega)) (db_le k (by omega))
          have hpl : ∀ b, (k ≤ 29 ∧ dl k ≤ Dn ∧ Dn < dl k + 2 ^ db k ↔ b = true) → b = pd Dn k := by
            intro b hb
            unfold pd
            cases b
            · exact (decide_eq_false (fun h => by simpa using hb.1 h)).symm
            · exact (decide_eq_true (hb.2 rfl)).symm
          have HP := hid hpl
          clear hpl
          by_cases l1 : dl k ≤ Dn
          · by_cases l2 : Dn < dl k + 2 ^ db k
            · have q2 : (Dn : Int) < wrap64 ((dl k : Int) + wrap64 (2 ^ min (db k) 64)) := by rw [hsl]; omega
              have L2 := hid l2
              clear hsl l2
              go_wp2
              go_meet
              case rel => exact ⟨congrArg Value.bool (HP.out true (by have := L2.out; simp; omega)), rfl⟩
            · have q2 : ¬ (Dn : Int) < wrap64 ((dl k : Int) + wrap64 (2 ^ min (db k) 64)) := by rw [hsl]; omega
              have L2 := hid l2
              clear hsl l2
              go_wp2
              go_meet
              case rel => exact ⟨congrArg Value.bool (HP.out false (by have := L2.out; simp; omega)), rfl⟩
          · clear hsl
            go_wp2
            go_meet
            case rel => exact ⟨congrArg Value.bool (HP.out false (by simp; omega)), rfl⟩
      obtain ⟨rfl, rfl⟩ := hcut
      clear h7
      have n3 : cnt (pd Dn) (k + 1) = cnt (pd Dn) k + (pd Dn k).toNat := rfl
      have N3 := hid n3
      clear n3
      cases hp : pd Dn k
      · have HP := hid hp
        clear hp
        go_wp2
        go_roundg (gk - 1)
        case measure => omega
        case rel => exact ⟨k + 1, by omega, by go_num, rfl, by rw [N3.out, HP.out]; rfl, rfl⟩
      · have HP := hid hp
        clear hp
        go_wp2
        go_roundg (gk - 1)
        case measure => omega
        case rel => exact ⟨k + 1, by omega, by go_num, rfl, by rw [N3.out, HP.out]; rfl, rfl⟩
    · obtain rfl : k = 300 := by omega
      rw [one_len Ln hL2 hL1, one_dist Dn hD1 hD2]
      go_wp2
      go_ret
      exact ⟨rfl, T1.out.below _ (Nat.le_refl _) (fun _ e => e.elim)⟩
set_option maxRecDepth 100000 in
theorem inflateSymbols_lifted (os : Os) (started : os.Started) (H : Type) (enc : TypeId × Value → H) :
    ReturnsInHanded {} Try.checked os 4 .any (Rows.inflateSymbolsSpec.pre6 enc Try.prog Try.f4 Rows.inflateSymbolsRow.domain false) (Rows.inflateSymbolsSpec.post enc Try.prog Try.f4 false true false false) := by
  refine returnsInHanded_of_change_sized (C := Try.checked) own started (by kernel_rfl) Try.func4
    (ChangeSpec.witness6 (enc := enc) (C := Try.checked) false ⟨#[], #[.int .i64 0, .int .i64 0, .int .i64 0], []⟩ 8 (by kernel_rfl) (by kernel_rfl) (by kernel_rfl) (by kernel_rfl)) ?_
  intro W base args ds gs before hval0 hW hcnd hsz0 _
  have hsz : (DataW.weightsEach Try.prog (Try.f4.params.toList ++ Rows.inflateSymbolsSpec.plain.varTypes Try.prog) (ds ++ gs)).all (· ≤ reachBytes) = true := hsz0
  clear hsz0
  have hval : ∀ (j : Nat) t v, Try.f4.params[j]? = some t → args[j]? = some v → Value.okWide Try.prog W .any base t v := hval0
  have hW' := hW
  obtain ⟨p, q, hA0, hV, rfl, hfz, hnd⟩ := hW
  have hA : DataW.TrodAll enc Try.prog W 0 (fun _ => true) true Try.f4.params.toList args.toList ds p := hA0
  rw [Try.params4] at hA hval hsz
  obtain ⟨v0, vs0, d0, ds0, p0, q0, hargs, rfl, rfl, h0, r0⟩ := trodAll_cons hA
  obtain ⟨v1, vs1, d1, ds1, p1, q1, rfl, rfl, rfl, h1, r1⟩ := trodAll_cons r0
  obtain ⟨v2, vs2, d2, ds2, p2, q2, rfl, rfl, rfl, h2, r2⟩ := trodAll_cons r1
  obtain ⟨rfl, rfl, rfl⟩ := trodAll_nil r2
  obtain rfl : args = #[v0, v1, v2] := by cases args; simp_all
  obtain ⟨rfl, rfl⟩ := trodVars_none hV
  obtain ⟨a0, rfl, rfl, rfl, w0⟩ := open_int Try.underlying3 (hval 0 3 v0 rfl rfl) h0
  obtain ⟨a1, rfl, rfl, rfl, w1⟩ := open_int Try.underlying3 (hval 1 3 v1 rfl rfl) h1
  obtain ⟨a2, rfl, rfl, rfl, w2⟩ := open_int Try.underlying3 (hval 2 3 v2 rfl rfl) h2
  clear hA0 hval0
  refine (inflateSymbols_walk a0 a1 a2 W w0 w1 w2).mono fun e W' ⟨he, bel⟩ => ?_
  subst he
  exact ⟨_, rfl, _, _, _, [], _, [], hW', trodAll_mk1 (shut_bool Try.underlying4 _), (trodAll_cons_mk (shut_int Try.underlying3 w0) (trodAll_cons_mk (shut_int Try.underlying3 w1) (trodAll_cons_mk (shut_int Try.underlying3 w2) trodAll_mk0))), rfl, bel.frame _, fun h => by cases h⟩

theorem inflateSymbols_holds : Rows.InflateSymbolsSaid :=
  OpenClaim.holds_of_wide 4 Try.f4 rfl rfl rfl rfl rfl rfl rfl ⟨rfl, rfl, rfl, rfl, rfl⟩ rfl rfl rfl rfl rfl (by kernel_rfl) Try.func4 (by kernel_rfl)
    (of_decide_eq_true (by kernel_rfl)) (by unfold Func.isWrapper; first | (rw [if_pos (by decide +kernel)]; kernel_rfl) | (rw [if_neg (by decide +kernel)]; exact ⟨rfl, rfl⟩))
    (fun os started H enc _ => inflateSymbols_lifted os started H enc)
#print axioms inflateSymbols_holds
end Go.Proofs.Ytokelpnmeknncab
