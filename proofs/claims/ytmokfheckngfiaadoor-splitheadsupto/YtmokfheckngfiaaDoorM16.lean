/- Texts of this proof, one behind the other: what each says stands ahead of it. -/
import Derived.Test.YtmokfheckngfiaaDoorM14
import Derived.Test.YtmokfheckngfiaaDoorM15
/- SplitHeads' walk; conditions: those told. -/
namespace Go.Proofs.YtmokfheckngfiaaDoor
open Go.RowKit
open Go.Lib

/-- Does a row begin with a range that holds a byte? -/
def hdB (b : Int) : List S.R2 → Bool
  | [] => false
  | r :: _ => decide (r.1 ≤ b) && decide (b ≤ r.2)
def headsB (b : Int) (zs : List (List S.R2)) : Bool := zs.any (hdB b)
theorem headsB_in (b : Int) (zs : List (List S.R2)) : headsB b zs = true ↔ S.In b (headsL zs) := by
  unfold headsB headsL
  induction zs with
  | nil =>
    simp
    exact S.in_nil _
  | cons z zs ih =>
    rw [List.any_cons, Bool.or_eq_true, ih, List.flatMap_cons, S.in_append]
    refine or_congr ?_ Iff.rfl
    cases z with
    | nil =>
      simp [hdB]
      exact S.in_nil _
    | cons r z =>
      rw [show (r :: z).take 1 = [r] from rfl, S.in_one]
      simp [hdB]
theorem headsB_step (b : Int) {zs : List (List S.R2)} {k : Nat} (h : k < zs.length) : headsB b (zs.take (k + 1)) = (headsB b (zs.take k) || hdB b zs[k]) := by
  unfold headsB
  rw [List.take_succ_eq_append_getElem h, List.any_append]
  simp
theorem has_heads {b : Int} {hs : List S.R2} {zs : List (List S.R2)} (h : ∀ x, S.In x hs ↔ (0 ≤ x ∧ x ≤ 1114111) ∧ S.In x (headsL zs)) (hb : 0 ≤ b ∧ b ≤ 1114111) : S.hasB b hs = headsB b zs := by
  rw [Bool.eq_iff_iff, S.hasB_iff, headsB_in, h b]
  exact ⟨fun k => k.2, fun k => ⟨hb, k⟩⟩
theorem fit_head {z : List S.R2} {b : Int} {t : List Int} (h : fitL z (b :: t)) : hdB b z = true := by
  match z, h with
  | r :: z, h => simp [hdB, h.1]
theorem first_in {s : List S.R2} {w w' : World} {a : Option Addr} {zs : List (List S.R2)} (h : Told s w w' a zs) (x : Nat) (hs : S.In (x : Int) s) (hsc : scB (x : Int) = true) (b : Int) (t : List Int) (hb : en8 (x : Int) = b :: t) : headsB b zs = true := by
  have hn : ¬ S.In (x : Int) surL := fun k => by
    have h1 := S.in_one.1 k
    have h2 := (scB_iff _).1 hsc
    dsimp only at h1
    omega
  obtain ⟨z, hz, hf⟩ := (h.tells (en8 (x : Int))).2 ⟨x, ⟨hs, hn⟩, rfl⟩
  rw [hb] at hf
  unfold headsB
  exact List.any_eq_true.2 ⟨z, hz, fit_head hf⟩
theorem empty_a (a : Option Addr) (c : Nat) (w : World) : Calls Tryd.prog 19 #[.slice a 0 c, .string ⟨#[97]⟩] w fun e w' => e = .returned (.bool false) ∧ Touch (fun _ => False) w w' :=
  rowHas_short a c [] ⟨#[97]⟩ w (by decide)
theorem empty_none (a : Option Addr) (c : Nat) (w : World) : Calls Tryd.prog 19 #[.slice a 0 c, .string ⟨#[]⟩] w fun e w' => e = .returned (.bool true) ∧ Touch (fun _ => False) w w' := by
  refine (rowHas_any a c [] ⟨#[]⟩ w (.inl rfl) rfl (by decide)).mono ?_
  rintro e w' ⟨⟨b, rfl, hb⟩, tc⟩
  obtain rfl : b = true := hb.2 (fun k h => by simp at h)
  exact ⟨rfl, tc⟩
theorem heads_empty (a : Option Addr) (c : Nat) (w : World) (b : Nat) (ha : a = some ⟨b, 0, none⟩) (hb : b < w.heap.size) (hc : ∃ ai ci, w.cell? ⟨b, 0, none⟩ = some (.slice ai 0 ci)) : Calls Tryd.prog 21 #[.slice a 1 c] w fun e w' => ∃ a' c', e = .returned (.slice a' 0 c') ∧ Touch (fun _ => False) w w' := by
  refine (heads_any a c [[]] w (.inr ⟨b, 0, ha, hb, fun i hi => ?_⟩) (by simp)).mono ?_
  · obtain rfl : i = 0 := by simp at hi; omega
    obtain ⟨ai, ci, hc⟩ := hc
    exact ⟨ai, ci, hc, .inl rfl⟩
  · rintro e w' ⟨v, s, rfl, hcn, hin, ow⟩
    obtain rfl : s = [] := nil_set hcn (fun x hx => S.in_nil x ((hin x).1 hx).2)
    obtain ⟨a', c', hv⟩ := own_shape ow.own
    subst hv
    exact ⟨a', c', rfl, ow.touch⟩
end Go.Proofs.YtmokfheckngfiaaDoor

/- SplitHeads' walk; conditions: those told. -/
namespace Go.Proofs.YtmokfheckngfiaaDoor
open Go.RowKit
open Go.Lib

theorem okc_sc1 {r : Int} (h : scB r = true) : okc 1 r = true := by
  unfold okc
  rw [h]
  rfl
set_option maxRecDepth 100000 in
set_option maxHeartbeats 32000000 in
theorem splitHeads_walk (a : Option Addr) (c : Nat) (l : List S.R2) (r : Int) (w : World) (hbd : Bord w) (hl : S.Rg w a l) (hb : l.length ≤ 1048576) : Calls Tryd.prog 6 #[.slice a l.length c, .int .i64 r] w fun e w' => e = .returned (.bool true) ∧ Touch (fun _ => False) w w' := by
  have HBD := hid hbd
  have HL := hid hl
  clear hbd hl
  go_enter Tryd.func6, Tryd.ntmps6
  go_wp2_with fail
  refine (speaks_yes w HBD.out).mono ?_
  rintro e w1 ⟨rfl, t1⟩
  have T1 := hid t1
  have KM := hid (S.made_any a c l w1 (HL.out.new t1) (by omega))
  clear t1
  go_wp2_with fail
  refine KM.out.mono ?_
  rintro e w2 ⟨v, v2, s, rfl, hcs, his, ow, ow2⟩
  obtain ⟨a2, c2, hv, hrs⟩ := ow.rg
  subst hv
  obtain ⟨a3, c3, hv2⟩ := own_shape ow2.own
  subst hv2
  have T2 := hid (T1.out.trans ow.touch (fun _ _ e => e))
  have KS := hid (split_all a2 c2 s w2 hrs hcs ow.cap (HBD.out.new T2.out))
  have CS := hid hcs
  have IS := hid his
  have RS := hid hrs
  clear hcs his ow ow2 hrs KM T1 HL
  go_wp2_with fail
  refine KS.out.mono ?_
  rintro e w3 hd
  obtain ⟨ar, zs, cr, rfl, told⟩ := split_told hd
  have TO := hid told
  have T3 := hid (T2.out.trans told.touch (fun _ _ e => e))
  have hfew := told.few
  have KE := hid (heads_any ar cr zs w3 told.rows (by omega))
  have RS3 := hid (RS.out.new told.touch)
  clear hd told KS RS T2
  go_wp2_with fail
  refine KE.out.mono ?_
  rintro e w4 ⟨v, hs, rfl, hch, hih, owh⟩
  obtain ⟨ah, ch, hv, hrh⟩ := owh.rg
  subst hv
  have CH := hid hch
  have IH := hid hih
  have RH := hid hrh
  have RW := hid (TO.out.rows.new owh.touch)
  have RS4 := hid (RS3.out.new owh.touch)
  have T4 := hid (T3.out.trans owh.touch (fun _ _ e => e))
  have KC := hid (rscalar_any r w4)
  clear hch hih hrh owh KE RS3 T3
  cases hsc : scB r with
  | false =>
    rw [hsc] at KC
    go_wp2_with fail
    refine KC.out.mono ?_
    rintro e w5 ⟨rfl, rfl⟩
    have RH5 := hid RH.out
    have RW5 := hid RW.out
    have T5 := hid T4.out
    have ONE := hid TO.out.one
    clear KC RH RW T4 RS4 TO hsc
    generalize w4 = w5 at *
    go_wp2_with fail
    go_loopg [9] 256 (fun gk v9 wq => ∃ i : Nat, i + gk = 256 ∧ v9 = .int .i64 (i : Nat) ∧ Touch (fun _ => False) w5 wq)
    case atStart => exact ⟨0, by omega, rfl, Touch.refl _ _⟩
    case round =>
      obtain ⟨i, hi, rfl, htc⟩ := hrel
      have TC := hid htc
      have R6 := hid (RW5.out.new htc)
      have KH := hid (S.has_says ah ch hs (i : Int) wr (RH5.out.new htc) CH.out)
      clear htc
      by_cases h256 : i < 256
      · obtain ⟨g1, rfl⟩ : ∃ j, gk = j + 1 := ⟨gk - 1, by omega⟩
        have h256I : (i : Int) < 256 := by omega
        rw [has_heads IH.out (b := (i : Int)) (by omega)] at KH
        go_wp2_with fail
        generalize wr = wo at *
        go_loopg [10, 11] zs.length (fun gj v10 v11 wq => ∃ k : Nat, k + gj = zs.length ∧ v11 = .int .i64 (k : Nat) ∧ v10 = .bool (headsB (i : Int) (zs.take k)) ∧ wq = wo)
        case atStart => exact ⟨0, by omega, rfl, rfl, rfl⟩
        case round =>
          obtain ⟨k, hk, rfl, rfl, rfl⟩ := hrel
          by_cases hlt : k < zs.length
          · have hkI : (k : Int) < (zs.length : Int) := by omega
            have HST := hid (headsB_step (i : Int) hlt)
            have hone := (ONE.out zs[k] (List.getElem_mem _)).1
            obtain ⟨b, o, ha, hbl, hcell⟩ : ∃ b o, ar = some ⟨b, o, none⟩ ∧ b < wr.heap.size ∧ ∀ i (h : i < zs.length), ∃ ai ci, wr.cell? ⟨b, o + i, none⟩ = some (.slice ai (zs[i]).length ci) ∧ S.Rg wr ai zs[i] := by
              rcases R6.out with h | h
              · rw [h] at hlt; simp at hlt
              · exact h
            subst ha
            obtain ⟨ai, ci, d0, hrg⟩ := hcell k hlt
            obtain ⟨z, hz⟩ : ∃ z, z = zs[k] := ⟨_, rfl⟩
            rw [← hz] at d0 hrg HST hone
            obtain ⟨B, hB⟩ : ∃ B, B = headsB (i : Int) (zs.take k) := ⟨_, rfl⟩
            rw [← hB] at HST ⊢
            clear hB hz hcell
            rcases z with _ | ⟨⟨x, y⟩, z⟩
            · simp at hone
            · obtain ⟨b4, o4, ha4, hb4, e0, e1, _⟩ := S.Rg.head hrg
              subst ha4
              dsimp only at e0 e1
              obtain ⟨n, hn⟩ : ∃ n, n = ((x, y) :: z).length := ⟨_, rfl⟩
              have hn1 : 0 < n := by rw [hn]; simp
              have hn1I : (0 : Int) < (n : Int) := by omega
              rw [← hn] at d0
              clear hrg hn hone
              cases B with
              | true =>
                have HS2 := hid (show headsB (i : Int) (zs.take (k + 1)) = true by rw [HST.out]; rfl)
                go_wp2
                go_roundg (gk - 1)
                case measure => omega
                case rel => exact ⟨k + 1, by omega, by go_num, by rw [HS2.out], rfl⟩
              | false =>
                by_cases hx : x ≤ (i : Int)
                · by_cases hy : (i : Int) ≤ y
                  · have HS2 := hid (show headsB (i : Int) (zs.take (k + 1)) = true by rw [HST.out]; simp [hdB, hx, hy])
                    go_wp2
                    go_roundg (gk - 1)
                    case measure => omega
                    case rel => exact ⟨k + 1, by omega, by go_num, by rw [HS2.out], rfl⟩
                  · have HS2 := hid (show headsB (i : Int) (zs.take (k + 1)) = false by rw [HST.out]; simp [hdB]; omega)
                    go_wp2
                    go_roundg (gk - 1)
                    case measure => omega
                    case rel => exact ⟨k + 1, by omega, by go_num, by rw [HS2.out], rfl⟩
                · have HS2 := hid (show headsB (i : Int) (zs.take (k + 1)) = false by rw [HST.out]; simp [hdB]; omega)
                  go_wp2
                  go_roundg (gk - 1)
                  case measure => omega
                  case rel => exact ⟨k + 1, by omega, by go_num, by rw [HS2.out], rfl⟩
          · obtain rfl : k = zs.length := by omega
            rw [List.take_length]
            generalize headsB (i : Int) zs = B at *
            go_wp2_with fail
            refine KH.out.mono ?_
            rintro e w7 ⟨rfl, t7⟩
            have T7 := hid (TC.out.trans t7 (fun _ _ e => e))
            clear t7 KH
            go_wp2
            go_roundg g1
            case measure => omega
            case rel => exact ⟨i + 1, by omega, by go_num, T7.out⟩
      · obtain rfl : i = 256 := by omega
        clear KH R6
        go_wp2_with fail
        refine (empty_a _ _ _).mono ?_
        rintro e w7 ⟨rfl, t7⟩
        have T7 := hid (show Touch (fun _ => False) w5 w7 from by first | exact TC.out.trans t7 (fun _ _ e => e) | exact (TC.out.alloc _).trans t7 (fun _ _ e => e))
        clear t7 TC
        go_wp2_with fail
        refine (empty_none _ _ _).mono ?_
        rintro e w8 ⟨rfl, t8⟩
        have T8 := hid (show Touch (fun _ => False) w5 w8 from by first | exact T7.out.trans t8 (fun _ _ e => e) | exact (T7.out.alloc _).trans t8 (fun _ _ e => e))
        clear t8 T7
        go_wp2_with fail
        refine (heads_empty _ _ _ _ rfl ?_ ?_).mono ?_
        · simp
        · first
          | exact ⟨_, _, S.box_new _ _ _⟩
          | (have := S.box_new (w8.alloc (.cells #[] 38)) (.slice (some ⟨w8.heap.size, 0, none⟩) 0 0) 41
             rw [show (w8.alloc (.cells #[] 38)).heap.size = w8.heap.size + 1 by simp] at this
             exact ⟨_, _, this⟩)
        · rintro e w9 ⟨a', c', rfl, t9⟩
          have T9 := hid (show Touch (fun _ => False) w w9 from (T5.out.trans T8.out (fun _ _ e => e)).trans (by first | exact ((Touch.refl (fun _ => False) w8).alloc _).trans t9 (fun _ _ e => e) | exact (((Touch.refl (fun _ => False) w8).alloc _).alloc _).trans t9 (fun _ _ e => e)) (fun _ _ e => e))
          clear t9 T8
          go_wp2
          go_ret
          exact ⟨rfl, T9.out⟩

  | true =>
    rw [hsc] at KC
    have h2 := (scB_iff r).1 hsc
    obtain ⟨x, rfl⟩ : ∃ x : Nat, r = (x : Int) := ⟨r.toNat, by omega⟩
    have hok := okc_sc1 hsc
    have KHS := hid (S.has_says a2 c2 s (x : Int) w4 RS4.out CS.out)
    go_wp2_with fail
    refine KC.out.mono ?_
    rintro e w5 ⟨rfl, rfl⟩
    clear KC
    cases hh : S.hasB (x : Int) s with
    | false =>
      rw [hh] at KHS
      go_wp2_with fail
      refine KHS.out.mono ?_
      rintro e w5 ⟨rfl, t5⟩
      have RH5 := hid (RH.out.new t5)
      have RW5 := hid (RW.out.new t5)
      have T5 := hid (T4.out.trans t5 (fun _ _ e => e))
      have ONE := hid TO.out.one
      clear KHS RH RW T4 RS4 TO hsc hok h2 t5 hh
      go_wp2_with fail
      go_loopg [9] 256 (fun gk v9 wq => ∃ i : Nat, i + gk = 256 ∧ v9 = .int .i64 (i : Nat) ∧ Touch (fun _ => False) w5 wq)
      case atStart => exact ⟨0, by omega, rfl, Touch.refl _ _⟩
      case round =>
        obtain ⟨i, hi, rfl, htc⟩ := hrel
        have TC := hid htc
        have R6 := hid (RW5.out.new htc)
        have KH := hid (S.has_says ah ch hs (i : Int) wr (RH5.out.new htc) CH.out)
        clear htc
        by_cases h256 : i < 256
        · obtain ⟨g1, rfl⟩ : ∃ j, gk = j + 1 := ⟨gk - 1, by omega⟩
          have h256I : (i : Int) < 256 := by omega
          rw [has_heads IH.out (b := (i : Int)) (by omega)] at KH
          go_wp2_with fail
          generalize wr = wo at *
          go_loopg [10, 11] zs.length (fun gj v10 v11 wq => ∃ k : Nat, k + gj = zs.length ∧ v11 = .int .i64 (k : Nat) ∧ v10 = .bool (headsB (i : Int) (zs.take k)) ∧ wq = wo)
          case atStart => exact ⟨0, by omega, rfl, rfl, rfl⟩
          case round =>
            obtain ⟨k, hk, rfl, rfl, rfl⟩ := hrel
            by_cases hlt : k < zs.length
            · have hkI : (k : Int) < (zs.length : Int) := by omega
              have HST := hid (headsB_step (i : Int) hlt)
              have hone := (ONE.out zs[k] (List.getElem_mem _)).1
              obtain ⟨b, o, ha, hbl, hcell⟩ : ∃ b o, ar = some ⟨b, o, none⟩ ∧ b < wr.heap.size ∧ ∀ i (h : i < zs.length), ∃ ai ci, wr.cell? ⟨b, o + i, none⟩ = some (.slice ai (zs[i]).length ci) ∧ S.Rg wr ai zs[i] := by
                rcases R6.out with h | h
                · rw [h] at hlt; simp at hlt
                · exact h
              subst ha
              obtain ⟨ai, ci, d0, hrg⟩ := hcell k hlt
              obtain ⟨z, hz⟩ : ∃ z, z = zs[k] := ⟨_, rfl⟩
              rw [← hz] at d0 hrg HST hone
              obtain ⟨B, hB⟩ : ∃ B, B = headsB (i : Int) (zs.take k) := ⟨_, rfl⟩
              rw [← hB] at HST ⊢
              clear hB hz hcell
              rcases z with _ | ⟨⟨x, y⟩, z⟩
              · simp at hone
              · obtain ⟨b4, o4, ha4, hb4, e0, e1, _⟩ := S.Rg.head hrg
                subst ha4
                dsimp only at e0 e1
                obtain ⟨n, hn⟩ : ∃ n, n = ((x, y) :: z).length := ⟨_, rfl⟩
                have hn1 : 0 < n := by rw [hn]; simp
                have hn1I : (0 : Int) < (n : Int) := by omega
                rw [← hn] at d0
                clear hrg hn hone
                cases B with
                | true =>
                  have HS2 := hid (show headsB (i : Int) (zs.take (k + 1)) = true by rw [HST.out]; rfl)
                  go_wp2
                  go_roundg (gk - 1)
                  case measure => omega
                  case rel => exact ⟨k + 1, by omega, by go_num, by rw [HS2.out], rfl⟩
                | false =>
                  by_cases hx : x ≤ (i : Int)
                  · by_cases hy : (i : Int) ≤ y
                    · have HS2 := hid (show headsB (i : Int) (zs.take (k + 1)) = true by rw [HST.out]; simp [hdB, hx, hy])
                      go_wp2
                      go_roundg (gk - 1)
                      case measure => omega
                      case rel => exact ⟨k + 1, by omega, by go_num, by rw [HS2.out], rfl⟩
                    · have HS2 := hid (show headsB (i : Int) (zs.take (k + 1)) = false by rw [HST.out]; simp [hdB]; omega)
                      go_wp2
                      go_roundg (gk - 1)
                      case measure => omega
                      case rel => exact ⟨k + 1, by omega, by go_num, by rw [HS2.out], rfl⟩
                  · have HS2 := hid (show headsB (i : Int) (zs.take (k + 1)) = false by rw [HST.out]; simp [hdB]; omega)
                    go_wp2
                    go_roundg (gk - 1)
                    case measure => omega
                    case rel => exact ⟨k + 1, by omega, by go_num, by rw [HS2.out], rfl⟩
            · obtain rfl : k = zs.length := by omega
              rw [List.take_length]
              generalize headsB (i : Int) zs = B at *
              go_wp2_with fail
              refine KH.out.mono ?_
              rintro e w7 ⟨rfl, t7⟩
              have T7 := hid (TC.out.trans t7 (fun _ _ e => e))
              clear t7 KH
              go_wp2
              go_roundg g1
              case measure => omega
              case rel => exact ⟨i + 1, by omega, by go_num, T7.out⟩
        · obtain rfl : i = 256 := by omega
          clear KH R6
          go_wp2_with fail
          refine (empty_a _ _ _).mono ?_
          rintro e w7 ⟨rfl, t7⟩
          have T7 := hid (show Touch (fun _ => False) w5 w7 from by first | exact TC.out.trans t7 (fun _ _ e => e) | exact (TC.out.alloc _).trans t7 (fun _ _ e => e))
          clear t7 TC
          go_wp2_with fail
          refine (empty_none _ _ _).mono ?_
          rintro e w8 ⟨rfl, t8⟩
          have T8 := hid (show Touch (fun _ => False) w5 w8 from by first | exact T7.out.trans t8 (fun _ _ e => e) | exact (T7.out.alloc _).trans t8 (fun _ _ e => e))
          clear t8 T7
          go_wp2_with fail
          refine (heads_empty _ _ _ _ rfl ?_ ?_).mono ?_
          · simp
          · first
            | exact ⟨_, _, S.box_new _ _ _⟩
            | (have := S.box_new (w8.alloc (.cells #[] 38)) (.slice (some ⟨w8.heap.size, 0, none⟩) 0 0) 41
               rw [show (w8.alloc (.cells #[] 38)).heap.size = w8.heap.size + 1 by simp] at this
               exact ⟨_, _, this⟩)
          · rintro e w9 ⟨a', c', rfl, t9⟩
            have T9 := hid (show Touch (fun _ => False) w w9 from (T5.out.trans T8.out (fun _ _ e => e)).trans (by first | exact ((Touch.refl (fun _ => False) w8).alloc _).trans t9 (fun _ _ e => e) | exact (((Touch.refl (fun _ => False) w8).alloc _).alloc _).trans t9 (fun _ _ e => e)) (fun _ _ e => e))
            clear t9 T8
            go_wp2
            go_ret
            exact ⟨rfl, T9.out⟩

    | true =>
      rw [hh] at KHS
      have FI := hid (fun b t hb => first_in TO.out x (S.hasB_iff.1 hh) hsc b t hb)
      have KY := hid (show ∀ w, Calls Tryd.prog 18 #[.int .i64 (x : Int), .int .i64 1] w fun e w' => e = .returned (.string (strOfNums (en8 (x : Int)))) ∧ Touch (fun _ => False) w w' from fun w => bytes_any 1 (.inl rfl) (x : Int) hok w)
      have hsz := str_size (en8 (x : Int))
      have hl1 := (en8_len (x : Int)).1
      have h0 : 0 < (strOfNums (en8 (x : Int))).size := by omega
      have HAT := hid (at_str (en8 (x : Int)) (en8_in (x : Int) hok) 0 h0 hl1)
      obtain ⟨u, hu⟩ : ∃ u : Nat, u = (strOfNums (en8 (x : Int)))[0].toNat := ⟨_, rfl⟩
      have hbu : (strOfNums (en8 (x : Int)))[0].toNat = u := hu.symm
      have lu : u < 256 := by rw [hu]; exact UInt8.toNat_lt _
      have HHB := hid (show S.hasB (u : Int) hs = true by
        rw [has_heads IH.out (b := (u : Int)) (by omega)]
        rw [hbu] at HAT
        refine FI.out (u : Int) ((en8 (x : Int)).drop 1) ?_
        rw [HAT.out]
        have := List.drop_eq_getElem_cons hl1
        rw [List.drop_zero] at this
        exact this)
      have wu : IntKind.i64.wrap (u : Int) = (u : Int) := by rw [IntKind.wrap_i64]; omega
      have h0I : (0 : Int) < ((strOfNums (en8 (x : Int))).size : Int) := by omega
      clear hu HAT FI hsz hl1 hok
      generalize strOfNums (en8 (x : Int)) = st at *
      go_wp2_with fail
      refine KHS.out.mono ?_
      rintro e w5a ⟨rfl, ta⟩
      clear KHS
      go_wp2_with fail
      refine (KY.out w5a).mono ?_
      rintro e w5b ⟨rfl, tb⟩
      have TAB := hid (ta.trans tb (fun _ _ e => e))
      have KH2 := hid (S.has_says ah ch hs (u : Int) w5b (RH.out.new TAB.out) CH.out)
      rw [HHB.out] at KH2
      clear ta tb KY HHB
      go_wp2_with fail
      refine KH2.out.mono ?_
      rintro e w5 ⟨rfl, t5⟩
      have TAC := hid (TAB.out.trans t5 (fun _ _ e => e))
      have RH5 := hid (RH.out.new TAC.out)
      have RW5 := hid (RW.out.new TAC.out)
      have T5 := hid (T4.out.trans TAC.out (fun _ _ e => e))
      have ONE := hid TO.out.one
      clear KH2 RH RW T4 RS4 TO hsc h2 t5 hh TAB TAC h0I wu lu hbu
      go_wp2_with fail
      go_loopg [9] 256 (fun gk v9 wq => ∃ i : Nat, i + gk = 256 ∧ v9 = .int .i64 (i : Nat) ∧ Touch (fun _ => False) w5 wq)
      case atStart => exact ⟨0, by omega, rfl, Touch.refl _ _⟩
      case round =>
        obtain ⟨i, hi, rfl, htc⟩ := hrel
        have TC := hid htc
        have R6 := hid (RW5.out.new htc)
        have KH := hid (S.has_says ah ch hs (i : Int) wr (RH5.out.new htc) CH.out)
        clear htc
        by_cases h256 : i < 256
        · obtain ⟨g1, rfl⟩ : ∃ j, gk = j + 1 := ⟨gk - 1, by omega⟩
          have h256I : (i : Int) < 256 := by omega
          rw [has_heads IH.out (b := (i : Int)) (by omega)] at KH
          go_wp2_with fail
          generalize wr = wo at *
          go_loopg [10, 11] zs.length (fun gj v10 v11 wq => ∃ k : Nat, k + gj = zs.length ∧ v11 = .int .i64 (k : Nat) ∧ v10 = .bool (headsB (i : Int) (zs.take k)) ∧ wq = wo)
          case atStart => exact ⟨0, by omega, rfl, rfl, rfl⟩
          case round =>
            obtain ⟨k, hk, rfl, rfl, rfl⟩ := hrel
            by_cases hlt : k < zs.length
            · have hkI : (k : Int) < (zs.length : Int) := by omega
              have HST := hid (headsB_step (i : Int) hlt)
              have hone := (ONE.out zs[k] (List.getElem_mem _)).1
              obtain ⟨b, o, ha, hbl, hcell⟩ : ∃ b o, ar = some ⟨b, o, none⟩ ∧ b < wr.heap.size ∧ ∀ i (h : i < zs.length), ∃ ai ci, wr.cell? ⟨b, o + i, none⟩ = some (.slice ai (zs[i]).length ci) ∧ S.Rg wr ai zs[i] := by
                rcases R6.out with h | h
                · rw [h] at hlt; simp at hlt
                · exact h
              subst ha
              obtain ⟨ai, ci, d0, hrg⟩ := hcell k hlt
              obtain ⟨z, hz⟩ : ∃ z, z = zs[k] := ⟨_, rfl⟩
              rw [← hz] at d0 hrg HST hone
              obtain ⟨B, hB⟩ : ∃ B, B = headsB (i : Int) (zs.take k) := ⟨_, rfl⟩
              rw [← hB] at HST ⊢
              clear hB hz hcell
              rcases z with _ | ⟨⟨x, y⟩, z⟩
              · simp at hone
              · obtain ⟨b4, o4, ha4, hb4, e0, e1, _⟩ := S.Rg.head hrg
                subst ha4
                dsimp only at e0 e1
                obtain ⟨n, hn⟩ : ∃ n, n = ((x, y) :: z).length := ⟨_, rfl⟩
                have hn1 : 0 < n := by rw [hn]; simp
                have hn1I : (0 : Int) < (n : Int) := by omega
                rw [← hn] at d0
                clear hrg hn hone
                cases B with
                | true =>
                  have HS2 := hid (show headsB (i : Int) (zs.take (k + 1)) = true by rw [HST.out]; rfl)
                  go_wp2
                  go_roundg (gk - 1)
                  case measure => omega
                  case rel => exact ⟨k + 1, by omega, by go_num, by rw [HS2.out], rfl⟩
                | false =>
                  by_cases hx : x ≤ (i : Int)
                  · by_cases hy : (i : Int) ≤ y
                    · have HS2 := hid (show headsB (i : Int) (zs.take (k + 1)) = true by rw [HST.out]; simp [hdB, hx, hy])
                      go_wp2
                      go_roundg (gk - 1)
                      case measure => omega
                      case rel => exact ⟨k + 1, by omega, by go_num, by rw [HS2.out], rfl⟩
                    · have HS2 := hid (show headsB (i : Int) (zs.take (k + 1)) = false by rw [HST.out]; simp [hdB]; omega)
                      go_wp2
                      go_roundg (gk - 1)
                      case measure => omega
                      case rel => exact ⟨k + 1, by omega, by go_num, by rw [HS2.out], rfl⟩
                  · have HS2 := hid (show headsB (i : Int) (zs.take (k + 1)) = false by rw [HST.out]; simp [hdB]; omega)
                    go_wp2
                    go_roundg (gk - 1)
                    case measure => omega
                    case rel => exact ⟨k + 1, by omega, by go_num, by rw [HS2.out], rfl⟩
            · obtain rfl : k = zs.length := by omega
              rw [List.take_length]
              generalize headsB (i : Int) zs = B at *
              go_wp2_with fail
              refine KH.out.mono ?_
              rintro e w7 ⟨rfl, t7⟩
              have T7 := hid (TC.out.trans t7 (fun _ _ e => e))
              clear t7 KH
              go_wp2
              go_roundg g1
              case measure => omega
              case rel => exact ⟨i + 1, by omega, by go_num, T7.out⟩
        · obtain rfl : i = 256 := by omega
          clear KH R6
          go_wp2_with fail
          refine (empty_a _ _ _).mono ?_
          rintro e w7 ⟨rfl, t7⟩
          have T7 := hid (show Touch (fun _ => False) w5 w7 from by first | exact TC.out.trans t7 (fun _ _ e => e) | exact (TC.out.alloc _).trans t7 (fun _ _ e => e))
          clear t7 TC
          go_wp2_with fail
          refine (empty_none _ _ _).mono ?_
          rintro e w8 ⟨rfl, t8⟩
          have T8 := hid (show Touch (fun _ => False) w5 w8 from by first | exact T7.out.trans t8 (fun _ _ e => e) | exact (T7.out.alloc _).trans t8 (fun _ _ e => e))
          clear t8 T7
          go_wp2_with fail
          refine (heads_empty _ _ _ _ rfl ?_ ?_).mono ?_
          · simp
          · first
            | exact ⟨_, _, S.box_new _ _ _⟩
            | (have := S.box_new (w8.alloc (.cells #[] 38)) (.slice (some ⟨w8.heap.size, 0, none⟩) 0 0) 41
               rw [show (w8.alloc (.cells #[] 38)).heap.size = w8.heap.size + 1 by simp] at this
               exact ⟨_, _, this⟩)
          · rintro e w9 ⟨a', c', rfl, t9⟩
            have T9 := hid (show Touch (fun _ => False) w w9 from (T5.out.trans T8.out (fun _ _ e => e)).trans (by first | exact ((Touch.refl (fun _ => False) w8).alloc _).trans t9 (fun _ _ e => e) | exact (((Touch.refl (fun _ => False) w8).alloc _).alloc _).trans t9 (fun _ _ e => e)) (fun _ _ e => e))
            clear t9 T8
            go_wp2
            go_ret
            exact ⟨rfl, T9.out⟩

end Go.Proofs.YtmokfheckngfiaaDoor
