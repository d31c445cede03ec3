/- Texts of this proof, one behind the other: what each says stands ahead of it. -/
import Derived.Test.YtmokfheckngfiaaDoorM6
import Derived.Test.YtmokfheckngfiaaDoorM7
import Derived.Deep.RegionLaw
import Derived.Test.YtmokfheckngfiaaDoorM13
import Derived.Test.YtmokfheckngfiaaDoorM15
import Derived.Test.YtmokfheckngfiaaDoorM16
import Derived.Test.YtmokfheckngfiaaDoorM17
import Derived.Test.YtmokfheckngfiaaDoorM18
/- made: what the laws make of a list of pairs; conditions: those told. -/
namespace Go.Proofs.YtmokfheckngfiaaDoor.S
open Go.RowKit
open Go.Lib

set_option maxRecDepth 100000 in
set_option maxHeartbeats 8000000 in
theorem made_any (a : Option Addr) (cap : Nat) (l : List R2) (w : World) (hl : Rg w a l) (hb : l.length * 16 ≤ 140737488351232) :
    Calls Tryd.prog 20 #[.slice a l.length cap] w fun e w' => ∃ v v2 s, e = .returned (.tuple #[v, v2]) ∧ Canon s ∧ (∀ x, In x s ↔ (0 ≤ x ∧ x ≤ 1114111) ∧ In x l) ∧ OwE w w' 38 v s ∧ OwE w w' 69 v2 l := by
  obtain ⟨i0, hi33, hz0, hz1, hz2⟩ := info_parts info33
  obtain ⟨j0, hi47, hy0, hy1, hy2⟩ := info_parts info47
  have HL := hid hl
  clear hl
  go_enter Tryd.func20, Tryd.ntmps20
  go_wp2_with fail
  go_loopg [4, 5, 6] l.length (fun gk v4 v5 i wr => ∃ k : Nat, k + gk = l.length ∧ i = .int .i64 (k : Nat) ∧ OwE w wr 38 v4 (l.take k) ∧ OwE w wr 69 v5 (l.take k))
  case atStart => exact ⟨0, by omega, rfl, OwE.nil _ _, OwE.nil _ _⟩
  case round =>
    obtain ⟨k, hk, rfl, h4, h5⟩ := hrel
    have O4 := hid h4
    have O5 := hid h5
    have HLR := hid (HL.out.new h4.touch)
    obtain ⟨a4, c4, hv4⟩ := own_shape h4.own
    obtain ⟨a5, c5, hv5⟩ := own_shape h5.own
    subst hv4
    subst hv5
    clear h4 h5
    have htl : (l.take k).length = k := by rw [List.length_take]; omega
    rw [htl] at O4 O5 ⊢
    by_cases hlt : k < l.length
    · obtain ⟨b, o, ha, hbl, hcell⟩ : ∃ b o, a = some ⟨b, o, none⟩ ∧ b < wr.heap.size ∧ ∀ i (h : i < l.length), wr.cell? ⟨b, o + i * 2, none⟩ = some (.int .i64 (l[i]).1) ∧ wr.cell? ⟨b, o + i * 2 + 1, none⟩ = some (.int .i64 (l[i]).2) := by
        rcases HLR.out with h | h
        · rw [h] at hlt; simp at hlt
        · exact h
      subst ha
      obtain ⟨d0, d1⟩ := hcell k hlt
      obtain ⟨r, hr⟩ : ∃ r, r = l[k] := ⟨_, rfl⟩
      have HT := hid (show l.take (k + 1) = l.take k ++ [r] from by rw [hr, List.take_succ_eq_append_getElem hlt])
      rw [← hr] at d0 d1
      obtain ⟨x, y⟩ := r
      dsimp only at d0 d1
      have HRK := hid hr.symm
      have hkI : (k : Int) < (l.length : Int) := by omega
      clear hcell hr htl
      obtain ⟨s, hs⟩ : ∃ s, s = l.take k := ⟨_, rfl⟩
      have hsl : s.length ≤ k := by rw [hs, List.length_take]; omega
      rw [← hs] at O4 O5 HT
      clear hs
      go_upto_region 6 with fail
      go_region_law (
        (refine step_append_own _ (by rfl) _ _ _ (by rfl) 0 38 i0 _ 2 16 Tryd.underlying34 hi33 hz0 hz1 hz2 rfl (by decide) _ _ _ (by rfl) ((O4.out.own.alloc _).drew) ⟨wr.heap.size, 0, none⟩ 1 1 [.int .i64 x, .int .i64 y] (by rfl) (by rfl) (row_new wr [.int .i64 x, .int .i64 y] 38) (by intro u hu; simp at hu; rcases hu with rfl | rfl <;> rfl) (by unfold maxLen; omega) (by omega) (Nat.zero_le _) (wr.heap.size + 1) (by simp) ?_
         intro v4' w4 hown hgrow hat))
      all_goals
        have HG := hid (show (wr.alloc (.cells #[.int .i64 x, .int .i64 y] 38)).grownBy w4 (Value.slice a4 k c4).ownBlock from ⟨hgrow.os, hgrow.tape, hgrow.output, hgrow.size, hgrow.block⟩)
        have P4 := hid (O4.out.more (xs := [(x, y)]) hown HG.out hat)
        have P5 := hid (O5.out.beside O4.out (by decide) HG.out)
        have HLR2 := hid (show Rg w4 (some ⟨b, o, none⟩) l from HL.out.new P4.out.touch)
        clear hown hgrow hat d0 d1 HG
        obtain ⟨a4', c4', hv4⟩ := own_shape P4.out.own
        subst hv4
        obtain ⟨d0, d1⟩ : w4.cell? ⟨b, o + k * 2, none⟩ = some (.int .i64 x) ∧ w4.cell? ⟨b, o + k * 2 + 1, none⟩ = some (.int .i64 y) := by
          rcases HLR2.out with h | ⟨b', o', e, _, hc⟩
          · rw [h] at hlt; simp at hlt
          · simp only [Option.some.injEq, Addr.mk.injEq, and_true] at e
            obtain ⟨rfl, rfl⟩ := e
            have hq := hc k hlt
            rw [HRK.out] at hq
            exact hq
        clear HLR HLR2
        go_upto_region 7 with fail
        go_region_law (
        (refine step_append_own _ (by rfl) _ _ _ (by rfl) 0 69 j0 _ 2 16 Tryd.underlying43 hi47 hy0 hy1 hy2 rfl (by decide) _ _ _ (by rfl) ((P5.out.own.alloc _).drew) ⟨w4.heap.size, 0, none⟩ 1 1 [.int .i64 x, .int .i64 y] (by rfl) (by rfl) (row_new w4 [.int .i64 x, .int .i64 y] 69) (by intro u hu; simp at hu; rcases hu with rfl | rfl <;> rfl) (by unfold maxLen; omega) (by omega) (Nat.zero_le _) (w4.heap.size + 1) (by simp) ?_
         intro v5' w5 hown hgrow hat))
        all_goals
          have HG := hid (show (w4.alloc (.cells #[.int .i64 x, .int .i64 y] 69)).grownBy w5 (Value.slice a5 k c5).ownBlock from ⟨hgrow.os, hgrow.tape, hgrow.output, hgrow.size, hgrow.block⟩)
          have Q5 := hid (P5.out.more (xs := [(x, y)]) hown HG.out hat)
          have Q4 := hid (P4.out.beside P5.out (by decide) HG.out)
          clear hown hgrow hat HG
          go_wp2
          go_roundg (gk - 1)
          case measure => omega
          case rel =>
            refine ⟨k + 1, by omega, by go_num, ?_, ?_⟩
            · rw [HT.out]
              have := Q4.out
              rw [List.length_append] at this
              exact this
            · rw [HT.out]
              exact Q5.out
    · obtain rfl : k = l.length := by omega
      rw [List.take_length] at O4 O5
      obtain ⟨a4', c4', hv4, hrg⟩ := O4.out.rg
      simp only [Value.slice.injEq] at hv4
      obtain ⟨rfl, _, rfl⟩ := hv4
      have K := hid (of_says a4 c4 l wr hrg hb)
      clear hrg
      go_wp2_with fail
      refine K.out.mono ?_
      rintro e w1 ⟨v, s, rfl, hcn, hin, ow⟩
      have OW := hid ow
      have HCN := hid hcn
      have HIN := hid hin
      obtain ⟨a2, c2, hav⟩ := own_shape ow.own
      subst hav
      clear ow hcn hin K
      go_wp2
      go_ret2
      exact ⟨_, _, s, rfl, HCN.out, HIN.out, ⟨OW.out.own, fun g e => Nat.le_trans O4.out.touch.size (OW.out.new g e), O4.out.touch.trans OW.out.touch (fun _ _ e => e)⟩, O5.out.still OW.out.touch⟩
end Go.Proofs.YtmokfheckngfiaaDoor.S

/- speaks of the laws of utfsplit; conditions: those told. -/
namespace Go.Proofs.YtmokfheckngfiaaDoor
open Go.RowKit
open Go.Lib

theorem zip65 : List.zip (en8 ((65 : Nat) : Int)) (en8 ((65 : Nat) : Int)) = [(65, 65)] := by decide
/-- Of one range of one number, what Split is asked. -/
theorem in_scalar {s : List S.R2} {r : Int} (h : ∀ x, S.In x s ↔ (0 ≤ x ∧ x ≤ 1114111) ∧ S.In x [(r, r)]) (hr : scB r = true) : ∀ y, S.In y s ∧ ¬ S.In y surL ↔ y = r := fun y => by
  have h2 := (scB_iff r).1 hr
  rw [h y, S.in_one, surL, S.in_one]
  dsimp only
  omega
theorem in_none {s : List S.R2} {r : Int} (h : ∀ x, S.In x s ↔ (0 ≤ x ∧ x ≤ 1114111) ∧ S.In x [(r, r)]) (hr : scB r = false) : ∀ y, S.In y s ∧ ¬ S.In y surL ↔ False := fun y => by
  have h2 : ¬ (0 ≤ r ∧ r ≤ 1114111 ∧ (r < 55296 ∨ 57344 ≤ r)) := fun k => by
    rw [(scB_iff r).2 k] at hr
    cases hr
  rw [h y, S.in_one, surL, S.in_one]
  dsimp only
  refine ⟨fun k => ?_, False.elim⟩
  omega
theorem ow_cap {W0 wr : World} {ty n cap : Nat} {a : Option Addr} {s : List S.R2} (h : S.Ow W0 wr ty (.slice a n cap) s) : s.length ≤ cap := by
  rcases h.own.2 with ⟨_, h0⟩ | ⟨g, cap', cur, hv, _, _, hle, _⟩
  · omega
  · simp only [Value.slice.injEq] at hv
    omega
theorem fitA : fitFrom [(65, 65)] ⟨#[65]⟩ 1 := fun k h _ _ => by
  obtain rfl : k = 0 := by simp at h; omega
  exact (show (65 : Int) ≤ 65 ∧ (65 : Int) ≤ 65 by decide)
theorem fitB : ¬ fitFrom [(65, 65)] ⟨#[66]⟩ 1 := fun h => by
  have := h 0 (by decide) (by decide) (by decide)
  revert this
  decide
theorem hasA (a : Option Addr) (c : Nat) (w : World) (h : S.Rg w a [(65, 65)]) : Calls Tryd.prog 19 #[.slice a 1 c, .string ⟨#[65]⟩] w fun e w' => e = .returned (.bool true) ∧ Touch (fun _ => False) w w' := by
  refine (rowHas_any a c [(65, 65)] ⟨#[65]⟩ w h rfl (by decide)).mono ?_
  rintro e w' ⟨⟨b, rfl, hb⟩, tc⟩
  obtain rfl : b = true := hb.2 fitA
  exact ⟨rfl, tc⟩
theorem hasB' (a : Option Addr) (c : Nat) (w : World) (h : S.Rg w a [(65, 65)]) : Calls Tryd.prog 19 #[.slice a 1 c, .string ⟨#[66]⟩] w fun e w' => e = .returned (.bool false) ∧ Touch (fun _ => False) w w' := by
  refine (rowHas_any a c [(65, 65)] ⟨#[66]⟩ w h rfl (by decide)).mono ?_
  rintro e w' ⟨⟨b, rfl, hb⟩, tc⟩
  cases b
  · exact ⟨rfl, tc⟩
  · exact absurd (hb.1 rfl) fitB
set_option maxRecDepth 100000 in
set_option maxHeartbeats 8000000 in
theorem speaks_yes (w : World) (hbd : Bord w) : Calls Tryd.prog 14 #[] w fun e w' => e = .returned (.bool true) ∧ Touch (fun _ => False) w w' := by
  have HBD := hid hbd
  clear hbd
  have RG := hid (lit_rg w 65 65)
  have TB := hid ((Touch.refl (fun _ => False) w).alloc (.cells #[.int .i64 65, .int .i64 65] 38))
  go_enter Tryd.func14, Tryd.ntmps14
  go_wp2_with fail
  change Calls Tryd.prog 16 #[_] (w.alloc (.cells #[.int .i64 65, .int .i64 65] 38)) _
  generalize (w.alloc (.cells #[.int .i64 65, .int .i64 65] 38)) = w2 at *
  refine (S.of_says (some ⟨w.heap.size, 0, none⟩) 1 [(65, 65)] w2 RG.out (by simp)).mono ?_
  rintro e w3 ⟨v, s3, rfl, hcs, his, ows⟩
  obtain ⟨a3, c3, hv, hrs⟩ := S.own_rg ows.own
  subst hv
  have T3 := hid (TB.out.trans ows.touch (fun _ _ e => e))
  have KS := hid (split_one 65 (by decide) a3 c3 s3 w3 hrs hcs (ow_cap ows) (HBD.out.new T3.out) (in_scalar his (by decide)))
  rw [zip65] at KS
  clear hcs his ows hrs RG TB
  go_wp2_with fail
  refine KS.out.mono ?_
  rintro e w4 ⟨b, n, a, c, rfl, hb, hn, hcell, hrg, tc⟩
  have T4 := hid (T3.out.trans tc (fun _ _ e => e))
  have RG := hid hrg
  have hcell1 : w4.cell? ⟨b, 0, none⟩ = some (.slice a 1 c) := hcell
  clear hcell hrg tc KS T3
  go_wp2_with fail
  refine (hasA a c w4 RG.out).mono ?_
  rintro e w5 ⟨rfl, t5⟩
  have hcell2 : w5.cell? ⟨b, 0, none⟩ = some (.slice a 1 c) := (t5.cell (p := ⟨b, 0, none⟩) hb id).trans hcell1
  have RG5 := hid (RG.out.new t5)
  have T5 := hid (T4.out.trans t5 (fun _ _ e => e))
  clear t5 RG T4 hcell1
  go_wp2_with fail
  refine (hasB' a c w5 RG5.out).mono ?_
  rintro e w6 ⟨rfl, t6⟩
  have T6 := hid (T5.out.trans t6 (fun _ _ e => e))
  clear t6 T5
  go_wp2
  go_ret
  exact ⟨rfl, T6.out⟩
end Go.Proofs.YtmokfheckngfiaaDoor

/- SplitTells' walk; conditions: those told. -/
namespace Go.Proofs.YtmokfheckngfiaaDoor
open Go.RowKit
open Go.Lib

theorem fits_en8 {l : List S.R2} {x : Nat} (h : scB (x : Int) = true) : fitsB l (en8 (x : Int)) = S.hasB (x : Int) l := by
  unfold fitsB
  rw [scOf_en8 x h, decide_eq_true (by omega)]
  rfl
theorem cnt_lit {zs : List (List S.R2)} {t : List Int} {B : Bool} (h : zs.countP (fun z => fitLB z t) = if B = true then 1 else 0) : ((zs.countP (fun z => fitLB z t) : Nat) : Int) = if B then 1 else 0 := by
  rw [h]
  cases B <;> rfl
attribute [local irreducible] en8 scOf vOf bts zOf fitLB fitsB
set_option maxRecDepth 100000 in
set_option maxHeartbeats 32000000 in
theorem splitTells_walk (a : Option Addr) (c : Nat) (l : List S.R2) (r : Int) (s : ByteArray) (w : World) (hbd : Bord w) (hl : S.Rg w a l) (hb : l.length ≤ 1048576) : Calls Tryd.prog 8 #[.slice a l.length c, .int .i64 r, .string s] w fun e w' => e = .returned (.bool true) ∧ Touch (fun _ => False) w w' := by
  have HBD := hid hbd
  have HL := hid hl
  clear hbd hl
  go_enter Tryd.func8, Tryd.ntmps8
  go_wp2_with fail
  refine (speaks_yes w HBD.out).mono ?_
  rintro e w1 ⟨rfl, t1⟩
  have T1 := hid t1
  have KM := hid (S.made_any a c l w1 (HL.out.new t1) (by omega))
  clear t1
  go_wp2_with fail
  refine KM.out.mono ?_
  rintro e w2 ⟨v, v2, set, rfl, hcs, his, ow, ow2⟩
  obtain ⟨a2, c2, hv, hrs⟩ := ow.rg
  subst hv
  obtain ⟨a3, c3, hv2, hrl⟩ := ow2.rg
  subst hv2
  have T2 := hid (T1.out.trans ow.touch (fun _ _ e => e))
  have KS := hid (split_all a2 c2 set w2 hrs hcs ow.cap (HBD.out.new T2.out))
  have CS := hid hcs
  have IS := hid his
  have RL := hid hrl
  have hsl := S.canon_len hcs
  clear hcs his ow ow2 hrs KM T1 HL hrl
  go_wp2_with fail
  refine KS.out.mono ?_
  rintro e w3 hd
  obtain ⟨ar, ps, cr, rfl, told⟩ := split_told2 CS.out hd
  have T3 := hid (T2.out.trans told.touch (fun _ _ e => e))
  have RL3 := hid (RL.out.new told.touch)
  obtain ⟨zs, hzs⟩ : ∃ zs, zs = ps.map zOf := ⟨_, rfl⟩
  have hzl : ps.length = zs.length := by rw [hzs, List.length_map]
  have RW := hid told.rows
  have hfew := told.few
  have htw := told.twelve
  have H4 := hid (fun z hz => (told.one z hz).2)
  have CNT := hid (fun t => told.cnt l t IS.out)
  rw [← hzs] at RW H4 CNT
  rw [hzl] at hfew htw ⊢
  clear hd told KS RL T2 hzs hzl
  have h12 : ¬ (12 * (set.length : Int) < (zs.length : Int)) := by omega
  have KF := hid (fits_any a3 c3 l s w3 RL3.out (by omega))
  have KQ := hid (fun w5 (t : Touch (fun _ => False) w3 w5) => count_any ar cr zs s w5 (RW.out.new t) hfew H4.out)
  have C0 := hid (cnt_lit (CNT.out (bts s)))
  rw [C0.out] at KQ
  clear C0 htw
  generalize fitsB l (bts s) = F at *
  cases F with
  | false =>
    go_wp2_with fail
    refine KF.out.mono ?_
    rintro e w5 ⟨rfl, t5⟩
    have T5 := hid t5
    clear t5 KF
    go_wp2_with fail
    refine (KQ.out w5 T5.out).mono ?_
    rintro e w6 ⟨rfl, t6⟩
    have T35 := hid (T5.out.trans t6 (fun _ _ e => e))
    have T6 := hid (T3.out.trans T35.out (fun _ _ e => e))
    have RW6 := hid (RW.out.new T35.out)
    have RL6 := hid (RL3.out.new T35.out)
    clear t6 KQ T5 T35 RW RL3 T3
    go_wp2_with fail
    have KC := hid (rscalar_any r w6)
    cases hsc : scB r with
    | false =>
      rw [hsc] at KC
      go_wp2_with fail
      refine KC.out.mono ?_
      rintro e w7 ⟨rfl, rfl⟩
      clear KC
      go_wp2
      go_ret
      exact ⟨rfl, T6.out⟩
    | true =>
      rw [hsc] at KC
      have h2 := (scB_iff r).1 hsc
      obtain ⟨x, rfl⟩ : ∃ x : Nat, r = (x : Int) := ⟨r.toNat, by omega⟩
      have KI := hid (S.in_any a3 c3 l (x : Int) w6 RL6.out (by omega))
      have KY := hid (show ∀ w, Calls Tryd.prog 18 #[.int .i64 (x : Int), .int .i64 1] w fun e w' => e = .returned (.string (strOfNums (en8 (x : Int)))) ∧ Touch (fun _ => False) w w' from fun w => bytes_any 1 (.inl rfl) (x : Int) (okc_sc2 hsc) w)
      have CX := hid (cnt_lit (CNT.out (bts (strOfNums (en8 (x : Int))))))
      rw [bts_str _ (en8_in (x : Int) (okc_sc2 hsc)), fits_en8 hsc] at CX
      have KN := hid (fun w7 (t : Touch (fun _ => False) w6 w7) => count_any ar cr zs (strOfNums (en8 (x : Int))) w7 (RW6.out.new t) hfew H4.out)
      rw [bts_str _ (en8_in (x : Int) (okc_sc2 hsc)), CX.out] at KN
      clear CX h2
      generalize strOfNums (en8 (x : Int)) = sx at *
      go_wp2_with fail
      refine KC.out.mono ?_
      rintro e w7 ⟨rfl, rfl⟩
      clear KC hsc
      generalize S.hasB (x : Int) l = B at *
      cases B with
      | false =>
        go_wp2_with fail
        refine KI.out.mono ?_
        rintro e w8 ⟨rfl, t8⟩
        have T8 := hid t8
        clear t8 KI
        go_wp2_with fail
        refine (KY.out _).mono ?_
        rintro e w9 ⟨rfl, t9⟩
        have T9 := hid (T8.out.trans t9 (fun _ _ e => e))
        clear t9 KY T8
        go_wp2_with fail
        refine (KN.out w9 T9.out).mono ?_
        rintro e w10 ⟨rfl, t10⟩
        have T10 := hid (T6.out.trans (T9.out.trans t10 (fun _ _ e => e)) (fun _ _ e => e))
        clear t10 KN T9
        go_wp2
        go_ret
        exact ⟨rfl, T10.out⟩
      | true =>
        go_wp2_with fail
        refine KI.out.mono ?_
        rintro e w8 ⟨rfl, t8⟩
        have T8 := hid t8
        clear t8 KI
        go_wp2_with fail
        refine (KY.out _).mono ?_
        rintro e w9 ⟨rfl, t9⟩
        have T9 := hid (T8.out.trans t9 (fun _ _ e => e))
        clear t9 KY T8
        go_wp2_with fail
        refine (KN.out w9 T9.out).mono ?_
        rintro e w10 ⟨rfl, t10⟩
        have T10 := hid (T6.out.trans (T9.out.trans t10 (fun _ _ e => e)) (fun _ _ e => e))
        clear t10 KN T9
        go_wp2
        go_ret
        exact ⟨rfl, T10.out⟩
  | true =>
    go_wp2_with fail
    refine KF.out.mono ?_
    rintro e w5 ⟨rfl, t5⟩
    have T5 := hid t5
    clear t5 KF
    go_wp2_with fail
    refine (KQ.out w5 T5.out).mono ?_
    rintro e w6 ⟨rfl, t6⟩
    have T35 := hid (T5.out.trans t6 (fun _ _ e => e))
    have T6 := hid (T3.out.trans T35.out (fun _ _ e => e))
    have RW6 := hid (RW.out.new T35.out)
    have RL6 := hid (RL3.out.new T35.out)
    clear t6 KQ T5 T35 RW RL3 T3
    go_wp2_with fail
    have KC := hid (rscalar_any r w6)
    cases hsc : scB r with
    | false =>
      rw [hsc] at KC
      go_wp2_with fail
      refine KC.out.mono ?_
      rintro e w7 ⟨rfl, rfl⟩
      clear KC
      go_wp2
      go_ret
      exact ⟨rfl, T6.out⟩
    | true =>
      rw [hsc] at KC
      have h2 := (scB_iff r).1 hsc
      obtain ⟨x, rfl⟩ : ∃ x : Nat, r = (x : Int) := ⟨r.toNat, by omega⟩
      have KI := hid (S.in_any a3 c3 l (x : Int) w6 RL6.out (by omega))
      have KY := hid (show ∀ w, Calls Tryd.prog 18 #[.int .i64 (x : Int), .int .i64 1] w fun e w' => e = .returned (.string (strOfNums (en8 (x : Int)))) ∧ Touch (fun _ => False) w w' from fun w => bytes_any 1 (.inl rfl) (x : Int) (okc_sc2 hsc) w)
      have CX := hid (cnt_lit (CNT.out (bts (strOfNums (en8 (x : Int))))))
      rw [bts_str _ (en8_in (x : Int) (okc_sc2 hsc)), fits_en8 hsc] at CX
      have KN := hid (fun w7 (t : Touch (fun _ => False) w6 w7) => count_any ar cr zs (strOfNums (en8 (x : Int))) w7 (RW6.out.new t) hfew H4.out)
      rw [bts_str _ (en8_in (x : Int) (okc_sc2 hsc)), CX.out] at KN
      clear CX h2
      generalize strOfNums (en8 (x : Int)) = sx at *
      go_wp2_with fail
      refine KC.out.mono ?_
      rintro e w7 ⟨rfl, rfl⟩
      clear KC hsc
      generalize S.hasB (x : Int) l = B at *
      cases B with
      | false =>
        go_wp2_with fail
        refine KI.out.mono ?_
        rintro e w8 ⟨rfl, t8⟩
        have T8 := hid t8
        clear t8 KI
        go_wp2_with fail
        refine (KY.out _).mono ?_
        rintro e w9 ⟨rfl, t9⟩
        have T9 := hid (T8.out.trans t9 (fun _ _ e => e))
        clear t9 KY T8
        go_wp2_with fail
        refine (KN.out w9 T9.out).mono ?_
        rintro e w10 ⟨rfl, t10⟩
        have T10 := hid (T6.out.trans (T9.out.trans t10 (fun _ _ e => e)) (fun _ _ e => e))
        clear t10 KN T9
        go_wp2
        go_ret
        exact ⟨rfl, T10.out⟩
      | true =>
        go_wp2_with fail
        refine KI.out.mono ?_
        rintro e w8 ⟨rfl, t8⟩
        have T8 := hid t8
        clear t8 KI
        go_wp2_with fail
        refine (KY.out _).mono ?_
        rintro e w9 ⟨rfl, t9⟩
        have T9 := hid (T8.out.trans t9 (fun _ _ e => e))
        clear t9 KY T8
        go_wp2_with fail
        refine (KN.out w9 T9.out).mono ?_
        rintro e w10 ⟨rfl, t10⟩
        have T10 := hid (T6.out.trans (T9.out.trans t10 (fun _ _ e => e)) (fun _ _ e => e))
        clear t10 KN T9
        go_wp2
        go_ret
        exact ⟨rfl, T10.out⟩
end Go.Proofs.YtmokfheckngfiaaDoor
