/- Texts of this proof, one behind the other: what each says stands ahead of it. -/
import Derived.Test.YtmokfheckngfiaaDoorM13
import Derived.Test.YtmokfheckngfiaaDoorM6
import Derived.Test.YtmokfheckngfiaaDoorM7
import Derived.Deep.RegionLaw
/- Heads of any rows; conditions: those told. -/
namespace Go.Proofs.YtmokfheckngfiaaDoor
open Go.RowKit
open Go.Lib

/-- Rows in a list in memory. -/
def RowsIn (w : World) (a : Option Addr) (zs : List (List S.R2)) : Prop := zs = [] ∨ ∃ b o, a = some ⟨b, o, none⟩ ∧ b < w.heap.size ∧ ∀ i (h : i < zs.length), ∃ ai ci, w.cell? ⟨b, o + i, none⟩ = some (.slice ai (zs[i]).length ci) ∧ S.Rg w ai zs[i]
theorem RowsIn.new {w w' : World} {a : Option Addr} {zs : List (List S.R2)} (h : RowsIn w a zs) (t : Touch (fun _ => False) w w') : RowsIn w' a zs := by
  rcases h with h | ⟨b, o, rfl, hb, hc⟩
  · exact .inl h
  · refine .inr ⟨b, o, rfl, Nat.lt_of_lt_of_le hb t.size, fun i hi => ?_⟩
    obtain ⟨ai, ci, h1, h2⟩ := hc i hi
    exact ⟨ai, ci, (t.cell (p := ⟨b, o + i, none⟩) hb id).trans h1, h2.new t⟩
/-- The ranges with which rows begin. -/
def headsL (zs : List (List S.R2)) : List S.R2 := zs.flatMap (fun z => z.take 1)
theorem heads_len (zs : List (List S.R2)) : (headsL zs).length ≤ zs.length := by
  unfold headsL
  induction zs with
  | nil => simp
  | cons z zs ih =>
    rw [List.flatMap_cons, List.length_append, List.length_take, List.length_cons]
    omega
theorem heads_step {zs : List (List S.R2)} {k : Nat} (h : k < zs.length) : headsL (zs.take (k + 1)) = headsL (zs.take k) ++ (zs[k]).take 1 := by
  unfold headsL
  rw [List.take_succ_eq_append_getElem h, List.flatMap_append]
  simp
set_option maxRecDepth 100000 in
set_option maxHeartbeats 8000000 in
theorem heads_any (a : Option Addr) (cap : Nat) (zs : List (List S.R2)) (w : World) (hl : RowsIn w a zs) (hb : zs.length * 16 ≤ 140737488351232) :
    Calls Tryd.prog 21 #[.slice a zs.length cap] w fun e w' => ∃ v s, e = .returned v ∧ S.Canon s ∧ (∀ x, S.In x s ↔ (0 ≤ x ∧ x ≤ 1114111) ∧ S.In x (headsL zs)) ∧ S.OwE w w' 38 v s := by
  obtain ⟨i0, hi33, hz0, hz1, hz2⟩ := info_parts S.info33
  have HL := hid hl
  clear hl
  go_enter Tryd.func21, Tryd.ntmps21
  go_wp2_with fail
  go_loopg [3, 8] zs.length (fun gk v3 v8 wr => ∃ k : Nat, k + gk = zs.length ∧ v8 = .int .i64 (k : Nat) ∧ S.OwE w wr 38 v3 (headsL (zs.take k)))
  case atStart => exact ⟨0, by omega, rfl, S.OwE.nil _ _⟩
  case round =>
    obtain ⟨k, hk, rfl, h3⟩ := hrel
    have O3 := hid h3
    have HLR := hid (HL.out.new h3.touch)
    have hln : (headsL (zs.take k)).length ≤ k := by
      have := heads_len (zs.take k)
      rw [List.length_take] at this
      omega
    obtain ⟨a3, c3, hv3⟩ := own_shape h3.own
    subst hv3
    clear h3
    by_cases hlt : k < zs.length
    · obtain ⟨b, o, ha, hbl, hcell⟩ : ∃ b o, a = some ⟨b, o, none⟩ ∧ b < wr.heap.size ∧ ∀ i (h : i < zs.length), ∃ ai ci, wr.cell? ⟨b, o + i, none⟩ = some (.slice ai (zs[i]).length ci) ∧ S.Rg wr ai zs[i] := by
        rcases HLR.out with h | h
        · rw [h] at hlt; simp at hlt
        · exact h
      subst ha
      obtain ⟨ai, ci, d0, hrg⟩ := hcell k hlt
      have HT := hid (heads_step hlt)
      have hkI : (k : Int) < (zs.length : Int) := by omega
      obtain ⟨z, hz⟩ : ∃ z, z = zs[k] := ⟨_, rfl⟩
      rw [← hz] at d0 hrg HT
      obtain ⟨s, hs⟩ : ∃ s, s = headsL (zs.take k) := ⟨_, rfl⟩
      rw [← hs] at O3 HT hln ⊢
      clear hs hz hcell HLR
      rcases z with _ | ⟨⟨x, y⟩, z⟩
      · have HT2 := hid (show headsL (zs.take (k + 1)) = s by rw [HT.out]; simp)
        have d0' : wr.cell? ⟨b, o + k, none⟩ = some (.slice ai 0 ci) := d0
        clear d0 hrg HT
        go_wp2
        go_roundg (gk - 1)
        case measure => omega
        case rel => exact ⟨k + 1, by omega, by go_num, by rw [HT2.out]; exact O3.out⟩
      · have HT2 := hid (show headsL (zs.take (k + 1)) = s ++ [(x, y)] by rw [HT.out]; simp)
        obtain ⟨b4, o4, ha4, hb4, e0, e1, _⟩ := S.Rg.head hrg
        subst ha4
        dsimp only at e0 e1
        obtain ⟨n, hn⟩ : ∃ n, n = ((x, y) :: z).length := ⟨_, rfl⟩
        have hn1 : 0 < n := by rw [hn]; simp
        have hn1I : (0 : Int) < (n : Int) := by omega
        rw [← hn] at d0
        clear hrg HT hn
        go_wp2_with (at_builtin; refine wpList_append_own_at _ rfl _ _ 34 rfl 0 38 i0 (.agg #[.int .i64 0, .int .i64 0]) 2 16 Tryd.underlying34 hi33 hz0 hz1 hz2 rfl (by decide) _ _ _ rfl (O3.out.own.alloc _) ⟨wr.heap.size, 0, none⟩ 1 1 [.int .i64 x, .int .i64 y] rfl rfl (row_new wr [.int .i64 x, .int .i64 y] 38) (by intro u hu; simp at hu; rcases hu with rfl | rfl <;> rfl) (by unfold maxLen; omega) (by omega) (Nat.zero_le _) ?_)
        intro v4' w4 hown hgrow _ hat
        have P4 := hid (O3.out.more (xs := [(x, y)]) hown hgrow hat)
        clear hown hgrow hat d0 e0 e1
        go_wp2
        go_roundg (gk - 1)
        case measure => omega
        case rel => exact ⟨k + 1, by omega, by go_num, by rw [HT2.out]; exact P4.out⟩
    · obtain rfl : k = zs.length := by omega
      rw [List.take_length] at O3 hln ⊢
      obtain ⟨a4', c4', hv4, hrg⟩ := O3.out.rg
      simp only [Value.slice.injEq] at hv4
      obtain ⟨rfl, _, rfl⟩ := hv4
      have K := hid (S.of_says a3 c3 (headsL zs) wr hrg (by omega))
      clear hrg
      go_wp2_with fail
      refine K.out.mono ?_
      rintro e w1 ⟨v, s, rfl, hcn, hin, ow⟩
      have OW := hid ow
      have HCN := hid hcn
      have HIN := hid hin
      obtain ⟨a2, c2, hav⟩ := own_shape ow.own
      subst hav
      clear ow hcn hin K
      go_wp2
      go_ret
      exact ⟨_, s, rfl, HCN.out, HIN.out, ⟨OW.out.own, fun g e => Nat.le_trans O3.out.touch.size (OW.out.new g e), O3.out.touch.trans OW.out.touch (fun _ _ e => e)⟩⟩
end Go.Proofs.YtmokfheckngfiaaDoor

/- What Split hands back, as rows in memory; conditions: those told. -/
namespace Go.Proofs.YtmokfheckngfiaaDoor
open Go.RowKit
open Go.Lib

theorem RowsAt.get {w : World} {N : Nat} : ∀ {xs : List Value} {l : List (Nat × Nat)}, RowsAt w N xs l → ∀ i (h : i < xs.length) (h' : i < l.length), Rowed w N xs[i] (zOf l[i])
  | _ :: _, _ :: _, h, 0, _, _ => h.1
  | _ :: _, _ :: _, h, i + 1, h1, h2 => RowsAt.get h.2 i (by simpa using h1) (by simpa using h2)
/-- What Split hands back, as its callers see it. -/
structure Told (s : List S.R2) (w w' : World) (a : Option Addr) (zs : List (List S.R2)) : Prop where
  rows : RowsIn w' a zs
  few : zs.length ≤ 1114112
  one : ∀ z ∈ zs, 1 ≤ z.length ∧ z.length ≤ 4
  tells : ∀ t : List Int, (∃ z ∈ zs, fitL z t) ↔ ∃ x : Nat, (S.In (x : Int) s ∧ ¬ S.In (x : Int) surL) ∧ t = en8 (x : Int)
  touch : Touch (fun _ => False) w w'
theorem zOf_len (p : Nat × Nat) : 1 ≤ (zOf p).length ∧ (zOf p).length ≤ 4 := by
  unfold zOf
  rw [List.length_zip]
  have := en8_len (p.1 : Int)
  have := en8_len (p.2 : Int)
  omega
attribute [local irreducible] fitL zOf
theorem split_told {s : List S.R2} {w w' : World} {e : Ending} (h : SplitDone s w e w') : ∃ a zs c, e = .returned (.slice a zs.length c) ∧ Told s w w' a zs := by
  obtain ⟨m, l, v, os, hcm, him, hap, rfl, hown, hra, htc⟩ := h
  have hlen := hra.len
  have hin : ∀ r ∈ m, r.2 ≤ 1114111 ∧ (r.2 < 55296 ∨ 57344 ≤ r.1) := fun r hr => by
    have h1 := hcm.in_ r hr
    exact ⟨h1.2.2, apart_sur (fun x hx => ((him x).1 hx).2) r hr h1.2.1⟩
  have hfew := hap.few 1114112 (fun r hr => by have := (hin r hr).1; omega)
  obtain ⟨a, c, hv⟩ := own_shape hown
  subst hv
  refine ⟨a, l.map zOf, c, by rw [List.length_map, hlen], ?_, by rw [List.length_map]; exact hfew, fun z hz => ?_, fun t => ?_, htc⟩
  · rcases Nat.eq_zero_or_pos l.length with h0 | h0
    · exact .inl (by rw [List.eq_nil_of_length_eq_zero h0]; rfl)
    · rcases hown.2 with ⟨h1, h2⟩ | ⟨g, cap, cur, hv, hg, hh, rest⟩
      · omega
      · simp only [Value.slice.injEq] at hv
        obtain ⟨rfl, _, rfl⟩ := hv
        refine .inr ⟨g, 0, rfl, lt_of_block hh, fun i hi => ?_⟩
        rw [List.length_map] at hi
        obtain ⟨ai, ci, hx, hr, _⟩ := hra.get i (by omega) hi
        have h1 := hown.cells (g := g) rfl i os[i] (by rw [List.getElem?_eq_getElem])
        rw [S.add_g, hx] at h1
        refine ⟨ai, ci, ?_, ?_⟩
        · rw [Nat.zero_add, List.getElem_map]
          exact h1
        · rw [List.getElem_map]
          exact hr
  · obtain ⟨p, _, rfl⟩ := List.mem_map.1 hz
    exact zOf_len p
  · have hf := allp_fit hap hin t
    constructor
    · rintro ⟨z, hz, hft⟩
      obtain ⟨p, hp, hpz⟩ := List.mem_map.1 hz
      obtain ⟨x, hx, ht⟩ := hf.1 ⟨p, hp, by rw [hpz]; exact hft⟩
      exact ⟨x, (him _).1 hx, ht⟩
    · rintro ⟨x, hx, ht⟩
      obtain ⟨p, hp, hft⟩ := hf.2 ⟨x, (him _).2 hx, ht⟩
      exact ⟨zOf p, List.mem_map.2 ⟨p, hp, rfl⟩, hft⟩
end Go.Proofs.YtmokfheckngfiaaDoor

/- made: what the laws make of a list of pairs; conditions: those told. -/
namespace Go.Proofs.YtmokfheckngfiaaDoor.S
open Go.RowKit
open Go.Lib

set_option maxRecDepth 100000 in
set_option maxHeartbeats 8000000 in
theorem made_any (a : Option Addr) (cap : Nat) (l : List R2) (w : World) (hl : Rg w a l) (hb : l.length * 16 ≤ 140737488351232) :
    Calls Tryd.prog 20 #[.slice a l.length cap] w fun e w' => ∃ v v2 s, e = .returned (.tuple #[v, v2]) ∧ Canon s ∧ (∀ x, In x s ↔ (0 ≤ x ∧ x ≤ 1114111) ∧ In x l) ∧ OwE w w' 38 v s ∧ OwE w w' 69 v2 l := by
  obtain ⟨i0, hi33, hz0, hz1, hz2⟩ := info_parts info33
  obtain ⟨j0, hi47, hy0, hy1, hy2⟩ := info_parts info47
  have HL := hid hl
  clear hl
  go_enter Tryd.func20, Tryd.ntmps20
  go_wp2_with fail
  go_loopg [4, 5, 6] l.length (fun gk v4 v5 i wr => ∃ k : Nat, k + gk = l.length ∧ i = .int .i64 (k : Nat) ∧ OwE w wr 38 v4 (l.take k) ∧ OwE w wr 69 v5 (l.take k))
  case atStart => exact ⟨0, by omega, rfl, OwE.nil _ _, OwE.nil _ _⟩
  case round =>
    obtain ⟨k, hk, rfl, h4, h5⟩ := hrel
    have O4 := hid h4
    have O5 := hid h5
    have HLR := hid (HL.out.new h4.touch)
    obtain ⟨a4, c4, hv4⟩ := own_shape h4.own
    obtain ⟨a5, c5, hv5⟩ := own_shape h5.own
    subst hv4
    subst hv5
    clear h4 h5
    have htl : (l.take k).length = k := by rw [List.length_take]; omega
    rw [htl] at O4 O5 ⊢
    by_cases hlt : k < l.length
    · obtain ⟨b, o, ha, hbl, hcell⟩ : ∃ b o, a = some ⟨b, o, none⟩ ∧ b < wr.heap.size ∧ ∀ i (h : i < l.length), wr.cell? ⟨b, o + i * 2, none⟩ = some (.int .i64 (l[i]).1) ∧ wr.cell? ⟨b, o + i * 2 + 1, none⟩ = some (.int .i64 (l[i]).2) := by
        rcases HLR.out with h | h
        · rw [h] at hlt; simp at hlt
        · exact h
      subst ha
      obtain ⟨d0, d1⟩ := hcell k hlt
      obtain ⟨r, hr⟩ : ∃ r, r = l[k] := ⟨_, rfl⟩
      have HT := hid (show l.take (k + 1) = l.take k ++ [r] from by rw [hr, List.take_succ_eq_append_getElem hlt])
      rw [← hr] at d0 d1
      obtain ⟨x, y⟩ := r
      dsimp only at d0 d1
      have HRK := hid hr.symm
      have hkI : (k : Int) < (l.length : Int) := by omega
      clear hcell hr htl
      obtain ⟨s, hs⟩ : ∃ s, s = l.take k := ⟨_, rfl⟩
      have hsl : s.length ≤ k := by rw [hs, List.length_take]; omega
      rw [← hs] at O4 O5 HT
      clear hs
      go_upto_region 6 with fail
      go_region_law (
        (refine step_append_own _ (by rfl) _ _ _ (by rfl) 0 38 i0 _ 2 16 Tryd.underlying34 hi33 hz0 hz1 hz2 rfl (by decide) _ _ _ (by rfl) ((O4.out.own.alloc _).drew) ⟨wr.heap.size, 0, none⟩ 1 1 [.int .i64 x, .int .i64 y] (by rfl) (by rfl) (row_new wr [.int .i64 x, .int .i64 y] 38) (by intro u hu; simp at hu; rcases hu with rfl | rfl <;> rfl) (by unfold maxLen; omega) (by omega) (Nat.zero_le _) (wr.heap.size + 1) (by simp) ?_
         intro v4' w4 hown hgrow hat))
      all_goals
        have HG := hid (show (wr.alloc (.cells #[.int .i64 x, .int .i64 y] 38)).grownBy w4 (Value.slice a4 k c4).ownBlock from ⟨hgrow.os, hgrow.tape, hgrow.output, hgrow.size, hgrow.block⟩)
        have P4 := hid (O4.out.more (xs := [(x, y)]) hown HG.out hat)
        have P5 := hid (O5.out.beside O4.out (by decide) HG.out)
        have HLR2 := hid (show Rg w4 (some ⟨b, o, none⟩) l from HL.out.new P4.out.touch)
        clear hown hgrow hat d0 d1 HG
        obtain ⟨a4', c4', hv4⟩ := own_shape P4.out.own
        subst hv4
        obtain ⟨d0, d1⟩ : w4.cell? ⟨b, o + k * 2, none⟩ = some (.int .i64 x) ∧ w4.cell? ⟨b, o + k * 2 + 1, none⟩ = some (.int .i64 y) := by
          rcases HLR2.out with h | ⟨b', o', e, _, hc⟩
          · rw [h] at hlt; simp at hlt
          · simp only [Option.some.injEq, Addr.mk.injEq, and_true] at e
            obtain ⟨rfl, rfl⟩ := e
            have hq := hc k hlt
            rw [HRK.out] at hq
            exact hq
        clear HLR HLR2
        go_upto_region 7 with fail
        go_region_law (
        (refine step_append_own _ (by rfl) _ _ _ (by rfl) 0 69 j0 _ 2 16 Tryd.underlying43 hi47 hy0 hy1 hy2 rfl (by decide) _ _ _ (by rfl) ((P5.out.own.alloc _).drew) ⟨w4.heap.size, 0, none⟩ 1 1 [.int .i64 x, .int .i64 y] (by rfl) (by rfl) (row_new w4 [.int .i64 x, .int .i64 y] 69) (by intro u hu; simp at hu; rcases hu with rfl | rfl <;> rfl) (by unfold maxLen; omega) (by omega) (Nat.zero_le _) (w4.heap.size + 1) (by simp) ?_
         intro v5' w5 hown hgrow hat))
        all_goals
          have HG := hid (show (w4.alloc (.cells #[.int .i64 x, .int .i64 y] 69)).grownBy w5 (Value.slice a5 k c5).ownBlock from ⟨hgrow.os, hgrow.tape, hgrow.output, hgrow.size, hgrow.block⟩)
          have Q5 := hid (P5.out.more (xs := [(x, y)]) hown HG.out hat)
          have Q4 := hid (P4.out.beside P5.out (by decide) HG.out)
          clear hown hgrow hat HG
          go_wp2
          go_roundg (gk - 1)
          case measure => omega
          case rel =>
            refine ⟨k + 1, by omega, by go_num, ?_, ?_⟩
            · rw [HT.out]
              have := Q4.out
              rw [List.length_append] at this
              exact this
            · rw [HT.out]
              exact Q5.out
    · obtain rfl : k = l.length := by omega
      rw [List.take_length] at O4 O5
      obtain ⟨a4', c4', hv4, hrg⟩ := O4.out.rg
      simp only [Value.slice.injEq] at hv4
      obtain ⟨rfl, _, rfl⟩ := hv4
      have K := hid (of_says a4 c4 l wr hrg hb)
      clear hrg
      go_wp2_with fail
      refine K.out.mono ?_
      rintro e w1 ⟨v, s, rfl, hcn, hin, ow⟩
      have OW := hid ow
      have HCN := hid hcn
      have HIN := hid hin
      obtain ⟨a2, c2, hav⟩ := own_shape ow.own
      subst hav
      clear ow hcn hin K
      go_wp2
      go_ret2
      exact ⟨_, _, s, rfl, HCN.out, HIN.out, ⟨OW.out.own, fun g e => Nat.le_trans O4.out.touch.size (OW.out.new g e), O4.out.touch.trans OW.out.touch (fun _ _ e => e)⟩, O5.out.still OW.out.touch⟩
end Go.Proofs.YtmokfheckngfiaaDoor.S

/- Has of a row: does a text fit; conditions: those told. -/
namespace Go.Proofs.YtmokfheckngfiaaDoor
open Go.RowKit
open Go.Lib

/-- Does a text fit into a row, from a place on? -/
def fitFrom (z : List S.R2) (s : ByteArray) (i : Nat) : Prop := ∀ k (h : k < z.length) (h' : k < s.size), k < i → (z[k]).1 ≤ (s[k].toNat : Int) ∧ (s[k].toNat : Int) ≤ (z[k]).2
set_option maxRecDepth 100000 in
set_option maxHeartbeats 4000000 in
theorem rowHas_short (a : Option Addr) (cap : Nat) (z : List S.R2) (s : ByteArray) (w : World) (hn : s.size ≠ z.length) :
    Calls Tryd.prog 19 #[.slice a z.length cap, .string s] w fun e w' => e = .returned (.bool false) ∧ Touch (fun _ => False) w w' := by
  have hnI : ¬ ((s.size : Int) = (z.length : Int)) := by omega
  go_enter Tryd.func19, Tryd.ntmps19
  go_wp2
  go_ret
  exact ⟨rfl, Touch.refl _ _⟩
def FitR (z : List S.R2) (s : ByteArray) (w : World) (e : Ending) (w' : World) : Prop := (∃ c, e = .returned (.bool c) ∧ (c = true ↔ fitFrom z s z.length)) ∧ Touch (fun _ => False) w w'
set_option maxRecDepth 100000 in
set_option maxHeartbeats 4000000 in
theorem rowHas_any (a : Option Addr) (cap : Nat) (z : List S.R2) (s : ByteArray) (w : World) (hl : S.Rg w a z) (hn : s.size = z.length) (hz : z.length ≤ 4) :
    Calls Tryd.prog 19 #[.slice a z.length cap, .string s] w fun e w' => FitR z s w e w' := by
  have HL := hid hl
  clear hl
  have hnI : (s.size : Int) = (z.length : Int) := by omega
  go_enter Tryd.func19, Tryd.ntmps19
  go_wp2_with fail
  go_loopg [15] z.length (fun gk i wr => ∃ k : Nat, k + gk = z.length ∧ i = .int .i64 (k : Nat) ∧ fitFrom z s k ∧ Touch (fun _ => False) w wr)
  case atStart => exact ⟨0, by omega, rfl, fun k _ _ h => by omega, Touch.refl _ _⟩
  case round =>
    obtain ⟨k, hk, rfl, hfit, htc⟩ := hrel
    have TC := hid htc
    have FT := hid hfit
    have R1 := hid (HL.out.new htc)
    clear htc hfit
    by_cases hlt : k < z.length
    · obtain ⟨b, o, ha, hbl, hcell⟩ : ∃ b o, a = some ⟨b, o, none⟩ ∧ b < wr.heap.size ∧ ∀ i (h : i < z.length), wr.cell? ⟨b, o + i * 2, none⟩ = some (.int .i64 (z[i]).1) ∧ wr.cell? ⟨b, o + i * 2 + 1, none⟩ = some (.int .i64 (z[i]).2) := by
        rcases R1.out with h | h
        · rw [h] at hlt; simp at hlt
        · exact h
      subst ha
      obtain ⟨d0, d1⟩ := hcell k hlt
      have hks : k < s.size := by omega
      have hksI : (k : Int) < (s.size : Int) := by omega
      have hkI : (k : Int) < (z.length : Int) := by omega
      obtain ⟨u, hu⟩ : ∃ u : Nat, u = s[k].toNat := ⟨_, rfl⟩
      have hbu : s[k].toNat = u := hu.symm
      have lu : u < 256 := by rw [hu]; exact UInt8.toNat_lt _
      have wu : IntKind.i64.wrap (u : Int) = (u : Int) := by rw [IntKind.wrap_i64]; omega
      have HU := hid hbu
      obtain ⟨r, hr⟩ : ∃ r, r = z[k] := ⟨_, rfl⟩
      have HR := hid hr
      rw [← hr] at d0 d1
      obtain ⟨x, y⟩ := r
      dsimp only at d0 d1
      clear hcell hr R1 hu
      have hXN := hid (show fitFrom z s (k + 1) ↔ x ≤ (u : Int) ∧ (u : Int) ≤ y from by
        constructor
        · intro h
          have := h k hlt hks (by omega)
          rw [← HR.out, HU.out] at this
          exact this
        · intro h j hj hj' hlt2
          rcases Nat.lt_or_ge j k with q | q
          · exact FT.out j hj hj' q
          · obtain rfl : j = k := by omega
            rw [← HR.out, HU.out]
            exact h)
      have hNO := hid (show ¬ fitFrom z s (k + 1) → ¬ fitFrom z s z.length from fun h g => h (fun j hj hj' _ => g j hj hj' hj))
      by_cases h1 : (u : Int) < x
      · have hNF := hid (hNO.out (fun g => by have := hXN.out.1 g; omega))
        go_wp2
        go_ret
        exact ⟨⟨_, rfl, by simp; exact hNF.out⟩, by first | exact (TC.out.alloc _) | exact ((TC.out.alloc _).drewN _)⟩
      · by_cases h2 : (u : Int) ≤ y
        · have h2' : ¬ (y < (u : Int)) := by omega
          go_wp2_with fail
          go_roundg (gk - 1)
          case measure => omega
          case rel => exact ⟨k + 1, by omega, by go_num, hXN.out.2 ⟨by omega, h2⟩, by first | exact (TC.out.alloc _) | exact ((TC.out.alloc _).drewN _)⟩
        · have h2' : y < (u : Int) := by omega
          have hNF := hid (hNO.out (fun g => by have := hXN.out.1 g; omega))
          go_wp2
          go_ret
          exact ⟨⟨_, rfl, by simp; exact hNF.out⟩, by first | exact (TC.out.alloc _) | exact ((TC.out.alloc _).drewN _)⟩
    · obtain rfl : k = z.length := by omega
      have FT2 := hid FT.out
      go_wp2
      go_ret
      exact ⟨⟨_, rfl, by simp; exact FT2.out⟩, TC.out⟩
end Go.Proofs.YtmokfheckngfiaaDoor

/- speaks of the laws of utfsplit; conditions: those told. -/
namespace Go.Proofs.YtmokfheckngfiaaDoor
open Go.RowKit
open Go.Lib

theorem zip65 : List.zip (en8 ((65 : Nat) : Int)) (en8 ((65 : Nat) : Int)) = [(65, 65)] := by decide
/-- Of one range of one number, what Split is asked. -/
theorem in_scalar {s : List S.R2} {r : Int} (h : ∀ x, S.In x s ↔ (0 ≤ x ∧ x ≤ 1114111) ∧ S.In x [(r, r)]) (hr : scB r = true) : ∀ y, S.In y s ∧ ¬ S.In y surL ↔ y = r := fun y => by
  have h2 := (scB_iff r).1 hr
  rw [h y, S.in_one, surL, S.in_one]
  dsimp only
  omega
theorem in_none {s : List S.R2} {r : Int} (h : ∀ x, S.In x s ↔ (0 ≤ x ∧ x ≤ 1114111) ∧ S.In x [(r, r)]) (hr : scB r = false) : ∀ y, S.In y s ∧ ¬ S.In y surL ↔ False := fun y => by
  have h2 : ¬ (0 ≤ r ∧ r ≤ 1114111 ∧ (r < 55296 ∨ 57344 ≤ r)) := fun k => by
    rw [(scB_iff r).2 k] at hr
    cases hr
  rw [h y, S.in_one, surL, S.in_one]
  dsimp only
  refine ⟨fun k => ?_, False.elim⟩
  omega
theorem ow_cap {W0 wr : World} {ty n cap : Nat} {a : Option Addr} {s : List S.R2} (h : S.Ow W0 wr ty (.slice a n cap) s) : s.length ≤ cap := by
  rcases h.own.2 with ⟨_, h0⟩ | ⟨g, cap', cur, hv, _, _, hle, _⟩
  · omega
  · simp only [Value.slice.injEq] at hv
    omega
theorem fitA : fitFrom [(65, 65)] ⟨#[65]⟩ 1 := fun k h _ _ => by
  obtain rfl : k = 0 := by simp at h; omega
  exact (show (65 : Int) ≤ 65 ∧ (65 : Int) ≤ 65 by decide)
theorem fitB : ¬ fitFrom [(65, 65)] ⟨#[66]⟩ 1 := fun h => by
  have := h 0 (by decide) (by decide) (by decide)
  revert this
  decide
theorem hasA (a : Option Addr) (c : Nat) (w : World) (h : S.Rg w a [(65, 65)]) : Calls Tryd.prog 19 #[.slice a 1 c, .string ⟨#[65]⟩] w fun e w' => e = .returned (.bool true) ∧ Touch (fun _ => False) w w' := by
  refine (rowHas_any a c [(65, 65)] ⟨#[65]⟩ w h rfl (by decide)).mono ?_
  rintro e w' ⟨⟨b, rfl, hb⟩, tc⟩
  obtain rfl : b = true := hb.2 fitA
  exact ⟨rfl, tc⟩
theorem hasB' (a : Option Addr) (c : Nat) (w : World) (h : S.Rg w a [(65, 65)]) : Calls Tryd.prog 19 #[.slice a 1 c, .string ⟨#[66]⟩] w fun e w' => e = .returned (.bool false) ∧ Touch (fun _ => False) w w' := by
  refine (rowHas_any a c [(65, 65)] ⟨#[66]⟩ w h rfl (by decide)).mono ?_
  rintro e w' ⟨⟨b, rfl, hb⟩, tc⟩
  cases b
  · exact ⟨rfl, tc⟩
  · exact absurd (hb.1 rfl) fitB
set_option maxRecDepth 100000 in
set_option maxHeartbeats 8000000 in
theorem speaks_yes (w : World) (hbd : Bord w) : Calls Tryd.prog 14 #[] w fun e w' => e = .returned (.bool true) ∧ Touch (fun _ => False) w w' := by
  have HBD := hid hbd
  clear hbd
  have RG := hid (lit_rg w 65 65)
  have TB := hid ((Touch.refl (fun _ => False) w).alloc (.cells #[.int .i64 65, .int .i64 65] 38))
  go_enter Tryd.func14, Tryd.ntmps14
  go_wp2_with fail
  change Calls Tryd.prog 16 #[_] (w.alloc (.cells #[.int .i64 65, .int .i64 65] 38)) _
  generalize (w.alloc (.cells #[.int .i64 65, .int .i64 65] 38)) = w2 at *
  refine (S.of_says (some ⟨w.heap.size, 0, none⟩) 1 [(65, 65)] w2 RG.out (by simp)).mono ?_
  rintro e w3 ⟨v, s3, rfl, hcs, his, ows⟩
  obtain ⟨a3, c3, hv, hrs⟩ := S.own_rg ows.own
  subst hv
  have T3 := hid (TB.out.trans ows.touch (fun _ _ e => e))
  have KS := hid (split_one 65 (by decide) a3 c3 s3 w3 hrs hcs (ow_cap ows) (HBD.out.new T3.out) (in_scalar his (by decide)))
  rw [zip65] at KS
  clear hcs his ows hrs RG TB
  go_wp2_with fail
  refine KS.out.mono ?_
  rintro e w4 ⟨b, n, a, c, rfl, hb, hn, hcell, hrg, tc⟩
  have T4 := hid (T3.out.trans tc (fun _ _ e => e))
  have RG := hid hrg
  have hcell1 : w4.cell? ⟨b, 0, none⟩ = some (.slice a 1 c) := hcell
  clear hcell hrg tc KS T3
  go_wp2_with fail
  refine (hasA a c w4 RG.out).mono ?_
  rintro e w5 ⟨rfl, t5⟩
  have hcell2 : w5.cell? ⟨b, 0, none⟩ = some (.slice a 1 c) := (t5.cell (p := ⟨b, 0, none⟩) hb id).trans hcell1
  have RG5 := hid (RG.out.new t5)
  have T5 := hid (T4.out.trans t5 (fun _ _ e => e))
  clear t5 RG T4 hcell1
  go_wp2_with fail
  refine (hasB' a c w5 RG5.out).mono ?_
  rintro e w6 ⟨rfl, t6⟩
  have T6 := hid (T5.out.trans t6 (fun _ _ e => e))
  clear t6 T5
  go_wp2
  go_ret
  exact ⟨rfl, T6.out⟩
end Go.Proofs.YtmokfheckngfiaaDoor
