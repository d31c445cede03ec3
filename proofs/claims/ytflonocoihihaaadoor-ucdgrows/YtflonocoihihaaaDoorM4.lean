/- Texts of this proof, one behind the other: what each says stands ahead of it. -/
import Derived.Test.YtflonocoihihaaaDoorM3
import Derived.Shelf.SlSortCmp.WholeK
import Derived.Shelf.SlicesG.Cmp
import Derived.Shelf.Small.Bits
import Derived.Test.YtflonocoihihaaaDoorM2
import Derived.Test.YtflonocoihihaaaDoorM0
/- Orbit of every number; no condition beside those told. -/
namespace Go.Proofs.YtflonocoihihaaaDoor
open Go.RowKit

set_option maxRecDepth 100000 in
set_option maxHeartbeats 8000000 in
theorem orbit_with (r c : Int) (U : List Int) (w : World) (ht : Tabs w) (hr : 0 ≤ r ∧ r ≤ 1114111) (hcc : capOf r = c) (hc : 0 ≤ c ∧ c ≤ 1114111) (hso : ∀ (W0 wr : World) (v : Value), OwI W0 wr v (orbU c) → Calls Tryd.prog 24 #[v] wr fun en w' => en = .returned (.tuple #[]) ∧ OwI W0 w' v U) :
    Calls Tryd.prog 11 #[.int .i64 r] w fun e w' => ∃ v, e = .returned v ∧ OwI w w' v U := by
  obtain ⟨i0, hi3, hz0, hz1, hz2⟩ := info_parts info3
  have HT := hid ht
  have KC := hid (capital_any r w ht hr)
  rw [hcc] at KC
  have HSO := hid hso
  clear hso ht hcc
  go_enter Tryd.func11, Tryd.ntmps11
  obtain ⟨hr0, hr1⟩ := hr
  go_wp2_with fail
  refine KC.out.mono ?_
  rintro e w1 ⟨rfl, tc⟩
  have T1 := hid tc
  have O1 := hid (OwI.one w1 c)
  clear tc KC
  obtain ⟨⟨t0, h0⟩, ⟨t1, h1⟩⟩ := HT.out.new ((T1.out).alloc (.cells #[.int .i64 c] 3))
  clear h1
  go_wp2_with (first | refine wpList_load_row rfl 43 _ rfl 0 rfl t0 pairsC (0, 0) _ h0 Tryd.underlying43 rfl (by kernel_rfl) ?_ | fail)
  go_loopg [4, 20] 7 (fun gk v i wr => ∃ k : Nat, k + gk = 7 ∧ i = .int .i64 (k : Nat) ∧ (smalls c k).length ≤ k ∧ OwI w1 wr v ([c] ++ smalls c k))
  case atStart => exact ⟨0, rfl, rfl, Nat.le_refl _, O1.out⟩
  case round =>
    obtain ⟨k, hk, rfl, hsl, how⟩ := hrel
    have OW := hid how
    obtain ⟨av, cv, hav, hig⟩ := how.ig (by simp)
    subst hav
    obtain ⟨ab, rfl, _, _⟩ := hig
    obtain ⟨M, hM⟩ : ∃ M, M = ([c] ++ smalls c k).length := ⟨_, rfl⟩
    have hMb : M ≤ 8 := by rw [hM]; simp; omega
    rw [← hM] at OW ⊢
    have HM := hid hM
    clear how hM h0
    by_cases hlt : k < 7
    · obtain ⟨⟨x, y, z⟩, hxy⟩ : ∃ p, pairsL[k]? = some p := ⟨pairsL[k]'(by simpa [pairsL] using hlt), List.getElem?_eq_getElem _⟩
      have hix := run_index48 k x y z wr hlt hxy
      have hsm := pairs_small k x y z hxy
      have HST := hid (smalls_step c k (x, y, z) hxy)
      have hkI : (k : Int) < 7 := by omega
      clear hxy
      have B2 := hid (three_block wr (.int .i64 x) (.int .i64 y) (.int .i64 z) 42)
      have TA := hid ((Touch.refl (fun _ => False) wr).alloc (.cells #[.int .i64 x, .int .i64 y, .int .i64 z] 42))
      have HS := hid (show isGreat c (x, y, z) = (decide (x ≤ c) && decide (c ≤ y)) from rfl)
      go_upto_region 8 with fail
      generalize (wr.alloc (.cells #[.int .i64 x, .int .i64 y, .int .i64 z] 42)) = wA at *
      have OA := hid (OW.out.still TA.out)
      have c0 : wA.cell? ⟨wr.heap.size, 0, none⟩ = some (.int .i64 x) := by simp [World.cell?, B2.out]
      have c1 : wA.cell? ⟨wr.heap.size, 1, none⟩ = some (.int .i64 y) := by simp [World.cell?, B2.out]
      have c2 : wA.cell? ⟨wr.heap.size, 2, none⟩ = some (.int .i64 z) := by simp [World.cell?, B2.out]
      clear hix OW
      by_cases hx : x ≤ c
      · by_cases hy : c ≤ y
        · have HN := hid (show smalls c (k + 1) = smalls c k ++ [c + z] by rw [HST.out, if_pos (by rw [HS.out]; simp [hx, hy])])
          go_wp2_with (at_builtin; refine wpList_append_own_at _ rfl _ _ 34 rfl 0 3 i0 (.int .i64 0) 1 8 Tryd.underlying34 hi3 hz0 hz1 hz2 rfl (by decide) _ _ _ rfl (OA.out.own.alloc _) ⟨wA.heap.size, 0, none⟩ 1 1 [.int .i64 (c + z)] rfl rfl (row_new wA [.int .i64 (c + z)] 3) (by intro u hu; simp at hu; subst hu; rfl) (by unfold maxLen; rw [← HM.out]; omega) (by rw [← HM.out]; omega) (Nat.zero_le _) ?_)
          intro v' w4 hown hgrow _ hat
          have OC := hid (OA.out.more hown hgrow hat)
          clear hown hgrow hat
          go_wp2
          go_roundg (gk - 1)
          case measure => omega
          case rel => exact ⟨k + 1, by omega, by go_num, by rw [HN.out]; simp; omega, by rw [HN.out, ← List.append_assoc]; exact OC.out⟩
        · have HN := hid (show smalls c (k + 1) = smalls c k by rw [HST.out, if_neg (by rw [HS.out]; simp [hy]), List.append_nil])
          go_wp2
          go_roundg (gk - 1)
          case measure => omega
          case rel => exact ⟨k + 1, by omega, by go_num, by rw [HN.out]; omega, by rw [HN.out]; have := OA.out; rw [HM.out] at this; rw [HM.out]; exact this⟩
      · have HN := hid (show smalls c (k + 1) = smalls c k by rw [HST.out, if_neg (by rw [HS.out]; simp [hx]), List.append_nil])
        go_wp2
        go_roundg (gk - 1)
        case measure => omega
        case rel => exact ⟨k + 1, by omega, by go_num, by rw [HN.out]; omega, by rw [HN.out]; have := OA.out; rw [HM.out] at this; rw [HM.out]; exact this⟩
    · obtain rfl : k = 7 := by omega
      obtain ⟨⟨t0, h0⟩, ⟨t1, h1⟩⟩ := HT.out.new (T1.out.trans OW.out.touch (fun _ _ e => e))
      clear h0
      go_wp2_with (first | refine wpList_load_row rfl 52 _ rfl 1 rfl t1 thirdsC (0, 0) _ h1 Tryd.underlying52 rfl (by kernel_rfl) ?_ | fail)
      go_loopg [4, 42] 5 (fun gk v i wr => ∃ k : Nat, k + gk = 5 ∧ i = .int .i64 (k : Nat) ∧ (others c k).length ≤ k ∧ OwI w1 wr v ([c] ++ smalls c 7 ++ others c k))
      case atStart => exact ⟨0, rfl, rfl, Nat.le_refl _, by have := OW.out; rw [HM.out] at this; rw [HM.out, show others c 0 = [] from rfl, List.append_nil]; exact this⟩
      case round =>
        obtain ⟨k, hk, rfl, hsl2, how⟩ := hrel
        clear OW HM hMb M
        have OW := hid how
        obtain ⟨av, cv, hav, hig⟩ := how.ig (by simp)
        subst hav
        have IG := hid hig
        obtain ⟨ab, rfl, _, _⟩ := hig
        obtain ⟨L, hLL⟩ : ∃ L, L = [c] ++ smalls c 7 ++ others c k := ⟨_, rfl⟩
        rw [← hLL] at OW IG ⊢
        have hLb : L.length ≤ 13 := by rw [hLL]; simp; omega
        have HLL := hid hLL
        clear how h1 hLL
        by_cases hlt : k < 5
        · obtain ⟨⟨x, y⟩, hxy⟩ : ∃ p, thirdsL[k]? = some p := ⟨thirdsL[k]'(by simpa [thirdsL] using hlt), List.getElem?_eq_getElem _⟩
          have hix := run_index51 k x y wr hlt hxy
          have HST := hid (others_step c k (x, y) hxy)
          have hkI : (k : Int) < 5 := by omega
          clear hxy IG
          have B2 := hid (show (wr.alloc (.cells #[.int .i64 x, .int .i64 y] 51)).heap[wr.heap.size]? = some (.cells #[.int .i64 x, .int .i64 y] 51 (0, 0)) from three_new _ _ _)
          have TA := hid ((Touch.refl (fun _ => False) wr).alloc (.cells #[.int .i64 x, .int .i64 y] 51))
          go_upto_region 14 with fail
          generalize (wr.alloc (.cells #[.int .i64 x, .int .i64 y] 51)) = wA at *
          have OA := hid (OW.out.still TA.out)
          have c0 := cell_two0 B2.out
          have c1 := cell_two1 B2.out
          clear hix OW
          by_cases hx : y = c
          · have HN := hid (show others c (k + 1) = others c k ++ [x] by rw [HST.out, if_pos (by simp [ofGreat, hx])])
            subst hx
            go_wp2_with (at_builtin; refine wpList_append_own_at _ rfl _ _ 34 rfl 0 3 i0 (.int .i64 0) 1 8 Tryd.underlying34 hi3 hz0 hz1 hz2 rfl (by decide) _ _ _ rfl (OA.out.own.alloc _) ⟨wA.heap.size, 0, none⟩ 1 1 [.int .i64 x] rfl rfl (row_new wA [.int .i64 x] 3) (by intro u hu; simp at hu; subst hu; rfl) (by unfold maxLen; omega) (by omega) (Nat.zero_le _) ?_)
            intro v' w4 hown hgrow _ hat
            have OC := hid (OA.out.more hown hgrow hat)
            clear hown hgrow hat
            go_wp2
            go_roundg (gk - 1)
            case measure => omega
            case rel => exact ⟨k + 1, by omega, by go_num, by rw [HN.out]; simp; omega, by rw [HN.out, ← List.append_assoc, ← HLL.out]; exact OC.out⟩
          · have HN := hid (show others c (k + 1) = others c k by rw [HST.out, if_neg (by simp [ofGreat, hx]), List.append_nil])
            have hxd : (y == c) = false := by simp [hx]
            have hxd2 : decide (y = c) = false := decide_eq_false hx
            go_wp2
            go_roundg (gk - 1)
            case measure => omega
            case rel => exact ⟨k + 1, by omega, by go_num, by rw [HN.out]; omega, by rw [HN.out, ← HLL.out]; exact OA.out⟩
        · obtain rfl : k = 5 := by omega
          have hLU : L = orbU c := HLL.out
          have OV := hid (show OwI w1 wr (.slice (some ⟨ab, 0, none⟩) L.length cv) (orbU c) by rw [← hLU]; exact OW.out)
          have K := hid (HSO.out w1 wr _ OV.out)
          clear hLU OV
          go_wp2_with fail
          refine K.out.mono ?_
          rintro e w2 ⟨rfl, oz⟩
          have OZ := hid oz
          clear oz K
          go_wp2
          go_ret
          exact ⟨_, rfl, OZ.out.from T1.out⟩
end Go.Proofs.YtflonocoihihaaaDoor

/- Orbit of every number, in order; no condition. -/
namespace Go.Proofs.YtflonocoihihaaaDoor
open Go.RowKit

/-- The orbit of a great letter, in order. -/
def orbS (c : Int) : List Int := match orbU c with
  | [x, y, t] => three3 x y t
  | l => l
theorem filter_one (c : Int) : ∀ l : List (Int × Int × Int), l.Pairwise (fun a b => a.2.1 < b.1) → l.filter (isGreat c) = [] ∨ ∃ p ∈ l, l.filter (isGreat c) = [p]
  | [], _ => .inl rfl
  | a :: l, h => by
    have hp := List.pairwise_cons.1 h
    by_cases ha : isGreat c a = true
    · refine .inr ⟨a, by simp, ?_⟩
      rw [List.filter_cons_of_pos ha]
      congr 1
      rw [List.filter_eq_nil_iff]
      intro b hb hbc
      have := hp.1 b hb
      simp only [isGreat, Bool.and_eq_true, decide_eq_true_eq] at ha hbc
      omega
    · rw [List.filter_cons_of_neg ha]
      rcases filter_one c l hp.2 with h | ⟨p, hp, h⟩
      · exact .inl h
      · exact .inr ⟨p, by simp [hp], h⟩
theorem pairs_up : pairsL.Pairwise (fun a b => a.2.1 < b.1) := by decide
theorem smalls_one (c : Int) : smalls c 7 = [] ∨ ∃ z, 0 < z ∧ smalls c 7 = [c + z] := by
  have e : smalls c 7 = (pairsL.filter (isGreat c)).map fun p => c + p.2.2 := rfl
  rcases filter_one c pairsL pairs_up with h | ⟨p, hp, h⟩
  · left
    rw [e, h]
    rfl
  · right
    refine ⟨p.2.2, ?_, by rw [e, h]; rfl⟩
    simp only [pairsL, List.mem_cons, List.not_mem_nil, or_false] at hp
    rcases hp with rfl | rfl | rfl | rfl | rfl | rfl | rfl <;> decide
theorem others_none (c : Int) (h : c ≠ 75 ∧ c ≠ 83 ∧ c ≠ 197 ∧ c ≠ 924 ∧ c ≠ 931) : others c 5 = [] := by
  have e : others c 5 = (thirdsL.filter (ofGreat c)).map (·.1) := rfl
  rw [e, List.map_eq_nil_iff, List.filter_eq_nil_iff]
  intro a ha hc
  simp only [thirdsL, List.mem_cons, List.not_mem_nil, or_false] at ha
  simp only [ofGreat, beq_iff_eq] at hc
  rcases ha with rfl | rfl | rfl | rfl | rfl <;> simp only at hc <;> omega
theorem cap_in (r : Int) (hr : 0 ≤ r ∧ r ≤ 1114111) : 0 ≤ capOf r ∧ capOf r ≤ 1114111 := by
  unfold capOf
  cases h : thirdsL.find? (isThird r) with
  | some t =>
    have hm := List.mem_of_find?_eq_some h
    simp only [thirdsL, List.mem_cons, List.not_mem_nil, or_false] at hm
    rcases hm with rfl | rfl | rfl | rfl | rfl <;> dsimp only <;> omega
  | none =>
    cases k : pairsL.find? (isSmall r) with
    | some p =>
      have hm := List.mem_of_find?_eq_some k
      have hs := List.find?_some k
      simp only [isSmall, Bool.and_eq_true, decide_eq_true_eq] at hs
      simp only [pairsL, List.mem_cons, List.not_mem_nil, or_false] at hm
      rcases hm with rfl | rfl | rfl | rfl | rfl | rfl | rfl <;> simp only at hs ⊢ <;> omega
    | none => exact hr

theorem sort_own_up (L : List Int) (h1 : 1 ≤ L.length) (hb : L.length ≤ 12) (hup : Up L) (W0 wr : World) (v : Value) (ow : OwI W0 wr v L) : Calls Tryd.prog 24 #[v] wr fun en w' => en = .returned (.tuple #[]) ∧ OwI W0 w' v L := by
  obtain ⟨a, c, rfl, ig⟩ := ow.ig (by intro e; subst e; simp at h1)
  refine (sort_up a c L wr ig hup h1 hb).mono ?_
  rintro e w' ⟨rfl, tc⟩
  exact ⟨rfl, ow.still tc⟩
theorem sort_own_three (x y t : Int) (hxy : x < y) (W0 wr : World) (v : Value) (ow : OwI W0 wr v [x, y, t]) : Calls Tryd.prog 24 #[v] wr fun en w' => en = .returned (.tuple #[]) ∧ OwI W0 w' v (three3 x y t) := by
  obtain ⟨a, c, rfl, ig⟩ := ow.ig (by simp)
  obtain ⟨b, rfl, _, _⟩ := ig
  exact sort_three W0 b c x y t wr ow hxy
theorem orbU_special : orbU 75 = [75, 107, 8490] ∧ orbU 83 = [83, 115, 383] ∧ orbU 197 = [197, 229, 8491] ∧ orbU 924 = [924, 956, 181] ∧ orbU 931 = [931, 963, 962] := by decide

theorem sort_orb (c : Int) (W0 wr : World) (v : Value) (ow : OwI W0 wr v (orbU c)) : Calls Tryd.prog 24 #[v] wr fun en w' => en = .returned (.tuple #[]) ∧ OwI W0 w' v (orbS c) := by
  obtain ⟨s1, s2, s3, s4, s5⟩ := orbU_special
  by_cases hs : c = 75 ∨ c = 83 ∨ c = 197 ∨ c = 924 ∨ c = 931
  · rcases hs with rfl | rfl | rfl | rfl | rfl
    · rw [s1] at ow; unfold orbS; rw [s1]; exact sort_own_three _ _ _ (by decide) _ _ _ ow
    · rw [s2] at ow; unfold orbS; rw [s2]; exact sort_own_three _ _ _ (by decide) _ _ _ ow
    · rw [s3] at ow; unfold orbS; rw [s3]; exact sort_own_three _ _ _ (by decide) _ _ _ ow
    · rw [s4] at ow; unfold orbS; rw [s4]; exact sort_own_three _ _ _ (by decide) _ _ _ ow
    · rw [s5] at ow; unfold orbS; rw [s5]; exact sort_own_three _ _ _ (by decide) _ _ _ ow
  · have ho := others_none c (by omega)
    rcases smalls_one c with h | ⟨z, hz, h⟩
    · have e : orbU c = [c] := by unfold orbU; rw [h, ho]; rfl
      rw [e] at ow
      unfold orbS
      rw [e]
      exact sort_own_up [c] (by simp) (by simp) (by intro i hi; simp at hi) _ _ _ ow
    · have e : orbU c = [c, c + z] := by unfold orbU; rw [h, ho]; rfl
      rw [e] at ow
      unfold orbS
      rw [e]
      refine sort_own_up [c, c + z] (by simp) (by simp) (fun i hi => ?_) _ _ _ ow
      simp only [List.length_cons, List.length_nil] at hi
      obtain rfl : i = 0 := by omega
      show c < c + z
      omega
theorem orbit_all (r : Int) (w : World) (ht : Tabs w) (hr : 0 ≤ r ∧ r ≤ 1114111) : Calls Tryd.prog 11 #[.int .i64 r] w fun e w' => ∃ v, e = .returned v ∧ OwI w w' v (orbS (capOf r)) :=
  orbit_with r (capOf r) (orbS (capOf r)) w ht hr rfl (cap_in r hr) (fun W0 wr v ow => sort_orb (capOf r) W0 wr v ow)
end Go.Proofs.YtflonocoihihaaaDoor

/- The closure by which ranges are sorted; no condition. -/
namespace Go.Proofs.YtflonocoihihaaaDoor
open Go.Shelf Go.RowKit Go.Lib Go.Sort

set_option maxHeartbeats 1000000 in
theorem closure24 (x y : R2) (W : World) : Calls Tryd.prog 14 #[.agg #[.int .i64 x.1, .int .i64 x.2], .agg #[.int .i64 y.1, .int .i64 y.2]] W fun e w' => e = .returned (.int .i64 (Lib.compareInt x.1 y.1)) ∧ ∃ q os', w' = grow (W.drewN q) os' := by
  have hcon := fun W' => AnyG.cmp_Compare_int Tryd.cmpInt x.1 y.1 W'
  change ∀ W', Calls Tryd.prog 15 _ _ _ at hcon
  generalize Lib.compareInt x.1 y.1 = r at hcon ⊢
  go_enter Tryd.func14, Tryd.ntmps14
  go_wp2_with (go_at_call 15; refine (hcon _).mono ?_; rintro e w' ⟨rfl, rfl⟩)
  go_ret
  exact ⟨rfl, 0, _, by rw [alloc_eq_grow, alloc_eq_grow, grow_grow]; rfl⟩

theorem cmpLays24 (blk off size : Nat) (w : World) : CmpLays Tryd.prog 14 #[] encR 2 (fun x y => Lib.compareInt x.1 y.1) blk off size w :=
  fun _ _ _ _ x y => closure24 x y _

theorem ltLo (x y : Int × Int) : ltOf (fun x y : Int × Int => Lib.compareInt x.1 y.1) x y = decide (x.1 < y.1) := by
  unfold ltOf Lib.compareInt
  by_cases h1 : x.1 < y.1
  · simp [h1]
  · by_cases h2 : y.1 < x.1 <;> simp [h1, h2]

/-- By From is a strict weak order. -/
theorem swoLo : SWO (ltOf fun x y : Int × Int => Lib.compareInt x.1 y.1) where
  irrefl x := by rw [ltLo]; simp
  trans x y z h1 h2 := by rw [ltLo] at *; simp at *; omega
  ntrans x y z h1 h2 := by rw [ltLo] at *; simp at *; omega

theorem sort_row (blk off cap : Nat) (d : Array (Int × Int)) (w : World) (hH : HoldsK encR 2 w blk off d) (hblk : blk < w.heap.size) (hsz : d.size < 4611686018427387904) :
    Calls Tryd.prog 13 #[.slice (some ⟨blk, off, none⟩) d.size cap, .func (.func 14) #[] #[]] w fun e w' => e = .returned (.tuple #[]) ∧ ∃ d' n os, PermIn 0 d.size d d' ∧ SortedIn (ltOf fun x y : Int × Int => Lib.compareInt x.1 y.1) 0 d.size d' ∧ w' = sortWorldK encR 2 w blk off n d' os := by
  have eg : ∀ args w, (callFunc 14 args).run Tryd.prog w = .ok (.enter 14 args) w := enters_of Tryd.func14 (by kernel_rfl) rfl
  exact AnyQ.slices_SortFunc Tryd.sortIv 2 Tryd.isAgg26 Tryd.sizeOf26 encR (fun _ => rfl) (fun x v hv => by simp [encR] at hv; rcases hv with rfl | rfl <;> rfl) (fun x y => Lib.compareInt x.1 y.1) swoLo 14 #[] blk off cap d w eg (cmpLays24 blk off d.size w) hH hblk hsz
end Go.Proofs.YtflonocoihihaaaDoor

/- Ranges in a list of the call's own, sorted by From; condition: they fit into memory. -/
namespace Go.Proofs.YtflonocoihihaaaDoor
open Go.Shelf Go.RowKit Go.Lib Go.Sort

set_option maxRecDepth 100000 in
set_option maxHeartbeats 4000000 in
theorem ins_none (f : Value) (w : World) : Calls Tryd.prog 33 #[.slice none 0 0, .int .i64 0, .int .i64 0, f] w fun e w' => e = .returned (.tuple #[]) ∧ w' = w := by
  go_enter Tryd.func33, Tryd.ntmps33
  go_wp2_with fail
  go_loopg [8] 1 (fun gk i wr => gk = 1 ∧ i = .int .i64 1 ∧ wr = w)
  case atStart => exact ⟨rfl, rfl, rfl⟩
  case round =>
    obtain ⟨_, rfl, rfl⟩ := hrel
    go_wp2
    go_end0
    exact ⟨rfl, rfl⟩

set_option maxRecDepth 100000 in
set_option maxHeartbeats 4000000 in
theorem pdq_none (n : Int) (f : Value) (w : World) : Calls Tryd.prog 25 #[.slice none 0 0, .int .i64 0, .int .i64 0, .int .i64 n, f] w fun e w' => e = .returned (.tuple #[]) ∧ w' = w := by
  have K := hid (fun wq => ins_none f wq)
  go_enter Tryd.func25, Tryd.ntmps25
  go_wp2_with fail
  go_loopg [1, 2] 1 (fun gk a b wr => gk = 1 ∧ a = .int .i64 0 ∧ b = .int .i64 0 ∧ wr = w)
  case atStart => exact ⟨rfl, rfl, rfl, rfl⟩
  case round =>
    obtain ⟨_, rfl, rfl, rfl⟩ := hrel
    go_wp2_with fail
    refine (K.out _).mono ?_
    rintro e w1 ⟨rfl, rfl⟩
    go_wp2
    exact bodyPost_ret (results_none (fn := Tryd.f25) rfl _ Tryd.prog _) rfl ⟨rfl, rfl⟩

set_option maxRecDepth 100000 in
set_option maxHeartbeats 4000000 in
theorem sort_none (w : World) : Calls Tryd.prog 13 #[.slice none 0 0, .func (.func 14) #[] #[]] w fun e w' => e = .returned (.tuple #[]) ∧ w' = w := by
  have hlen := fun wq => Any.bits_Len Tryd.bitsLen2 0 wq (by omega) (by omega)
  change ∀ wq, Calls Tryd.prog 26 _ _ _ at hlen
  have K := hid (fun n wq => pdq_none n (.func (.func 14) #[] #[]) wq)
  have HLN := hid hlen
  clear hlen
  go_enter Tryd.func13, Tryd.ntmps13
  go_wp2_with fail
  refine (HLN.out _).mono ?_
  rintro e w1 ⟨rfl, rfl⟩
  go_wp2_with fail
  refine (K.out _ _).mono ?_
  rintro e w2 ⟨rfl, rfl⟩
  go_wp2
  go_end0
  exact ⟨rfl, rfl⟩

theorem touch_sort (w : World) (blk off m : Nat) (d : Array R2) (os : Array Obj) : Touch (fun k => k = blk) w (sortWorldK encR 2 w blk off m d os) := by
  refine ⟨rfl, rfl, rfl, ?_, fun k hk hn => ?_⟩
  · exact size_sortWorldK_c _ _ _ _ _ _ _ _
  · show ((w.heap.modify blk _) ++ os)[k]? = _
    rw [Array.getElem?_append_left (by simpa using hk), Array.getElem?_modify, if_neg (fun e => hn e.symm)]

theorem flatR_at (s : List R2) (j : Nat) (h : j < s.length * 2) : (flatR s)[j]? = some ((encR (s.toArray[j / 2]!))[j % 2]!) := by
  have hi : j / 2 < s.length := by omega
  have e : s.toArray[j / 2]! = s[j / 2] := by simp [hi]
  rw [e]
  rcases (show j % 2 = 0 ∨ j % 2 = 1 by omega) with h0 | h0
  · have := flatR_get0 s (j / 2) hi
    rw [show 2 * (j / 2) = j by omega] at this
    rw [this, h0]
    rfl
  · have := flatR_get1 s (j / 2) hi
    rw [show 2 * (j / 2) + 1 = j by omega] at this
    rw [this, h0]
    rfl

theorem holds_own {w : World} {base e g n cap : Nat} {s : List R2} (h : w.ownsRow base e 2 (.slice (some ⟨g, 0, none⟩) n cap) s.length (flatR s)) : HoldsK encR 2 w g 0 s.toArray := by
  intro j hj
  rw [size_flatK] at hj
  have hj' : j < s.length * 2 := by simpa using hj
  rw [get_flatK _ _ _ _ hj, Nat.zero_add]
  have hc := h.cells (g := g) rfl j _ (flatR_at s j hj')
  rw [add_g] at hc
  refine ⟨hc, ?_⟩
  rcases h.2 with ⟨hv, _⟩ | ⟨g', cap', cur, hv, _, hh, _⟩
  · simp at hv
  · simp at hv
    obtain ⟨rfl, _⟩ := hv
    simp [World.frozen?, hh]

theorem sort_any {W0 wr : World} {v : Value} {s : List R2} (h : Ow W0 wr 24 v s) (hb : s.length * 16 ≤ 140737488351232) :
    Calls Tryd.prog 13 #[v, .func (.func 14) #[] #[]] wr fun e w' => e = .returned (.tuple #[]) ∧ ∃ s', s'.Perm s ∧ s'.Pairwise (fun a b => a.1 ≤ b.1) ∧ (∃ a c, v = .slice a s'.length c ∧ Rg w' a s') ∧ Touch (fun _ => False) W0 w' := by
  rcases h.own.2 with ⟨rfl, h0⟩ | ⟨g, cap, cur, rfl, hg, hh, rest⟩
  · have hs : s = [] := List.eq_nil_of_length_eq_zero h0
    subst hs
    refine (sort_none wr).mono ?_
    rintro e w' ⟨rfl, rfl⟩
    exact ⟨rfl, [], .nil, .nil, ⟨none, 0, rfl, .inl rfl⟩, h.touch⟩
  · have hk := sort_row g 0 cap s.toArray wr (holds_own h.own) (lt_of_block hh) (by simp; omega)
    rw [show s.toArray.size = s.length by simp] at hk
    refine hk.mono ?_
    rintro e w' ⟨rfl, d', n, os, hp, hsd, rfl⟩
    have hsz : d'.size = s.length := by rw [hp.1]; simp
    refine ⟨rfl, d'.toList, ?_, ?_, ⟨some ⟨g, 0, none⟩, cap, by simp [hsz], .inr ⟨g, 0, rfl, ?_, fun i hi => ?_⟩⟩, ?_⟩
    · have := hp.2.2
      have h3 : (List.take s.length d'.toList).Perm s := by simpa using this
      rw [List.take_of_length_le (by simp; omega)] at h3
      exact h3
    · rw [List.pairwise_iff_getElem]
      intro i j hi hj hij
      have := hsd i j (Nat.zero_le _) hij (by simpa [hsz] using hj)
      rw [ltLo] at this
      simp only [Array.length_toList] at hi hj
      rw [getElem!_pos d' i hi, getElem!_pos d' j hj] at this
      simp only [decide_eq_false_iff_not] at this
      simp only [Array.getElem_toList]
      omega
    · exact Nat.lt_of_lt_of_le (lt_of_block hh) (touch_sort wr g 0 n d' os).size
    · simp only [Array.length_toList] at hi
      have hH := holdsK_sortWorldK encR 2 wr g 0 n s.toArray d' os (lt_of_block hh) (holds_own h.own) (by simp [hsz])
      have h1 := (hH.cell (i := i) (c := 0) hi (by decide)).1
      have h2 := (hH.cell (i := i) (c := 1) hi (by decide)).1
      rw [getElem!_pos d' i hi] at h1 h2
      exact ⟨h1, h2⟩
    · refine h.touch.trans (touch_sort wr g 0 n d' os) (fun i hi e => ?_)
      have := h.new g rfl
      omega
end Go.Proofs.YtflonocoihihaaaDoor
