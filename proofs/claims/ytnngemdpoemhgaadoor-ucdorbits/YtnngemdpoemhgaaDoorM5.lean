/- Texts of this proof, one behind the other: what each says stands ahead of it. -/
import Derived.Test.YtnngemdpoemhgaaDoorM4
import Derived.Test.YtnngemdpoemhgaaDoorM2
import Derived.Test.YtnngemdpoemhgaaDoorM0
/- Orbit of every number; no condition beside those told. -/
namespace Go.Proofs.YtnngemdpoemhgaaDoor
open Go.RowKit

set_option maxRecDepth 100000 in
set_option maxHeartbeats 8000000 in
theorem orbit_with (r c : Int) (U : List Int) (w : World) (ht : Tabs w) (hr : 0 ≤ r ∧ r ≤ 1114111) (hcc : capOf r = c) (hc : 0 ≤ c ∧ c ≤ 1114111) (hso : ∀ (W0 wr : World) (v : Value), OwI W0 wr v (orbU c) → Calls Tryd.prog 26 #[v] wr fun en w' => en = .returned (.tuple #[]) ∧ OwI W0 w' v U) :
    Calls Tryd.prog 10 #[.int .i64 r] w fun e w' => ∃ v, e = .returned v ∧ OwI w w' v U := by
  obtain ⟨i0, hi3, hz0, hz1, hz2⟩ := info_parts info3
  have HT := hid ht
  have KC := hid (capital_any r w ht hr)
  rw [hcc] at KC
  have HSO := hid hso
  clear hso ht hcc
  go_enter Tryd.func10, Tryd.ntmps10
  obtain ⟨hr0, hr1⟩ := hr
  go_wp2_with fail
  refine KC.out.mono ?_
  rintro e w1 ⟨rfl, tc⟩
  have T1 := hid tc
  have O1 := hid (OwI.one w1 c)
  clear tc KC
  obtain ⟨⟨t0, h0⟩, ⟨t1, h1⟩⟩ := HT.out.new ((T1.out).alloc (.cells #[.int .i64 c] 3))
  clear h1
  go_wp2_with (first | refine wpList_load_row rfl 48 _ rfl 0 rfl t0 pairsC (0, 0) _ h0 Tryd.underlying48 rfl (by kernel_rfl) ?_ | fail)
  go_loopg [4, 20] 7 (fun gk v i wr => ∃ k : Nat, k + gk = 7 ∧ i = .int .i64 (k : Nat) ∧ (smalls c k).length ≤ k ∧ OwI w1 wr v ([c] ++ smalls c k))
  case atStart => exact ⟨0, rfl, rfl, Nat.le_refl _, O1.out⟩
  case round =>
    obtain ⟨k, hk, rfl, hsl, how⟩ := hrel
    have OW := hid how
    obtain ⟨av, cv, hav, hig⟩ := how.ig (by simp)
    subst hav
    obtain ⟨ab, rfl, _, _⟩ := hig
    obtain ⟨M, hM⟩ : ∃ M, M = ([c] ++ smalls c k).length := ⟨_, rfl⟩
    have hMb : M ≤ 8 := by rw [hM]; simp; omega
    rw [← hM] at OW ⊢
    have HM := hid hM
    clear how hM h0
    by_cases hlt : k < 7
    · obtain ⟨⟨x, y, z⟩, hxy⟩ : ∃ p, pairsL[k]? = some p := ⟨pairsL[k]'(by simpa [pairsL] using hlt), List.getElem?_eq_getElem _⟩
      have hix := run_index48 k x y z wr hlt hxy
      have hsm := pairs_small k x y z hxy
      have HST := hid (smalls_step c k (x, y, z) hxy)
      have hkI : (k : Int) < 7 := by omega
      clear hxy
      have B2 := hid (three_block wr (.int .i64 x) (.int .i64 y) (.int .i64 z) 47)
      have TA := hid ((Touch.refl (fun _ => False) wr).alloc (.cells #[.int .i64 x, .int .i64 y, .int .i64 z] 47))
      have HS := hid (show isGreat c (x, y, z) = (decide (x ≤ c) && decide (c ≤ y)) from rfl)
      go_upto_region 8 with fail
      generalize (wr.alloc (.cells #[.int .i64 x, .int .i64 y, .int .i64 z] 47)) = wA at *
      have OA := hid (OW.out.still TA.out)
      have c0 : wA.cell? ⟨wr.heap.size, 0, none⟩ = some (.int .i64 x) := by simp [World.cell?, B2.out]
      have c1 : wA.cell? ⟨wr.heap.size, 1, none⟩ = some (.int .i64 y) := by simp [World.cell?, B2.out]
      have c2 : wA.cell? ⟨wr.heap.size, 2, none⟩ = some (.int .i64 z) := by simp [World.cell?, B2.out]
      clear hix OW
      by_cases hx : x ≤ c
      · by_cases hy : c ≤ y
        · have HN := hid (show smalls c (k + 1) = smalls c k ++ [c + z] by rw [HST.out, if_pos (by rw [HS.out]; simp [hx, hy])])
          go_wp2_with (at_builtin; refine wpList_append_own_at _ rfl _ _ 23 rfl 0 3 i0 (.int .i64 0) 1 8 Tryd.underlying23 hi3 hz0 hz1 hz2 rfl (by decide) _ _ _ rfl (OA.out.own.alloc _) ⟨wA.heap.size, 0, none⟩ 1 1 [.int .i64 (c + z)] rfl rfl (row_new wA [.int .i64 (c + z)] 3) (by intro u hu; simp at hu; subst hu; rfl) (by unfold maxLen; rw [← HM.out]; omega) (by rw [← HM.out]; omega) (Nat.zero_le _) ?_)
          intro v' w4 hown hgrow _ hat
          have OC := hid (OA.out.more hown hgrow hat)
          clear hown hgrow hat
          go_wp2
          go_roundg (gk - 1)
          case measure => omega
          case rel => exact ⟨k + 1, by omega, by go_num, by rw [HN.out]; simp; omega, by rw [HN.out, ← List.append_assoc]; exact OC.out⟩
        · have HN := hid (show smalls c (k + 1) = smalls c k by rw [HST.out, if_neg (by rw [HS.out]; simp [hy]), List.append_nil])
          go_wp2
          go_roundg (gk - 1)
          case measure => omega
          case rel => exact ⟨k + 1, by omega, by go_num, by rw [HN.out]; omega, by rw [HN.out]; have := OA.out; rw [HM.out] at this; rw [HM.out]; exact this⟩
      · have HN := hid (show smalls c (k + 1) = smalls c k by rw [HST.out, if_neg (by rw [HS.out]; simp [hx]), List.append_nil])
        go_wp2
        go_roundg (gk - 1)
        case measure => omega
        case rel => exact ⟨k + 1, by omega, by go_num, by rw [HN.out]; omega, by rw [HN.out]; have := OA.out; rw [HM.out] at this; rw [HM.out]; exact this⟩
    · obtain rfl : k = 7 := by omega
      obtain ⟨⟨t0, h0⟩, ⟨t1, h1⟩⟩ := HT.out.new (T1.out.trans OW.out.touch (fun _ _ e => e))
      clear h0
      go_wp2_with (first | refine wpList_load_row rfl 51 _ rfl 1 rfl t1 thirdsC (0, 0) _ h1 Tryd.underlying51 rfl (by kernel_rfl) ?_ | fail)
      go_loopg [4, 42] 5 (fun gk v i wr => ∃ k : Nat, k + gk = 5 ∧ i = .int .i64 (k : Nat) ∧ (others c k).length ≤ k ∧ OwI w1 wr v ([c] ++ smalls c 7 ++ others c k))
      case atStart => exact ⟨0, rfl, rfl, Nat.le_refl _, by have := OW.out; rw [HM.out] at this; rw [HM.out, show others c 0 = [] from rfl, List.append_nil]; exact this⟩
      case round =>
        obtain ⟨k, hk, rfl, hsl2, how⟩ := hrel
        clear OW HM hMb M
        have OW := hid how
        obtain ⟨av, cv, hav, hig⟩ := how.ig (by simp)
        subst hav
        have IG := hid hig
        obtain ⟨ab, rfl, _, _⟩ := hig
        obtain ⟨L, hLL⟩ : ∃ L, L = [c] ++ smalls c 7 ++ others c k := ⟨_, rfl⟩
        rw [← hLL] at OW IG ⊢
        have hLb : L.length ≤ 13 := by rw [hLL]; simp; omega
        have HLL := hid hLL
        clear how h1 hLL
        by_cases hlt : k < 5
        · obtain ⟨⟨x, y⟩, hxy⟩ : ∃ p, thirdsL[k]? = some p := ⟨thirdsL[k]'(by simpa [thirdsL] using hlt), List.getElem?_eq_getElem _⟩
          have hix := run_index51 k x y wr hlt hxy
          have HST := hid (others_step c k (x, y) hxy)
          have hkI : (k : Int) < 5 := by omega
          clear hxy IG
          have B2 := hid (show (wr.alloc (.cells #[.int .i64 x, .int .i64 y] 50)).heap[wr.heap.size]? = some (.cells #[.int .i64 x, .int .i64 y] 50 (0, 0)) from three_new _ _ _)
          have TA := hid ((Touch.refl (fun _ => False) wr).alloc (.cells #[.int .i64 x, .int .i64 y] 50))
          go_upto_region 14 with fail
          generalize (wr.alloc (.cells #[.int .i64 x, .int .i64 y] 50)) = wA at *
          have OA := hid (OW.out.still TA.out)
          have c0 := cell_two0 B2.out
          have c1 := cell_two1 B2.out
          clear hix OW
          by_cases hx : y = c
          · have HN := hid (show others c (k + 1) = others c k ++ [x] by rw [HST.out, if_pos (by simp [ofGreat, hx])])
            subst hx
            go_wp2_with (at_builtin; refine wpList_append_own_at _ rfl _ _ 23 rfl 0 3 i0 (.int .i64 0) 1 8 Tryd.underlying23 hi3 hz0 hz1 hz2 rfl (by decide) _ _ _ rfl (OA.out.own.alloc _) ⟨wA.heap.size, 0, none⟩ 1 1 [.int .i64 x] rfl rfl (row_new wA [.int .i64 x] 3) (by intro u hu; simp at hu; subst hu; rfl) (by unfold maxLen; omega) (by omega) (Nat.zero_le _) ?_)
            intro v' w4 hown hgrow _ hat
            have OC := hid (OA.out.more hown hgrow hat)
            clear hown hgrow hat
            go_wp2
            go_roundg (gk - 1)
            case measure => omega
            case rel => exact ⟨k + 1, by omega, by go_num, by rw [HN.out]; simp; omega, by rw [HN.out, ← List.append_assoc, ← HLL.out]; exact OC.out⟩
          · have HN := hid (show others c (k + 1) = others c k by rw [HST.out, if_neg (by simp [ofGreat, hx]), List.append_nil])
            have hxd : (y == c) = false := by simp [hx]
            have hxd2 : decide (y = c) = false := decide_eq_false hx
            go_wp2
            go_roundg (gk - 1)
            case measure => omega
            case rel => exact ⟨k + 1, by omega, by go_num, by rw [HN.out]; omega, by rw [HN.out, ← HLL.out]; exact OA.out⟩
        · obtain rfl : k = 5 := by omega
          have hLU : L = orbU c := HLL.out
          have OV := hid (show OwI w1 wr (.slice (some ⟨ab, 0, none⟩) L.length cv) (orbU c) by rw [← hLU]; exact OW.out)
          have K := hid (HSO.out w1 wr _ OV.out)
          clear hLU OV
          go_wp2_with fail
          refine K.out.mono ?_
          rintro e w2 ⟨rfl, oz⟩
          have OZ := hid oz
          clear oz K
          go_wp2
          go_ret
          exact ⟨_, rfl, OZ.out.from T1.out⟩
end Go.Proofs.YtnngemdpoemhgaaDoor

/- Orbit of every number, in order; no condition. -/
namespace Go.Proofs.YtnngemdpoemhgaaDoor
open Go.RowKit

/-- The orbit of a great letter, in order. -/
def orbS (c : Int) : List Int := match orbU c with
  | [x, y, t] => three3 x y t
  | l => l
theorem filter_one (c : Int) : ∀ l : List (Int × Int × Int), l.Pairwise (fun a b => a.2.1 < b.1) → l.filter (isGreat c) = [] ∨ ∃ p ∈ l, l.filter (isGreat c) = [p]
  | [], _ => .inl rfl
  | a :: l, h => by
    have hp := List.pairwise_cons.1 h
    by_cases ha : isGreat c a = true
    · refine .inr ⟨a, by simp, ?_⟩
      rw [List.filter_cons_of_pos ha]
      congr 1
      rw [List.filter_eq_nil_iff]
      intro b hb hbc
      have := hp.1 b hb
      simp only [isGreat, Bool.and_eq_true, decide_eq_true_eq] at ha hbc
      omega
    · rw [List.filter_cons_of_neg ha]
      rcases filter_one c l hp.2 with h | ⟨p, hp, h⟩
      · exact .inl h
      · exact .inr ⟨p, by simp [hp], h⟩
theorem pairs_up : pairsL.Pairwise (fun a b => a.2.1 < b.1) := by decide
theorem smalls_one (c : Int) : smalls c 7 = [] ∨ ∃ z, 0 < z ∧ smalls c 7 = [c + z] := by
  have e : smalls c 7 = (pairsL.filter (isGreat c)).map fun p => c + p.2.2 := rfl
  rcases filter_one c pairsL pairs_up with h | ⟨p, hp, h⟩
  · left
    rw [e, h]
    rfl
  · right
    refine ⟨p.2.2, ?_, by rw [e, h]; rfl⟩
    simp only [pairsL, List.mem_cons, List.not_mem_nil, or_false] at hp
    rcases hp with rfl | rfl | rfl | rfl | rfl | rfl | rfl <;> decide
theorem others_none (c : Int) (h : c ≠ 75 ∧ c ≠ 83 ∧ c ≠ 197 ∧ c ≠ 924 ∧ c ≠ 931) : others c 5 = [] := by
  have e : others c 5 = (thirdsL.filter (ofGreat c)).map (·.1) := rfl
  rw [e, List.map_eq_nil_iff, List.filter_eq_nil_iff]
  intro a ha hc
  simp only [thirdsL, List.mem_cons, List.not_mem_nil, or_false] at ha
  simp only [ofGreat, beq_iff_eq] at hc
  rcases ha with rfl | rfl | rfl | rfl | rfl <;> simp only at hc <;> omega
theorem cap_in (r : Int) (hr : 0 ≤ r ∧ r ≤ 1114111) : 0 ≤ capOf r ∧ capOf r ≤ 1114111 := by
  unfold capOf
  cases h : thirdsL.find? (isThird r) with
  | some t =>
    have hm := List.mem_of_find?_eq_some h
    simp only [thirdsL, List.mem_cons, List.not_mem_nil, or_false] at hm
    rcases hm with rfl | rfl | rfl | rfl | rfl <;> dsimp only <;> omega
  | none =>
    cases k : pairsL.find? (isSmall r) with
    | some p =>
      have hm := List.mem_of_find?_eq_some k
      have hs := List.find?_some k
      simp only [isSmall, Bool.and_eq_true, decide_eq_true_eq] at hs
      simp only [pairsL, List.mem_cons, List.not_mem_nil, or_false] at hm
      rcases hm with rfl | rfl | rfl | rfl | rfl | rfl | rfl <;> simp only at hs ⊢ <;> omega
    | none => exact hr

theorem sort_own_up (L : List Int) (h1 : 1 ≤ L.length) (hb : L.length ≤ 12) (hup : Up L) (W0 wr : World) (v : Value) (ow : OwI W0 wr v L) : Calls Tryd.prog 26 #[v] wr fun en w' => en = .returned (.tuple #[]) ∧ OwI W0 w' v L := by
  obtain ⟨a, c, rfl, ig⟩ := ow.ig (by intro e; subst e; simp at h1)
  refine (sort_up a c L wr ig hup h1 hb).mono ?_
  rintro e w' ⟨rfl, tc⟩
  exact ⟨rfl, ow.still tc⟩
theorem sort_own_three (x y t : Int) (hxy : x < y) (W0 wr : World) (v : Value) (ow : OwI W0 wr v [x, y, t]) : Calls Tryd.prog 26 #[v] wr fun en w' => en = .returned (.tuple #[]) ∧ OwI W0 w' v (three3 x y t) := by
  obtain ⟨a, c, rfl, ig⟩ := ow.ig (by simp)
  obtain ⟨b, rfl, _, _⟩ := ig
  exact sort_three W0 b c x y t wr ow hxy
theorem orbU_special : orbU 75 = [75, 107, 8490] ∧ orbU 83 = [83, 115, 383] ∧ orbU 197 = [197, 229, 8491] ∧ orbU 924 = [924, 956, 181] ∧ orbU 931 = [931, 963, 962] := by decide

theorem sort_orb (c : Int) (W0 wr : World) (v : Value) (ow : OwI W0 wr v (orbU c)) : Calls Tryd.prog 26 #[v] wr fun en w' => en = .returned (.tuple #[]) ∧ OwI W0 w' v (orbS c) := by
  obtain ⟨s1, s2, s3, s4, s5⟩ := orbU_special
  by_cases hs : c = 75 ∨ c = 83 ∨ c = 197 ∨ c = 924 ∨ c = 931
  · rcases hs with rfl | rfl | rfl | rfl | rfl
    · rw [s1] at ow; unfold orbS; rw [s1]; exact sort_own_three _ _ _ (by decide) _ _ _ ow
    · rw [s2] at ow; unfold orbS; rw [s2]; exact sort_own_three _ _ _ (by decide) _ _ _ ow
    · rw [s3] at ow; unfold orbS; rw [s3]; exact sort_own_three _ _ _ (by decide) _ _ _ ow
    · rw [s4] at ow; unfold orbS; rw [s4]; exact sort_own_three _ _ _ (by decide) _ _ _ ow
    · rw [s5] at ow; unfold orbS; rw [s5]; exact sort_own_three _ _ _ (by decide) _ _ _ ow
  · have ho := others_none c (by omega)
    rcases smalls_one c with h | ⟨z, hz, h⟩
    · have e : orbU c = [c] := by unfold orbU; rw [h, ho]; rfl
      rw [e] at ow
      unfold orbS
      rw [e]
      exact sort_own_up [c] (by simp) (by simp) (by intro i hi; simp at hi) _ _ _ ow
    · have e : orbU c = [c, c + z] := by unfold orbU; rw [h, ho]; rfl
      rw [e] at ow
      unfold orbS
      rw [e]
      refine sort_own_up [c, c + z] (by simp) (by simp) (fun i hi => ?_) _ _ _ ow
      simp only [List.length_cons, List.length_nil] at hi
      obtain rfl : i = 0 := by omega
      show c < c + z
      omega
theorem orbit_all (r : Int) (w : World) (ht : Tabs w) (hr : 0 ≤ r ∧ r ≤ 1114111) : Calls Tryd.prog 10 #[.int .i64 r] w fun e w' => ∃ v, e = .returned v ∧ OwI w w' v (orbS (capOf r)) :=
  orbit_with r (capOf r) (orbS (capOf r)) w ht hr rfl (cap_in r hr) (fun W0 wr v ow => sort_orb (capOf r) W0 wr v ow)
end Go.Proofs.YtnngemdpoemhgaaDoor

/- How many ranges a set has at the most; no condition. -/
namespace Go.Proofs.YtnngemdpoemhgaaDoor

theorem canon_len_at : ∀ (s : List R2) (q : Int), (∀ r ∈ s, inB r) → s.Pairwise (fun a b => a.2 + 1 < b.1) → (∀ r ∈ s, q ≤ r.1) → 2 * (s.length : Int) ≤ 1114113 - q ∨ s = []
  | [], _, _, _, _ => .inr rfl
  | r :: s, q, hin, hup, hq => by
    have hp := List.pairwise_cons.1 hup
    have hr := hin r (by simp)
    have h1 := hq r (by simp)
    unfold inB at hr
    rcases canon_len_at s (r.2 + 2) (fun a ha => hin a (by simp [ha])) hp.2 (fun a ha => by have := hp.1 a ha; omega) with h | h
    · left
      simp only [List.length_cons]
      omega
    · left
      subst h
      simp
      omega
theorem canon_len {s : List R2} (h : Canon s) : s.length ≤ 557057 := by
  rcases canon_len_at s 0 h.in_ h.up (fun r hr => (h.in_ r hr).1) with k | k
  · omega
  · subst k
    simp
end Go.Proofs.YtnngemdpoemhgaaDoor

/- The search for the range in which a number may be; no condition. -/
namespace Go.Proofs.YtnngemdpoemhgaaDoor
open Go.RowKit

set_option maxRecDepth 100000 in
set_option maxHeartbeats 4000000 in
theorem closure29 (br bs : Nat) (r : Int) (a : Option Addr) (cap : Nat) (s : List R2) (i : Nat) (hi : i < s.length) (y : Int) (hy : y = s[i].2) (w : World) (hr : w.cell? ⟨br, 0, none⟩ = some (.int .i64 r)) (hs : w.cell? ⟨bs, 0, none⟩ = some (.slice a s.length cap)) (hl : Rg w a s) :
    Calls Tryd.prog 38 (#[.int .i64 i] ++ #[.pointer (some ⟨br, 0, none⟩), .pointer (some ⟨bs, 0, none⟩)]) w fun e w' => e = .returned (.bool (decide (r ≤ y))) ∧ Touch (fun _ => False) w w' := by
  obtain ⟨b, o, rfl, _, hcell⟩ : ∃ b o, a = some ⟨b, o, none⟩ ∧ b < w.heap.size ∧ ∀ i (h : i < s.length), w.cell? ⟨b, o + i * 2, none⟩ = some (.int .i64 (s[i]).1) ∧ w.cell? ⟨b, o + i * 2 + 1, none⟩ = some (.int .i64 (s[i]).2) := by
    rcases hl with h | h
    · rw [h] at hi; simp at hi
    · exact h
  obtain ⟨d0, d1⟩ := hcell i hi
  generalize s[i].1 = x at d0
  rw [← hy] at d1
  clear hy
  have hiI : (i : Int) < (s.length : Int) := by omega
  clear hcell
  go_enter Tryd.func38, Tryd.ntmps38
  go_wp2_with fail
  go_quiet (fail)
  go_wp2
  go_ret
  exact ⟨rfl, (Touch.refl _ _).drewN _⟩

set_option maxRecDepth 100000 in
set_option maxHeartbeats 4000000 in
theorem search_any (br bs : Nat) (r : Int) (a : Option Addr) (cap : Nat) (s : List R2) (w : World) (hbr : br < w.heap.size) (hbs : bs < w.heap.size) (hr : w.cell? ⟨br, 0, none⟩ = some (.int .i64 r)) (hs : w.cell? ⟨bs, 0, none⟩ = some (.slice a s.length cap)) (hl : Rg w a s)
    (hmono : ∀ i j (hi : i < s.length) (hj : j < s.length), i ≤ j → s[i].2 ≤ s[j].2) (hb : s.length ≤ 4194304) :
    Calls Tryd.prog 37 #[.int .i64 s.length, .func (.func 38) #[] #[.pointer (some ⟨br, 0, none⟩), .pointer (some ⟨bs, 0, none⟩)]] w fun e w' => ∃ k : Nat, e = .returned (.int .i64 k) ∧ k ≤ s.length ∧ (∀ t (_ : t < k) (hl : t < s.length), ¬ r ≤ s[t].2) ∧ (∀ t (_ : k ≤ t) (hl : t < s.length), r ≤ s[t].2) ∧ Touch (fun _ => False) w w' := by
  have HC := hid (fun (wq : World) (tc : Touch (fun _ => False) w wq) (i : Nat) (hi : i < s.length) (y : Int) (hy : y = s[i].2) => closure29 br bs r a cap s i hi y hy wq ((tc.cell (p := ⟨br, 0, none⟩) hbr id).trans hr) ((tc.cell (p := ⟨bs, 0, none⟩) hbs id).trans hs) (hl.new tc))
  have M := hid hmono
  clear hr hs hl hmono hbr hbs
  go_enter Tryd.func37, Tryd.ntmps37
  go_wp2_with fail
  go_loopg [5, 6] s.length (fun gk x y wr => ∃ lo hi : Nat, x = .int .i64 lo ∧ y = .int .i64 hi ∧ lo ≤ hi ∧ hi ≤ s.length ∧ hi - lo ≤ gk ∧ Hid ((∀ t (_ : t < lo) (hl : t < s.length), ¬ r ≤ s[t].2) ∧ (∀ t (_ : hi ≤ t) (hl : t < s.length), r ≤ s[t].2)) ∧ Touch (fun _ => False) w wr)
  case atStart => exact ⟨0, s.length, rfl, rfl, Nat.zero_le _, Nat.le_refl _, by omega, hid ⟨fun t ht => absurd ht (Nat.not_lt_zero _), fun t h1 h2 => by omega⟩, Touch.refl _ _⟩
  case round =>
    obtain ⟨lo, hi, rfl, rfl, hlh, hin, hg, I, htc⟩ := hrel
    have TC := hid htc
    clear htc
    by_cases hlt : lo < hi
    · have hmid : (lo + hi) / 2 < s.length := by omega
      have HMID := hid hmid
      obtain ⟨y, hy⟩ : ∃ y, y = s[(lo + hi) / 2].2 := ⟨_, rfl⟩
      have hc := HC.out wr TC.out ((lo + hi) / 2) hmid y hy
      rw [show (((lo + hi) / 2 : Nat) : Int) = ((lo : Int) + (hi : Int)) / 2 by omega] at hc
      have HY := hid hy
      clear hy hmid
      by_cases hp : r ≤ y
      · rw [decide_eq_true hp] at hc
        have HP := hid hp
        clear hp
        go_wp2_with fail
        refine hc.mono ?_
        rintro e w' ⟨rfl, tc⟩
        have T2 := hid (TC.out.trans tc (fun _ _ e => e))
        clear tc hc
        go_wp2_with fail
        go_roundg ((lo + hi) / 2 - lo)
        case measure => omega
        case rel =>
          exact ⟨lo, (lo + hi) / 2, rfl, by rw [show ((lo : Int) + (hi : Int)) / 2 = (((lo + hi) / 2 : Nat) : Int) by omega], by omega, by omega, Nat.le_refl _, hid ⟨I.out.1, fun t ht htl => by have h1 := M.out _ t HMID.out htl ht; have h2 := HP.out; rw [HY.out] at h2; omega⟩, T2.out⟩
      · rw [decide_eq_false hp] at hc
        have HP := hid hp
        clear hp
        go_wp2_with fail
        refine hc.mono ?_
        rintro e w' ⟨rfl, tc⟩
        have T2 := hid (TC.out.trans tc (fun _ _ e => e))
        clear tc hc
        go_wp2_with fail
        go_roundg (hi - ((lo + hi) / 2 + 1))
        case measure => omega
        case rel =>
          exact ⟨(lo + hi) / 2 + 1, hi, by rw [show ((lo : Int) + (hi : Int)) / 2 + 1 = (((lo + hi) / 2 + 1 : Nat) : Int) by omega], rfl, by omega, hin, Nat.le_refl _, hid ⟨fun t ht htl => by have h1 := M.out t _ htl HMID.out (by omega); have h2 := HP.out; rw [HY.out] at h2; omega, I.out.2⟩, T2.out⟩
    · obtain rfl : hi = lo := by omega
      go_wp2
      go_ret
      exact ⟨hi, rfl, hin, I.out.1, I.out.2, TC.out⟩
end Go.Proofs.YtnngemdpoemhgaaDoor

/- Where a number would be in a list of ranges that rises, plain facts; no condition beside those told. -/
namespace Go.Proofs.YtnngemdpoemhgaaDoor

theorem canon_lt {s : List R2} (h : Canon s) (i j : Nat) (hi : i < s.length) (hj : j < s.length) (hij : i < j) : s[i].2 + 1 < s[j].1 := (List.pairwise_iff_getElem.1 h.up) i j hi hj hij
theorem canon_mono {s : List R2} (h : Canon s) (i j : Nat) (hi : i < s.length) (hj : j < s.length) (hij : i ≤ j) : s[i].2 ≤ s[j].2 := by
  rcases Nat.lt_or_ge i j with k | k
  · have h1 := canon_lt h i j hi hj k
    have h2 := h.in_ s[j] (List.getElem_mem _)
    unfold inB at h2
    omega
  · obtain rfl : i = j := by omega
    exact Int.le_refl _
theorem has_none {s : List R2} (x : Int) (h1 : ∀ t (hl : t < s.length), ¬ x ≤ s[t].2) : hasB x s = false := by
  rw [← Bool.not_eq_true, hasB_iff]
  rintro ⟨r, hr, _, k⟩
  obtain ⟨t, ht, rfl⟩ := List.getElem_of_mem hr
  exact h1 t ht k
theorem has_at {s : List R2} (h : Canon s) (x : Int) (k : Nat) (hk : k < s.length) (h1 : ∀ t (_ : t < k) (hl : t < s.length), ¬ x ≤ s[t].2) (h2 : x ≤ s[k].2) : hasB x s = decide (s[k].1 ≤ x) := by
  refine hasB_eq ?_
  rw [decide_eq_true_eq]
  constructor
  · rintro ⟨r, hr, k1, k2⟩
    obtain ⟨t, ht, rfl⟩ := List.getElem_of_mem hr
    rcases Nat.lt_trichotomy t k with q | q | q
    · exact absurd k2 (h1 t q ht)
    · subst q
      exact k1
    · have := canon_lt h k t hk ht q
      omega
  · exact fun q => ⟨s[k], List.getElem_mem _, q, h2⟩
end Go.Proofs.YtnngemdpoemhgaaDoor

/- Has of a set: what it answers; no condition beside those told. -/
namespace Go.Proofs.YtnngemdpoemhgaaDoor
open Go.RowKit

theorem box_new (w : World) (v : Value) (t : TypeId) : (w.alloc (.cells #[v] t)).cell? ⟨w.heap.size, 0, none⟩ = some v := by
  rw [World.cell?_alloc_at _ _ _ _ (by simp)]; rfl

set_option maxRecDepth 100000 in
set_option maxHeartbeats 4000000 in
theorem has_says (a : Option Addr) (cap : Nat) (s : List R2) (r : Int) (w : World) (hl : Rg w a s) (hs : Canon s) :
    Calls Tryd.prog 15 #[.slice a s.length cap, .int .i64 r] w fun e w' => e = .returned (.bool (hasB r s)) ∧ Touch (fun _ => False) w w' := by
  have HL := hid hl
  have HS := hid hs
  have hb := canon_len hs
  have K := hid (fun (wq : World) h1 h2 h3 h4 h5 => search_any (w.heap.size + 1) w.heap.size r a cap s wq h1 h2 h3 h4 h5 (canon_mono hs) (by omega))
  have T2 := hid (((Touch.refl (fun _ => False) w).alloc (.cells #[.slice a s.length cap] 27)).alloc (.cells #[.int .i64 r] 3))
  clear hl hs
  go_enter Tryd.func15, Tryd.ntmps15
  go_wp2_with fail
  have q1 : ((w.alloc (.cells #[.slice a s.length cap] 27)).alloc (.cells #[.int .i64 r] 3)).cell? ⟨w.heap.size, 0, none⟩ = some (.slice a s.length cap) := (((Touch.refl (fun _ => False) _).alloc _).cell (p := ⟨w.heap.size, 0, none⟩) (by simp) id).trans (box_new _ _ _)
  have q2 : ((w.alloc (.cells #[.slice a s.length cap] 27)).alloc (.cells #[.int .i64 r] 3)).cell? ⟨w.heap.size + 1, 0, none⟩ = some (.int .i64 r) := by
    have := box_new (w.alloc (.cells #[.slice a s.length cap] 27)) (.int .i64 r) 3
    rw [show (w.alloc (.cells #[.slice a s.length cap] 27)).heap.size = w.heap.size + 1 by simp] at this
    exact this
  have z2 : w.heap.size + 1 < ((w.alloc (.cells #[.slice a s.length cap] 27)).alloc (.cells #[.int .i64 r] 3)).heap.size := by simp
  generalize ((w.alloc (.cells #[.slice a s.length cap] 27)).alloc (.cells #[.int .i64 r] 3)) = w2 at *
  have z1 : w.heap.size < w2.heap.size := Nat.lt_of_succ_lt z2
  refine (K.out w2 z2 z1 q2 q1 (HL.out.new T2.out)).mono ?_
  rintro e w3 ⟨k, rfl, hk, h1, h2, tc⟩
  have T3 := hid (T2.out.trans tc (fun _ _ e => e))
  have p1 := (tc.cell (p := ⟨w.heap.size, 0, none⟩) z1 id).trans q1
  have p2 := (tc.cell (p := ⟨w.heap.size + 1, 0, none⟩) z2 id).trans q2
  have R3 := hid (HL.out.new T3.out)
  clear tc q1 q2 z1 z2 K
  by_cases hlt : k < s.length
  · have HX := hid (has_at HS.out r k hlt (fun t p q => by have := h1 t p q; omega) (h2 k (Nat.le_refl _) hlt))
    obtain ⟨b, o, ha, hbl, hcell⟩ : ∃ b o, a = some ⟨b, o, none⟩ ∧ b < w3.heap.size ∧ ∀ i (h : i < s.length), w3.cell? ⟨b, o + i * 2, none⟩ = some (.int .i64 (s[i]).1) ∧ w3.cell? ⟨b, o + i * 2 + 1, none⟩ = some (.int .i64 (s[i]).2) := by
      rcases R3.out with h | h
      · rw [h] at hlt; simp at hlt
      · exact h
    subst ha
    obtain ⟨d0, d1⟩ := hcell k hlt
    obtain ⟨x, hx⟩ : ∃ x, x = s[k].1 := ⟨_, rfl⟩
    rw [← hx] at d0 HX
    have hkI : (k : Int) < (s.length : Int) := by omega
    have hd : decide ((k : Int) < (s.length : Int)) = true := decide_eq_true hkI
    clear hcell hx h1 h2 d1
    go_wp2_with fail
    go_quiet (fail)
    go_wp2
    go_ret
    rw [HX.out]
    exact ⟨rfl, T3.out.drewN _⟩
  · have HX := hid (has_none (s := s) r (fun t ht => by have := h1 t (by omega) ht; omega))
    have hd : decide ((k : Int) < (s.length : Int)) = false := decide_eq_false (by omega)
    clear h1 h2
    go_wp2_with fail
    go_quiet (fail)
    go_wp2
    go_ret
    rw [HX.out]
    exact ⟨rfl, T3.out.drewN _⟩
end Go.Proofs.YtnngemdpoemhgaaDoor

/- ContainsFunc of numbers and a set's Has; no condition beside those told. -/
namespace Go.Proofs.YtnngemdpoemhgaaDoor
open Go.RowKit

theorem any_step (e : List Int) (s : List R2) (k : Nat) (h : k < e.length) (h0 : (e.take k).any (fun y => hasB y s) = false) : (e.take (k + 1)).any (fun y => hasB y s) = hasB e[k] s := by
  rw [List.take_succ_eq_append_getElem h, List.any_append, h0]
  simp
theorem any_found (e : List Int) (s : List R2) (k : Nat) (h : k < e.length) (h0 : hasB e[k] s = true) : e.any (fun y => hasB y s) = true := List.any_eq_true.2 ⟨e[k], List.getElem_mem _, h0⟩

set_option maxRecDepth 100000 in
set_option maxHeartbeats 4000000 in
theorem index_has (a : Option Addr) (cap : Nat) (e : List Int) (sa : Option Addr) (sc : Nat) (s : List R2) (w : World) (hi : Ig w a e) (hs : Rg w sa s) (hc : Canon s) (hb : e.length ≤ 100) :
    Calls Tryd.prog 49 #[.slice a e.length cap, .func (.func 15) #[.slice sa s.length sc] #[]] w fun en w' => ∃ k : Int, en = .returned (.int .i64 k) ∧ decide (0 ≤ k) = e.any (fun y => hasB y s) ∧ Touch (fun _ => False) w w' := by
  have HI := hid hi
  have HS := hid hs
  have HC := hid hc
  clear hi hs hc
  go_enter Tryd.func49, Tryd.ntmps49
  go_wp2_with fail
  go_loopg [8] e.length (fun gk i wr => ∃ k : Nat, k + gk = e.length ∧ i = .int .i64 (k : Nat) ∧ (e.take k).any (fun y => hasB y s) = false ∧ Touch (fun _ => False) w wr)
  case atStart => exact ⟨0, by omega, rfl, by simp, Touch.refl _ _⟩
  case round =>
    obtain ⟨k, hk, rfl, hno, htc⟩ := hrel
    have TC := hid htc
    have HN := hid hno
    by_cases hlt : k < e.length
    · obtain ⟨b, ha, _, hcl⟩ := HI.out.new htc
      subst ha
      have d0 := hcl k hlt
      have HST := hid (any_step e s k hlt HN.out)
      have HFD := hid (any_found e s k hlt)
      have KH := hid (fun x => has_says sa sc s x wr (HS.out.new TC.out) HC.out)
      obtain ⟨x, hx⟩ : ∃ x, x = e[k] := ⟨_, rfl⟩
      rw [← hx] at d0 HST HFD
      obtain ⟨A, hA⟩ : ∃ A, hasB x s = A := ⟨_, rfl⟩
      rw [hA] at HST HFD
      have K1 := hid (KH.out x)
      rw [hA] at K1
      have hkI : (k : Int) < (e.length : Int) := by omega
      clear hcl hno htc hx hA KH
      go_wp2_with fail
      refine K1.out.mono ?_
      rintro en w2 ⟨rfl, tq⟩
      have T2 := hid (TC.out.trans tq (fun _ _ e => e))
      clear tq K1
      cases A
      · go_wp2_with fail
        go_roundg (gk - 1)
        case measure => omega
        case rel => exact ⟨k + 1, by omega, by go_num, HST.out, T2.out⟩
      · have HT := hid (HFD.out rfl)
        go_wp2
        go_ret
        refine ⟨_, rfl, ?_, T2.out⟩
        rw [HT.out]
        exact decide_eq_true (by omega)
    · obtain rfl : k = e.length := by omega
      rw [List.take_length] at HN
      clear hno htc
      go_wp2
      go_ret
      refine ⟨_, rfl, ?_, TC.out⟩
      rw [HN.out]
      rfl
set_option maxRecDepth 100000 in
theorem contains_has (a : Option Addr) (cap : Nat) (e : List Int) (sa : Option Addr) (sc : Nat) (s : List R2) (w : World) (hi : Ig w a e) (hs : Rg w sa s) (hc : Canon s) (hb : e.length ≤ 100) :
    Calls Tryd.prog 31 #[.slice a e.length cap, .func (.func 15) #[.slice sa s.length sc] #[]] w fun en w' => en = .returned (.bool (e.any (fun y => hasB y s))) ∧ Touch (fun _ => False) w w' := by
  have K := hid (index_has a cap e sa sc s w hi hs hc hb)
  clear hi hs hc
  go_enter Tryd.func31, Tryd.ntmps31
  go_wp2_with fail
  refine K.out.mono ?_
  rintro en w1 ⟨k, rfl, hd, tc⟩
  have TC := hid tc
  have HD := hid hd
  clear tc K hd
  go_wp2
  go_ret
  rw [← HD.out]
  exact ⟨rfl, TC.out⟩
end Go.Proofs.YtnngemdpoemhgaaDoor
