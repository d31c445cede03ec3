/- Texts of this proof, one behind the other: what each says stands ahead of it. -/
import Derived.Test.YtnngemdpoemhgaaDoorM3
import Derived.Test.YtnngemdpoemhgaaDoorM0
import Derived.Deep.RegionWith
import Derived.BigRegion
/- Orbit of a number whose orbit comes up rising, and what the laws ask first; conditions: those told. -/
namespace Go.Proofs.YtnngemdpoemhgaaDoor
open Go.RowKit

def encI (e : List Int) : List Value := e.map (Value.int .i64)
/-- Numbers in a list of the call's own. -/
structure OwI (W0 wr : World) (v : Value) (e : List Int) : Prop where
  own : wr.ownsRow 0 3 1 v e.length (encI e)
  new : ∀ g, v.ownBlock = some g → W0.heap.size ≤ g
  touch : Touch (fun _ => False) W0 wr
theorem OwI.more {W0 wr w1 : World} {v v' : Value} {e : List Int} {x : Int} {o : Obj} (h : OwI W0 wr v e) (hown : w1.ownsRow 0 3 1 v' (e.length + 1) (encI e ++ [.int .i64 x])) (hg : (wr.alloc o).grownBy w1 v.ownBlock) (hat : v'.ownBlock = v.ownBlock ∨ v'.ownBlock = some (wr.heap.size + 1)) : OwI W0 w1 v' (e ++ [x]) := by
  refine ⟨?_, fun g hg' => ?_, (h.touch.alloc o).grown hg (fun k e hk => by have := h.new k e; omega)⟩
  · rw [List.length_append, encI, List.map_append]
    exact hown
  · rcases hat with e | e
    · exact h.new g (by rw [← e]; exact hg')
    · rw [e] at hg'
      simp at hg'
      have := h.touch.size
      omega
theorem OwI.still {W0 wr w' : World} {v : Value} {e : List Int} (h : OwI W0 wr v e) (tc : Touch (fun _ => False) wr w') : OwI W0 w' v e := by
  refine ⟨⟨h.own.1, ?_⟩, h.new, h.touch.trans tc (fun _ _ e => e)⟩
  rcases h.own.2 with h0 | ⟨g, cap, cur, hv, hg, hh, rest⟩
  · exact .inl h0
  · exact .inr ⟨g, cap, cur, hv, hg, (tc.block g (lt_of_block hh) id).trans hh, rest⟩
theorem OwI.from {W W0 wr : World} {v : Value} {e : List Int} (h : OwI W0 wr v e) (t : Touch (fun _ => False) W W0) : OwI W wr v e :=
  ⟨h.own, fun g hg => Nat.le_trans t.size (h.new g hg), t.trans h.touch (fun _ _ e => e)⟩
theorem OwI.ig {W0 wr : World} {v : Value} {e : List Int} (h : OwI W0 wr v e) (h0 : e ≠ []) : ∃ a c, v = .slice a e.length c ∧ Ig wr a e := by
  rcases h.own.2 with ⟨rfl, k⟩ | ⟨g, cap, cur, rfl, hg, hh, rest⟩
  · exact absurd (List.eq_nil_of_length_eq_zero k) h0
  · refine ⟨_, cap, rfl, g, rfl, lt_of_block hh, fun i hi => ?_⟩
    have := h.own.cells (g := g) rfl i (.int .i64 e[i]) (by simp [encI, hi])
    rwa [add_g] at this
theorem OwI.one (w : World) (x : Int) : OwI w (w.alloc (.cells #[.int .i64 x] 3)) (.slice (some ⟨w.heap.size, 0, none⟩) 1 1) [x] := by
  refine ⟨?_, fun g hg => ?_, (Touch.refl _ w).alloc _⟩
  · exact ⟨rfl, .inr ⟨w.heap.size, 1, #[.int .i64 x], rfl, Nat.zero_le _, heap_alloc_new w _, Nat.le_refl _, by unfold maxLen; omega, rfl, rfl⟩⟩
  · simp [Value.ownBlock] at hg
    omega

def isGreat (c : Int) (p : Int × Int × Int) : Bool := decide (p.1 ≤ c) && decide (c ≤ p.2.1)
def ofGreat (c : Int) (t : Int × Int) : Bool := t.2 == c
def smalls (c : Int) (k : Nat) : List Int := ((pairsL.take k).filter (isGreat c)).map fun p => c + p.2.2
def others (c : Int) (k : Nat) : List Int := ((thirdsL.take k).filter (ofGreat c)).map (·.1)
/-- The orbit of a great letter, as it comes up. -/
def orbU (c : Int) : List Int := [c] ++ smalls c 7 ++ others c 5
theorem smalls_step (c : Int) (k : Nat) (p : Int × Int × Int) (h : pairsL[k]? = some p) : smalls c (k + 1) = smalls c k ++ (if isGreat c p = true then [c + p.2.2] else []) := by
  have hk : k < pairsL.length := by
    rcases Nat.lt_or_ge k pairsL.length with q | q
    · exact q
    · rw [List.getElem?_eq_none q] at h; cases h
  rw [List.getElem?_eq_getElem hk] at h
  unfold smalls
  rw [List.take_succ_eq_append_getElem hk, Option.some.inj h, List.filter_append, List.map_append]
  congr 1
  by_cases q : isGreat c p = true <;> simp [q]
theorem others_step (c : Int) (k : Nat) (p : Int × Int) (h : thirdsL[k]? = some p) : others c (k + 1) = others c k ++ (if ofGreat c p = true then [p.1] else []) := by
  have hk : k < thirdsL.length := by
    rcases Nat.lt_or_ge k thirdsL.length with q | q
    · exact q
    · rw [List.getElem?_eq_none q] at h; cases h
  rw [List.getElem?_eq_getElem hk] at h
  unfold others
  rw [List.take_succ_eq_append_getElem hk, Option.some.inj h, List.filter_append, List.map_append]
  congr 1
  by_cases q : ofGreat c p = true <;> simp [q]

/-- A list that rises. -/
def Up (e : List Int) : Prop := ∀ i (h : i + 1 < e.length), e[i] < e[i + 1]

set_option maxRecDepth 100000 in
set_option maxHeartbeats 8000000 in
theorem orbit_up (r c : Int) (w : World) (ht : Tabs w) (hr : 0 ≤ r ∧ r ≤ 1114111) (hcc : capOf r = c) (hc : 0 ≤ c ∧ c ≤ 1114111) (hup : Up (orbU c)) (hl : (orbU c).length ≤ 12) :
    Calls Tryd.prog 10 #[.int .i64 r] w fun e w' => ∃ v, e = .returned v ∧ OwI w w' v (orbU c) := by
  obtain ⟨i0, hi3, hz0, hz1, hz2⟩ := info_parts info3
  have HT := hid ht
  have KC := hid (capital_any r w ht hr)
  rw [hcc] at KC
  have HUP := hid hup
  have HL := hid hl
  clear hup hl ht hcc
  go_enter Tryd.func10, Tryd.ntmps10
  obtain ⟨hr0, hr1⟩ := hr
  go_wp2_with fail
  refine KC.out.mono ?_
  rintro e w1 ⟨rfl, tc⟩
  have T1 := hid tc
  have O1 := hid (OwI.one w1 c)
  clear tc KC
  obtain ⟨⟨t0, h0⟩, ⟨t1, h1⟩⟩ := HT.out.new ((T1.out).alloc (.cells #[.int .i64 c] 3))
  clear h1
  go_wp2_with (first | refine wpList_load_row rfl 48 _ rfl 0 rfl t0 pairsC (0, 0) _ h0 Tryd.underlying48 rfl (by kernel_rfl) ?_ | fail)
  go_loopg [4, 20] 7 (fun gk v i wr => ∃ k : Nat, k + gk = 7 ∧ i = .int .i64 (k : Nat) ∧ (smalls c k).length ≤ k ∧ OwI w1 wr v ([c] ++ smalls c k))
  case atStart => exact ⟨0, rfl, rfl, Nat.le_refl _, O1.out⟩
  case round =>
    obtain ⟨k, hk, rfl, hsl, how⟩ := hrel
    have OW := hid how
    obtain ⟨av, cv, hav, hig⟩ := how.ig (by simp)
    subst hav
    obtain ⟨ab, rfl, _, _⟩ := hig
    obtain ⟨M, hM⟩ : ∃ M, M = ([c] ++ smalls c k).length := ⟨_, rfl⟩
    have hMb : M ≤ 8 := by rw [hM]; simp; omega
    rw [← hM] at OW ⊢
    have HM := hid hM
    clear how hM h0
    by_cases hlt : k < 7
    · obtain ⟨⟨x, y, z⟩, hxy⟩ : ∃ p, pairsL[k]? = some p := ⟨pairsL[k]'(by simpa [pairsL] using hlt), List.getElem?_eq_getElem _⟩
      have hix := run_index48 k x y z wr hlt hxy
      have hsm := pairs_small k x y z hxy
      have HST := hid (smalls_step c k (x, y, z) hxy)
      have hkI : (k : Int) < 7 := by omega
      clear hxy
      have B2 := hid (three_block wr (.int .i64 x) (.int .i64 y) (.int .i64 z) 47)
      have TA := hid ((Touch.refl (fun _ => False) wr).alloc (.cells #[.int .i64 x, .int .i64 y, .int .i64 z] 47))
      have HS := hid (show isGreat c (x, y, z) = (decide (x ≤ c) && decide (c ≤ y)) from rfl)
      go_upto_region 8 with fail
      generalize (wr.alloc (.cells #[.int .i64 x, .int .i64 y, .int .i64 z] 47)) = wA at *
      have OA := hid (OW.out.still TA.out)
      have c0 : wA.cell? ⟨wr.heap.size, 0, none⟩ = some (.int .i64 x) := by simp [World.cell?, B2.out]
      have c1 : wA.cell? ⟨wr.heap.size, 1, none⟩ = some (.int .i64 y) := by simp [World.cell?, B2.out]
      have c2 : wA.cell? ⟨wr.heap.size, 2, none⟩ = some (.int .i64 z) := by simp [World.cell?, B2.out]
      clear hix OW
      by_cases hx : x ≤ c
      · by_cases hy : c ≤ y
        · have HN := hid (show smalls c (k + 1) = smalls c k ++ [c + z] by rw [HST.out, if_pos (by rw [HS.out]; simp [hx, hy])])
          go_wp2_with (at_builtin; refine wpList_append_own_at _ rfl _ _ 23 rfl 0 3 i0 (.int .i64 0) 1 8 Tryd.underlying23 hi3 hz0 hz1 hz2 rfl (by decide) _ _ _ rfl (OA.out.own.alloc _) ⟨wA.heap.size, 0, none⟩ 1 1 [.int .i64 (c + z)] rfl rfl (row_new wA [.int .i64 (c + z)] 3) (by intro u hu; simp at hu; subst hu; rfl) (by unfold maxLen; rw [← HM.out]; omega) (by rw [← HM.out]; omega) (Nat.zero_le _) ?_)
          intro v' w4 hown hgrow _ hat
          have OC := hid (OA.out.more hown hgrow hat)
          clear hown hgrow hat
          go_wp2
          go_roundg (gk - 1)
          case measure => omega
          case rel => exact ⟨k + 1, by omega, by go_num, by rw [HN.out]; simp; omega, by rw [HN.out, ← List.append_assoc]; exact OC.out⟩
        · have HN := hid (show smalls c (k + 1) = smalls c k by rw [HST.out, if_neg (by rw [HS.out]; simp [hy]), List.append_nil])
          go_wp2
          go_roundg (gk - 1)
          case measure => omega
          case rel => exact ⟨k + 1, by omega, by go_num, by rw [HN.out]; omega, by rw [HN.out]; have := OA.out; rw [HM.out] at this; rw [HM.out]; exact this⟩
      · have HN := hid (show smalls c (k + 1) = smalls c k by rw [HST.out, if_neg (by rw [HS.out]; simp [hx]), List.append_nil])
        go_wp2
        go_roundg (gk - 1)
        case measure => omega
        case rel => exact ⟨k + 1, by omega, by go_num, by rw [HN.out]; omega, by rw [HN.out]; have := OA.out; rw [HM.out] at this; rw [HM.out]; exact this⟩
    · obtain rfl : k = 7 := by omega
      obtain ⟨⟨t0, h0⟩, ⟨t1, h1⟩⟩ := HT.out.new (T1.out.trans OW.out.touch (fun _ _ e => e))
      clear h0
      go_wp2_with (first | refine wpList_load_row rfl 51 _ rfl 1 rfl t1 thirdsC (0, 0) _ h1 Tryd.underlying51 rfl (by kernel_rfl) ?_ | fail)
      go_loopg [4, 42] 5 (fun gk v i wr => ∃ k : Nat, k + gk = 5 ∧ i = .int .i64 (k : Nat) ∧ (others c k).length ≤ k ∧ OwI w1 wr v ([c] ++ smalls c 7 ++ others c k))
      case atStart => exact ⟨0, rfl, rfl, Nat.le_refl _, by have := OW.out; rw [HM.out] at this; rw [HM.out, show others c 0 = [] from rfl, List.append_nil]; exact this⟩
      case round =>
        obtain ⟨k, hk, rfl, hsl2, how⟩ := hrel
        clear OW HM hMb M
        have OW := hid how
        obtain ⟨av, cv, hav, hig⟩ := how.ig (by simp)
        subst hav
        have IG := hid hig
        obtain ⟨ab, rfl, _, _⟩ := hig
        obtain ⟨L, hLL⟩ : ∃ L, L = [c] ++ smalls c 7 ++ others c k := ⟨_, rfl⟩
        rw [← hLL] at OW IG ⊢
        have hLb : L.length ≤ 13 := by rw [hLL]; simp; omega
        have HLL := hid hLL
        clear how h1 hLL
        by_cases hlt : k < 5
        · obtain ⟨⟨x, y⟩, hxy⟩ : ∃ p, thirdsL[k]? = some p := ⟨thirdsL[k]'(by simpa [thirdsL] using hlt), List.getElem?_eq_getElem _⟩
          have hix := run_index51 k x y wr hlt hxy
          have HST := hid (others_step c k (x, y) hxy)
          have hkI : (k : Int) < 5 := by omega
          clear hxy IG
          have B2 := hid (show (wr.alloc (.cells #[.int .i64 x, .int .i64 y] 50)).heap[wr.heap.size]? = some (.cells #[.int .i64 x, .int .i64 y] 50 (0, 0)) from three_new _ _ _)
          have TA := hid ((Touch.refl (fun _ => False) wr).alloc (.cells #[.int .i64 x, .int .i64 y] 50))
          go_upto_region 14 with fail
          generalize (wr.alloc (.cells #[.int .i64 x, .int .i64 y] 50)) = wA at *
          have OA := hid (OW.out.still TA.out)
          have c0 := cell_two0 B2.out
          have c1 := cell_two1 B2.out
          clear hix OW
          by_cases hx : y = c
          · have HN := hid (show others c (k + 1) = others c k ++ [x] by rw [HST.out, if_pos (by simp [ofGreat, hx])])
            subst hx
            go_wp2_with (at_builtin; refine wpList_append_own_at _ rfl _ _ 23 rfl 0 3 i0 (.int .i64 0) 1 8 Tryd.underlying23 hi3 hz0 hz1 hz2 rfl (by decide) _ _ _ rfl (OA.out.own.alloc _) ⟨wA.heap.size, 0, none⟩ 1 1 [.int .i64 x] rfl rfl (row_new wA [.int .i64 x] 3) (by intro u hu; simp at hu; subst hu; rfl) (by unfold maxLen; omega) (by omega) (Nat.zero_le _) ?_)
            intro v' w4 hown hgrow _ hat
            have OC := hid (OA.out.more hown hgrow hat)
            clear hown hgrow hat
            go_wp2
            go_roundg (gk - 1)
            case measure => omega
            case rel => exact ⟨k + 1, by omega, by go_num, by rw [HN.out]; simp; omega, by rw [HN.out, ← List.append_assoc, ← HLL.out]; exact OC.out⟩
          · have HN := hid (show others c (k + 1) = others c k by rw [HST.out, if_neg (by simp [ofGreat, hx]), List.append_nil])
            have hxd : (y == c) = false := by simp [hx]
            have hxd2 : decide (y = c) = false := decide_eq_false hx
            go_wp2
            go_roundg (gk - 1)
            case measure => omega
            case rel => exact ⟨k + 1, by omega, by go_num, by rw [HN.out]; omega, by rw [HN.out, ← HLL.out]; exact OA.out⟩
        · obtain rfl : k = 5 := by omega
          have hLU : L = orbU c := HLL.out
          have h1L : 1 ≤ L.length := by rw [HLL.out]; simp
          have K := hid (sort_up _ cv L wr IG.out (by rw [hLU]; exact HUP.out) h1L (by rw [hLU]; exact HL.out))
          have HLU := hid hLU
          clear hLU h1L
          go_wp2_with fail
          refine K.out.mono ?_
          rintro e w2 ⟨rfl, tq⟩
          have OZ := hid (OW.out.still tq)
          clear tq K
          go_wp2
          go_ret
          refine ⟨_, rfl, ?_⟩
          rw [← HLU.out]
          exact OZ.out.from T1.out

theorem cap75 : capOf 75 = 75 := by decide
theorem orb75 : orbU 75 = [75, 107, 8490] := by decide
theorem orbit75 (w : World) (ht : Tabs w) : Calls Tryd.prog 10 #[.int .i64 75] w fun e w' => ∃ v, e = .returned v ∧ OwI w w' v [75, 107, 8490] := by
  have hup : Up (orbU 75) := by
    rw [orb75]
    intro i h
    simp at h
    match i, h with
    | 0, _ => show (75 : Int) < 107; decide
    | 1, _ => show (107 : Int) < 8490; decide
  have := orbit_up 75 75 w ht (by decide) cap75 (by decide) hup (by rw [orb75]; decide)
  rw [orb75] at this
  exact this

set_option maxRecDepth 100000 in
theorem speaks_yes (w : World) (ht : Tabs w) : Calls Tryd.prog 9 #[] w fun e w' => e = .returned (.bool true) ∧ Touch (fun _ => False) w w' := by
  have K := hid (orbit75 w ht)
  clear ht
  go_enter Tryd.func9, Tryd.ntmps9
  go_wp2_with fail
  refine K.out.mono ?_
  rintro e w1 ⟨v, rfl, ow⟩
  have T1 := hid ow.touch
  obtain ⟨a, c, hv, ig⟩ := ow.ig (by simp)
  subst hv
  obtain ⟨b, rfl, _, hc⟩ := ig
  have d1 : w1.cell? ⟨b, 1, none⟩ = some (.int .i64 107) := hc 1 (by simp)
  have d2 : w1.cell? ⟨b, 2, none⟩ = some (.int .i64 8490) := hc 2 (by simp)
  clear ow hc K
  go_wp2
  go_ret
  exact ⟨rfl, T1.out⟩
end Go.Proofs.YtnngemdpoemhgaaDoor

/- Three numbers, of which the first two rise, sorted; conditions: those told. -/
namespace Go.Proofs.YtnngemdpoemhgaaDoor
open Go.Shelf Go.RowKit

theorem OwI.set {W0 wr : World} {g n cap : Nat} {e : List Int} (h : OwI W0 wr (.slice (some ⟨g, 0, none⟩) n cap) e) (hn : n = e.length) (i : Nat) (y : Int) : OwI W0 (wr.setCell ⟨g, i, none⟩ (.int .i64 y)) (.slice (some ⟨g, 0, none⟩) n cap) (e.set i y) := by
  subst hn
  refine ⟨?_, h.new, h.touch.setCell (p := ⟨g, _, none⟩) (fun hlt => by have := h.new g rfl; simp at hlt; omega) _⟩
  have := own_set h.own i (.int .i64 y)
  rw [show (encI e).set i (.int .i64 y) = encI (e.set i y) by unfold encI; rw [List.map_set]] at this
  simpa using this
theorem OwI.cells {W0 wr : World} {g n cap : Nat} {e : List Int} (h : OwI W0 wr (.slice (some ⟨g, 0, none⟩) n cap) e) (i : Nat) (hi : i < e.length) : wr.cell? ⟨g, i, none⟩ = some (.int .i64 e[i]) ∧ wr.frozen? ⟨g, i, none⟩ = false ∧ g < wr.heap.size := by
  rcases h.own.2 with ⟨hv, _⟩ | ⟨g', cap', cur, hv, hg, hh, rest⟩
  · simp at hv
  · simp only [Value.slice.injEq, Option.some.injEq, Addr.mk.injEq, and_true] at hv
    obtain ⟨rfl, _, _⟩ := hv
    refine ⟨?_, by simp [World.frozen?, hh], lt_of_block hh⟩
    have := h.own.cells (g := g) rfl i (.int .i64 e[i]) (by simp [encI, hi])
    rwa [add_g] at this

/-- Three numbers in order. -/
def three3 (x y t : Int) : List Int := if t < x then [t, x, y] else if t < y then [x, t, y] else [x, y, t]

set_option maxRecDepth 100000 in
set_option maxHeartbeats 8000000 in
theorem ins_three (W0 : World) (g cap : Nat) (x y t : Int) (w : World) (how : OwI W0 w (.slice (some ⟨g, 0, none⟩) 3 cap) [x, y, t]) (hxy : x < y) :
    Calls Tryd.prog 53 #[.slice (some ⟨g, 0, none⟩) 3 cap, .int .i64 0, .int .i64 3] w fun en w' => en = .returned (.tuple #[]) ∧ OwI W0 w' (.slice (some ⟨g, 0, none⟩) 3 cap) (three3 x y t) := by
  have OW := hid how
  clear how
  go_enter Tryd.func53, Tryd.ntmps53
  go_wp2_with fail
  go_loopg [6] 3 (fun gk i wr => ∃ k : Nat, k + gk = 4 ∧ 1 ≤ k ∧ k ≤ 3 ∧ i = .int .i64 (k : Nat) ∧ OwI W0 wr (.slice (some ⟨g, 0, none⟩) 3 cap) (if k = 3 then three3 x y t else [x, y, t]))
  case atStart => exact ⟨1, rfl, Nat.le_refl _, by decide, rfl, OW.out⟩
  case round =>
    obtain ⟨k, hk, hk1, hk3, rfl, how⟩ := hrel
    obtain ⟨G, hG⟩ : ∃ G, G = gk := ⟨_, rfl⟩
    have HG := hid hG
    clear hG
    rcases (show k = 1 ∨ k = 2 ∨ k = 3 by omega) with rfl | rfl | rfl
    · have O1 := hid (show OwI W0 wr (.slice (some ⟨g, 0, none⟩) 3 cap) [x, y, t] from how)
      clear how
      go_wp2_with fail
      go_loopg [7] 1 (fun g2 v wq => v = .int .i64 1 ∧ OwI W0 wq (.slice (some ⟨g, 0, none⟩) 3 cap) [x, y, t])
      case atStart => exact ⟨rfl, O1.out⟩
      case round =>
        obtain ⟨rfl, howq⟩ := hrel
        have OQ := hid howq
        have d0 : wr.cell? ⟨g, 0, none⟩ = some (.int .i64 x) := (howq.cells 0 (by simp)).1
        have d1 : wr.cell? ⟨g, 1, none⟩ = some (.int .i64 y) := (howq.cells 1 (by simp)).1
        have hd : decide (y < x) = false := decide_eq_false (by omega)
        have KL := hid (fun wq => less_any y x wq)
        rw [hd] at KL
        clear howq hd
        go_wp2_with fail
        go_quiet ((go_at_call 59; refine Calls.quiet_of_same (KL.out _)))
        go_wp2
        go_roundg (G - 1)
        case measure => have := HG.out; omega
        case rel => exact ⟨2, by have := HG.out; omega, by omega, by omega, by go_num, OQ.out.still ((Touch.refl _ _).drewN _)⟩
    · have O1 := hid (show OwI W0 wr (.slice (some ⟨g, 0, none⟩) 3 cap) [x, y, t] from how)
      clear how
      go_wp2_with fail
      go_loopg [7] 2 (fun g2 v wq => (g2 = 2 ∧ v = .int .i64 2 ∧ OwI W0 wq (.slice (some ⟨g, 0, none⟩) 3 cap) [x, y, t]) ∨ (g2 = 1 ∧ v = .int .i64 1 ∧ t < y ∧ OwI W0 wq (.slice (some ⟨g, 0, none⟩) 3 cap) [x, t, y]) ∨ (g2 = 0 ∧ v = .int .i64 0 ∧ t < y ∧ t < x ∧ OwI W0 wq (.slice (some ⟨g, 0, none⟩) 3 cap) [t, x, y]))
      case atStart => exact .inl ⟨rfl, rfl, O1.out⟩
      case round =>
        rcases hrel with ⟨hg2, rfl, howq⟩ | ⟨hg2, rfl, hty, howq⟩ | ⟨hg2, rfl, hty, htx, howq⟩
        · have OQ := hid howq
          have d1 : wr.cell? ⟨g, 1, none⟩ = some (.int .i64 y) := (howq.cells 1 (by simp)).1
          have d2 : wr.cell? ⟨g, 2, none⟩ = some (.int .i64 t) := (howq.cells 2 (by simp)).1
          have f1 := (howq.cells 1 (by simp)).2.1
          have f2 := (howq.cells 2 (by simp)).2.1
          by_cases hty : t < y
          · have hd : decide (t < y) = true := decide_eq_true hty
            have KL := hid (fun wq => less_any t y wq)
            rw [hd] at KL
            have HTY := hid hty
            clear howq hd hty
            go_upto_region 4 with fail
            go_cut [30] (fun v wd => v = .bool true ∧ Touch (fun _ => False) wr wd)
            case first =>
              go_quiet ((go_at_call 59; refine Calls.quiet_of_same (KL.out _)))
              go_wp2
              go_meet
              case rel => exact ⟨rfl, (Touch.refl _ _).drewN _⟩
            obtain ⟨rfl, tc⟩ := hcut
            have OC := hid (OQ.out.still tc)
            clear tc d1 d2 f1 f2
            have d1 : wc.cell? ⟨g, 1, none⟩ = some (.int .i64 y) := (OC.out.cells 1 (by simp)).1
            have d2 : wc.cell? ⟨g, 2, none⟩ = some (.int .i64 t) := (OC.out.cells 2 (by simp)).1
            have f1 := (OC.out.cells 1 (by simp)).2.1
            have f2 := (OC.out.cells 2 (by simp)).2.1
            go_wp2_with fail
            go_region
            all_goals
              go_wp2
              go_roundg 1
              case measure => omega
              case rel => exact .inr (.inl ⟨rfl, by go_num, HTY.out, ((OC.out.set rfl 2 y).set rfl 1 t).still ((Touch.refl _ _).drew)⟩)
          · have hd : decide (t < y) = false := decide_eq_false hty
            have KL := hid (fun wq => less_any t y wq)
            rw [hd] at KL
            have HTY := hid hty
            clear howq hd hty
            go_wp2_with fail
            go_quiet ((go_at_call 59; refine Calls.quiet_of_same (KL.out _)))
            go_wp2
            go_roundg (G - 1)
            case measure => have := HG.out; omega
            case rel => exact ⟨3, by have := HG.out; omega, by omega, by omega, by go_num, by
              rw [if_pos rfl, three3, if_neg (by have := HTY.out; omega), if_neg (by have := HTY.out; omega)]
              exact OQ.out.still ((Touch.refl _ _).drewN _)⟩
        · have OQ := hid howq
          have d0 : wr.cell? ⟨g, 0, none⟩ = some (.int .i64 x) := (howq.cells 0 (by simp)).1
          have d1 : wr.cell? ⟨g, 1, none⟩ = some (.int .i64 t) := (howq.cells 1 (by simp)).1
          have HTY := hid hty
          clear hty
          by_cases htx : t < x
          · have hd : decide (t < x) = true := decide_eq_true htx
            have KL := hid (fun wq => less_any t x wq)
            rw [hd] at KL
            have HTX := hid htx
            clear howq hd htx
            go_upto_region 4 with fail
            go_cut [30] (fun v wd => v = .bool true ∧ Touch (fun _ => False) wr wd)
            case first =>
              go_quiet ((go_at_call 59; refine Calls.quiet_of_same (KL.out _)))
              go_wp2
              go_meet
              case rel => exact ⟨rfl, (Touch.refl _ _).drewN _⟩
            obtain ⟨rfl, tc⟩ := hcut
            have OC := hid (OQ.out.still tc)
            clear tc d0 d1
            have d0 : wc.cell? ⟨g, 0, none⟩ = some (.int .i64 x) := (OC.out.cells 0 (by simp)).1
            have d1 : wc.cell? ⟨g, 1, none⟩ = some (.int .i64 t) := (OC.out.cells 1 (by simp)).1
            have f0 := (OC.out.cells 0 (by simp)).2.1
            have f1 := (OC.out.cells 1 (by simp)).2.1
            go_wp2_with fail
            go_region
            all_goals
              go_wp2
              go_roundg 0
              case measure => omega
              case rel => exact .inr (.inr ⟨rfl, by go_num, HTY.out, HTX.out, ((OC.out.set rfl 1 x).set rfl 0 t).still ((Touch.refl _ _).drew)⟩)
          · have hd : decide (t < x) = false := decide_eq_false htx
            have KL := hid (fun wq => less_any t x wq)
            rw [hd] at KL
            have HTX := hid htx
            clear howq hd htx
            go_wp2_with fail
            go_quiet ((go_at_call 59; refine Calls.quiet_of_same (KL.out _)))
            go_wp2
            go_roundg (G - 1)
            case measure => have := HG.out; omega
            case rel => exact ⟨3, by have := HG.out; omega, by omega, by omega, by go_num, by
              rw [if_pos rfl, three3, if_neg (by have := HTX.out; omega), if_pos HTY.out]
              exact OQ.out.still ((Touch.refl _ _).drewN _)⟩
        · have OQ := hid howq
          have HTX := hid htx
          clear howq htx hty
          go_wp2_with fail
          go_quiet (fail)
          go_wp2
          go_roundg (G - 1)
          case measure => have := HG.out; omega
          case rel => exact ⟨3, by have := HG.out; omega, by omega, by omega, by go_num, by
            rw [if_pos rfl, three3, if_pos HTX.out]
            exact OQ.out.still ((Touch.refl _ _).drewN _)⟩
    · have O1 := hid (show OwI W0 wr (.slice (some ⟨g, 0, none⟩) 3 cap) (three3 x y t) from how)
      clear how
      go_wp2
      go_end0
      exact ⟨rfl, O1.out⟩

set_option maxRecDepth 100000 in
set_option maxHeartbeats 4000000 in
theorem pdq_three (W0 : World) (g cap : Nat) (x y t n : Int) (w : World) (how : OwI W0 w (.slice (some ⟨g, 0, none⟩) 3 cap) [x, y, t]) (hxy : x < y) :
    Calls Tryd.prog 45 #[.slice (some ⟨g, 0, none⟩) 3 cap, .int .i64 0, .int .i64 3, .int .i64 n] w fun en w' => en = .returned (.tuple #[]) ∧ OwI W0 w' (.slice (some ⟨g, 0, none⟩) 3 cap) (three3 x y t) := by
  have K := hid (ins_three W0 g cap x y t w how hxy)
  clear how
  go_enter Tryd.func45, Tryd.ntmps45
  go_wp2_with fail
  go_loopg [1, 2] 1 (fun gk x y wr => gk = 1 ∧ x = .int .i64 0 ∧ y = .int .i64 3 ∧ w = wr)
  case atStart => exact ⟨rfl, rfl, rfl, rfl⟩
  case round =>
    obtain ⟨_, rfl, rfl, rfl⟩ := hrel
    go_wp2_with fail
    refine K.out.mono ?_
    rintro en w1 ⟨rfl, ow⟩
    have OW := hid ow
    clear ow
    go_wp2
    exact bodyPost_ret (results_none (fn := Tryd.f45) rfl _ Tryd.prog _) rfl ⟨rfl, OW.out⟩

set_option maxRecDepth 100000 in
set_option maxHeartbeats 4000000 in
theorem sort_three (W0 : World) (g cap : Nat) (x y t : Int) (w : World) (how : OwI W0 w (.slice (some ⟨g, 0, none⟩) 3 cap) [x, y, t]) (hxy : x < y) :
    Calls Tryd.prog 26 #[.slice (some ⟨g, 0, none⟩) 3 cap] w fun en w' => en = .returned (.tuple #[]) ∧ OwI W0 w' (.slice (some ⟨g, 0, none⟩) 3 cap) (three3 x y t) := by
  have hlen := fun wq => Any.bits_Len Tryd.bitsLen2 3 wq (by omega) (by omega)
  change ∀ wq, Calls Tryd.prog 46 _ _ _ at hlen
  have HLN := hid hlen
  have K := hid (fun n => pdq_three W0 g cap x y t n w how hxy)
  clear how hlen
  go_enter Tryd.func26, Tryd.ntmps26
  go_wp2_with fail
  refine (HLN.out _).mono ?_
  rintro en w1 ⟨rfl, rfl⟩
  go_wp2_with fail
  refine (K.out _).mono ?_
  rintro en w2 ⟨rfl, ow⟩
  have OW := hid ow
  clear ow
  go_wp2
  go_end0
  exact ⟨rfl, OW.out⟩
end Go.Proofs.YtnngemdpoemhgaaDoor
