/- Texts of this proof, one behind the other: what each says stands ahead of it. -/
import Derived.Test.YtnngemdpoemhgaaDoorM6
import Derived.Test.YtnngemdpoemhgaaDoorM1
import Derived.Test.YtnngemdpoemhgaaDoorM4
/- Orbit of a number whose orbit comes up rising, and what the laws ask first; conditions: those told. -/
namespace Go.Proofs.YtnngemdpoemhgaaDoor
open Go.RowKit

def encI (e : List Int) : List Value := e.map (Value.int .i64)
/-- Numbers in a list of the call's own. -/
structure OwI (W0 wr : World) (v : Value) (e : List Int) : Prop where
  own : wr.ownsRow 0 3 1 v e.length (encI e)
  new : ∀ g, v.ownBlock = some g → W0.heap.size ≤ g
  touch : Touch (fun _ => False) W0 wr
theorem OwI.more {W0 wr w1 : World} {v v' : Value} {e : List Int} {x : Int} {o : Obj} (h : OwI W0 wr v e) (hown : w1.ownsRow 0 3 1 v' (e.length + 1) (encI e ++ [.int .i64 x])) (hg : (wr.alloc o).grownBy w1 v.ownBlock) (hat : v'.ownBlock = v.ownBlock ∨ v'.ownBlock = some (wr.heap.size + 1)) : OwI W0 w1 v' (e ++ [x]) := by
  refine ⟨?_, fun g hg' => ?_, (h.touch.alloc o).grown hg (fun k e hk => by have := h.new k e; omega)⟩
  · rw [List.length_append, encI, List.map_append]
    exact hown
  · rcases hat with e | e
    · exact h.new g (by rw [← e]; exact hg')
    · rw [e] at hg'
      simp at hg'
      have := h.touch.size
      omega
theorem OwI.still {W0 wr w' : World} {v : Value} {e : List Int} (h : OwI W0 wr v e) (tc : Touch (fun _ => False) wr w') : OwI W0 w' v e := by
  refine ⟨⟨h.own.1, ?_⟩, h.new, h.touch.trans tc (fun _ _ e => e)⟩
  rcases h.own.2 with h0 | ⟨g, cap, cur, hv, hg, hh, rest⟩
  · exact .inl h0
  · exact .inr ⟨g, cap, cur, hv, hg, (tc.block g (lt_of_block hh) id).trans hh, rest⟩
theorem OwI.from {W W0 wr : World} {v : Value} {e : List Int} (h : OwI W0 wr v e) (t : Touch (fun _ => False) W W0) : OwI W wr v e :=
  ⟨h.own, fun g hg => Nat.le_trans t.size (h.new g hg), t.trans h.touch (fun _ _ e => e)⟩
theorem OwI.ig {W0 wr : World} {v : Value} {e : List Int} (h : OwI W0 wr v e) (h0 : e ≠ []) : ∃ a c, v = .slice a e.length c ∧ Ig wr a e := by
  rcases h.own.2 with ⟨rfl, k⟩ | ⟨g, cap, cur, rfl, hg, hh, rest⟩
  · exact absurd (List.eq_nil_of_length_eq_zero k) h0
  · refine ⟨_, cap, rfl, g, rfl, lt_of_block hh, fun i hi => ?_⟩
    have := h.own.cells (g := g) rfl i (.int .i64 e[i]) (by simp [encI, hi])
    rwa [add_g] at this
theorem OwI.one (w : World) (x : Int) : OwI w (w.alloc (.cells #[.int .i64 x] 3)) (.slice (some ⟨w.heap.size, 0, none⟩) 1 1) [x] := by
  refine ⟨?_, fun g hg => ?_, (Touch.refl _ w).alloc _⟩
  · exact ⟨rfl, .inr ⟨w.heap.size, 1, #[.int .i64 x], rfl, Nat.zero_le _, heap_alloc_new w _, Nat.le_refl _, by unfold maxLen; omega, rfl, rfl⟩⟩
  · simp [Value.ownBlock] at hg
    omega

def isGreat (c : Int) (p : Int × Int × Int) : Bool := decide (p.1 ≤ c) && decide (c ≤ p.2.1)
def ofGreat (c : Int) (t : Int × Int) : Bool := t.2 == c
def smalls (c : Int) (k : Nat) : List Int := ((pairsL.take k).filter (isGreat c)).map fun p => c + p.2.2
def others (c : Int) (k : Nat) : List Int := ((thirdsL.take k).filter (ofGreat c)).map (·.1)
/-- The orbit of a great letter, as it comes up. -/
def orbU (c : Int) : List Int := [c] ++ smalls c 7 ++ others c 5
theorem smalls_step (c : Int) (k : Nat) (p : Int × Int × Int) (h : pairsL[k]? = some p) : smalls c (k + 1) = smalls c k ++ (if isGreat c p = true then [c + p.2.2] else []) := by
  have hk : k < pairsL.length := by
    rcases Nat.lt_or_ge k pairsL.length with q | q
    · exact q
    · rw [List.getElem?_eq_none q] at h; cases h
  rw [List.getElem?_eq_getElem hk] at h
  unfold smalls
  rw [List.take_succ_eq_append_getElem hk, Option.some.inj h, List.filter_append, List.map_append]
  congr 1
  by_cases q : isGreat c p = true <;> simp [q]
theorem others_step (c : Int) (k : Nat) (p : Int × Int) (h : thirdsL[k]? = some p) : others c (k + 1) = others c k ++ (if ofGreat c p = true then [p.1] else []) := by
  have hk : k < thirdsL.length := by
    rcases Nat.lt_or_ge k thirdsL.length with q | q
    · exact q
    · rw [List.getElem?_eq_none q] at h; cases h
  rw [List.getElem?_eq_getElem hk] at h
  unfold others
  rw [List.take_succ_eq_append_getElem hk, Option.some.inj h, List.filter_append, List.map_append]
  congr 1
  by_cases q : ofGreat c p = true <;> simp [q]

/-- A list that rises. -/
def Up (e : List Int) : Prop := ∀ i (h : i + 1 < e.length), e[i] < e[i + 1]

set_option maxRecDepth 100000 in
set_option maxHeartbeats 8000000 in
theorem orbit_up (r c : Int) (w : World) (ht : Tabs w) (hr : 0 ≤ r ∧ r ≤ 1114111) (hcc : capOf r = c) (hc : 0 ≤ c ∧ c ≤ 1114111) (hup : Up (orbU c)) (hl : (orbU c).length ≤ 12) :
    Calls Tryd.prog 10 #[.int .i64 r] w fun e w' => ∃ v, e = .returned v ∧ OwI w w' v (orbU c) := by
  obtain ⟨i0, hi3, hz0, hz1, hz2⟩ := info_parts info3
  have HT := hid ht
  have KC := hid (capital_any r w ht hr)
  rw [hcc] at KC
  have HUP := hid hup
  have HL := hid hl
  clear hup hl ht hcc
  go_enter Tryd.func10, Tryd.ntmps10
  obtain ⟨hr0, hr1⟩ := hr
  go_wp2_with fail
  refine KC.out.mono ?_
  rintro e w1 ⟨rfl, tc⟩
  have T1 := hid tc
  have O1 := hid (OwI.one w1 c)
  clear tc KC
  obtain ⟨⟨t0, h0⟩, ⟨t1, h1⟩⟩ := HT.out.new ((T1.out).alloc (.cells #[.int .i64 c] 3))
  clear h1
  go_wp2_with (first | refine wpList_load_row rfl 48 _ rfl 0 rfl t0 pairsC (0, 0) _ h0 Tryd.underlying48 rfl (by kernel_rfl) ?_ | fail)
  go_loopg [4, 20] 7 (fun gk v i wr => ∃ k : Nat, k + gk = 7 ∧ i = .int .i64 (k : Nat) ∧ (smalls c k).length ≤ k ∧ OwI w1 wr v ([c] ++ smalls c k))
  case atStart => exact ⟨0, rfl, rfl, Nat.le_refl _, O1.out⟩
  case round =>
    obtain ⟨k, hk, rfl, hsl, how⟩ := hrel
    have OW := hid how
    obtain ⟨av, cv, hav, hig⟩ := how.ig (by simp)
    subst hav
    obtain ⟨ab, rfl, _, _⟩ := hig
    obtain ⟨M, hM⟩ : ∃ M, M = ([c] ++ smalls c k).length := ⟨_, rfl⟩
    have hMb : M ≤ 8 := by rw [hM]; simp; omega
    rw [← hM] at OW ⊢
    have HM := hid hM
    clear how hM h0
    by_cases hlt : k < 7
    · obtain ⟨⟨x, y, z⟩, hxy⟩ : ∃ p, pairsL[k]? = some p := ⟨pairsL[k]'(by simpa [pairsL] using hlt), List.getElem?_eq_getElem _⟩
      have hix := run_index48 k x y z wr hlt hxy
      have hsm := pairs_small k x y z hxy
      have HST := hid (smalls_step c k (x, y, z) hxy)
      have hkI : (k : Int) < 7 := by omega
      clear hxy
      have B2 := hid (three_block wr (.int .i64 x) (.int .i64 y) (.int .i64 z) 47)
      have TA := hid ((Touch.refl (fun _ => False) wr).alloc (.cells #[.int .i64 x, .int .i64 y, .int .i64 z] 47))
      have HS := hid (show isGreat c (x, y, z) = (decide (x ≤ c) && decide (c ≤ y)) from rfl)
      go_upto_region 8 with fail
      generalize (wr.alloc (.cells #[.int .i64 x, .int .i64 y, .int .i64 z] 47)) = wA at *
      have OA := hid (OW.out.still TA.out)
      have c0 : wA.cell? ⟨wr.heap.size, 0, none⟩ = some (.int .i64 x) := by simp [World.cell?, B2.out]
      have c1 : wA.cell? ⟨wr.heap.size, 1, none⟩ = some (.int .i64 y) := by simp [World.cell?, B2.out]
      have c2 : wA.cell? ⟨wr.heap.size, 2, none⟩ = some (.int .i64 z) := by simp [World.cell?, B2.out]
      clear hix OW
      by_cases hx : x ≤ c
      · by_cases hy : c ≤ y
        · have HN := hid (show smalls c (k + 1) = smalls c k ++ [c + z] by rw [HST.out, if_pos (by rw [HS.out]; simp [hx, hy])])
          go_wp2_with (at_builtin; refine wpList_append_own_at _ rfl _ _ 23 rfl 0 3 i0 (.int .i64 0) 1 8 Tryd.underlying23 hi3 hz0 hz1 hz2 rfl (by decide) _ _ _ rfl (OA.out.own.alloc _) ⟨wA.heap.size, 0, none⟩ 1 1 [.int .i64 (c + z)] rfl rfl (row_new wA [.int .i64 (c + z)] 3) (by intro u hu; simp at hu; subst hu; rfl) (by unfold maxLen; rw [← HM.out]; omega) (by rw [← HM.out]; omega) (Nat.zero_le _) ?_)
          intro v' w4 hown hgrow _ hat
          have OC := hid (OA.out.more hown hgrow hat)
          clear hown hgrow hat
          go_wp2
          go_roundg (gk - 1)
          case measure => omega
          case rel => exact ⟨k + 1, by omega, by go_num, by rw [HN.out]; simp; omega, by rw [HN.out, ← List.append_assoc]; exact OC.out⟩
        · have HN := hid (show smalls c (k + 1) = smalls c k by rw [HST.out, if_neg (by rw [HS.out]; simp [hy]), List.append_nil])
          go_wp2
          go_roundg (gk - 1)
          case measure => omega
          case rel => exact ⟨k + 1, by omega, by go_num, by rw [HN.out]; omega, by rw [HN.out]; have := OA.out; rw [HM.out] at this; rw [HM.out]; exact this⟩
      · have HN := hid (show smalls c (k + 1) = smalls c k by rw [HST.out, if_neg (by rw [HS.out]; simp [hx]), List.append_nil])
        go_wp2
        go_roundg (gk - 1)
        case measure => omega
        case rel => exact ⟨k + 1, by omega, by go_num, by rw [HN.out]; omega, by rw [HN.out]; have := OA.out; rw [HM.out] at this; rw [HM.out]; exact this⟩
    · obtain rfl : k = 7 := by omega
      obtain ⟨⟨t0, h0⟩, ⟨t1, h1⟩⟩ := HT.out.new (T1.out.trans OW.out.touch (fun _ _ e => e))
      clear h0
      go_wp2_with (first | refine wpList_load_row rfl 51 _ rfl 1 rfl t1 thirdsC (0, 0) _ h1 Tryd.underlying51 rfl (by kernel_rfl) ?_ | fail)
      go_loopg [4, 42] 5 (fun gk v i wr => ∃ k : Nat, k + gk = 5 ∧ i = .int .i64 (k : Nat) ∧ (others c k).length ≤ k ∧ OwI w1 wr v ([c] ++ smalls c 7 ++ others c k))
      case atStart => exact ⟨0, rfl, rfl, Nat.le_refl _, by have := OW.out; rw [HM.out] at this; rw [HM.out, show others c 0 = [] from rfl, List.append_nil]; exact this⟩
      case round =>
        obtain ⟨k, hk, rfl, hsl2, how⟩ := hrel
        clear OW HM hMb M
        have OW := hid how
        obtain ⟨av, cv, hav, hig⟩ := how.ig (by simp)
        subst hav
        have IG := hid hig
        obtain ⟨ab, rfl, _, _⟩ := hig
        obtain ⟨L, hLL⟩ : ∃ L, L = [c] ++ smalls c 7 ++ others c k := ⟨_, rfl⟩
        rw [← hLL] at OW IG ⊢
        have hLb : L.length ≤ 13 := by rw [hLL]; simp; omega
        have HLL := hid hLL
        clear how h1 hLL
        by_cases hlt : k < 5
        · obtain ⟨⟨x, y⟩, hxy⟩ : ∃ p, thirdsL[k]? = some p := ⟨thirdsL[k]'(by simpa [thirdsL] using hlt), List.getElem?_eq_getElem _⟩
          have hix := run_index51 k x y wr hlt hxy
          have HST := hid (others_step c k (x, y) hxy)
          have hkI : (k : Int) < 5 := by omega
          clear hxy IG
          have B2 := hid (show (wr.alloc (.cells #[.int .i64 x, .int .i64 y] 50)).heap[wr.heap.size]? = some (.cells #[.int .i64 x, .int .i64 y] 50 (0, 0)) from three_new _ _ _)
          have TA := hid ((Touch.refl (fun _ => False) wr).alloc (.cells #[.int .i64 x, .int .i64 y] 50))
          go_upto_region 14 with fail
          generalize (wr.alloc (.cells #[.int .i64 x, .int .i64 y] 50)) = wA at *
          have OA := hid (OW.out.still TA.out)
          have c0 := cell_two0 B2.out
          have c1 := cell_two1 B2.out
          clear hix OW
          by_cases hx : y = c
          · have HN := hid (show others c (k + 1) = others c k ++ [x] by rw [HST.out, if_pos (by simp [ofGreat, hx])])
            subst hx
            go_wp2_with (at_builtin; refine wpList_append_own_at _ rfl _ _ 23 rfl 0 3 i0 (.int .i64 0) 1 8 Tryd.underlying23 hi3 hz0 hz1 hz2 rfl (by decide) _ _ _ rfl (OA.out.own.alloc _) ⟨wA.heap.size, 0, none⟩ 1 1 [.int .i64 x] rfl rfl (row_new wA [.int .i64 x] 3) (by intro u hu; simp at hu; subst hu; rfl) (by unfold maxLen; omega) (by omega) (Nat.zero_le _) ?_)
            intro v' w4 hown hgrow _ hat
            have OC := hid (OA.out.more hown hgrow hat)
            clear hown hgrow hat
            go_wp2
            go_roundg (gk - 1)
            case measure => omega
            case rel => exact ⟨k + 1, by omega, by go_num, by rw [HN.out]; simp; omega, by rw [HN.out, ← List.append_assoc, ← HLL.out]; exact OC.out⟩
          · have HN := hid (show others c (k + 1) = others c k by rw [HST.out, if_neg (by simp [ofGreat, hx]), List.append_nil])
            have hxd : (y == c) = false := by simp [hx]
            have hxd2 : decide (y = c) = false := decide_eq_false hx
            go_wp2
            go_roundg (gk - 1)
            case measure => omega
            case rel => exact ⟨k + 1, by omega, by go_num, by rw [HN.out]; omega, by rw [HN.out, ← HLL.out]; exact OA.out⟩
        · obtain rfl : k = 5 := by omega
          have hLU : L = orbU c := HLL.out
          have h1L : 1 ≤ L.length := by rw [HLL.out]; simp
          have K := hid (sort_up _ cv L wr IG.out (by rw [hLU]; exact HUP.out) h1L (by rw [hLU]; exact HL.out))
          have HLU := hid hLU
          clear hLU h1L
          go_wp2_with fail
          refine K.out.mono ?_
          rintro e w2 ⟨rfl, tq⟩
          have OZ := hid (OW.out.still tq)
          clear tq K
          go_wp2
          go_ret
          refine ⟨_, rfl, ?_⟩
          rw [← HLU.out]
          exact OZ.out.from T1.out

theorem cap75 : capOf 75 = 75 := by decide
theorem orb75 : orbU 75 = [75, 107, 8490] := by decide
theorem orbit75 (w : World) (ht : Tabs w) : Calls Tryd.prog 10 #[.int .i64 75] w fun e w' => ∃ v, e = .returned v ∧ OwI w w' v [75, 107, 8490] := by
  have hup : Up (orbU 75) := by
    rw [orb75]
    intro i h
    simp at h
    match i, h with
    | 0, _ => show (75 : Int) < 107; decide
    | 1, _ => show (107 : Int) < 8490; decide
  have := orbit_up 75 75 w ht (by decide) cap75 (by decide) hup (by rw [orb75]; decide)
  rw [orb75] at this
  exact this

set_option maxRecDepth 100000 in
theorem speaks_yes (w : World) (ht : Tabs w) : Calls Tryd.prog 9 #[] w fun e w' => e = .returned (.bool true) ∧ Touch (fun _ => False) w w' := by
  have K := hid (orbit75 w ht)
  clear ht
  go_enter Tryd.func9, Tryd.ntmps9
  go_wp2_with fail
  refine K.out.mono ?_
  rintro e w1 ⟨v, rfl, ow⟩
  have T1 := hid ow.touch
  obtain ⟨a, c, hv, ig⟩ := ow.ig (by simp)
  subst hv
  obtain ⟨b, rfl, _, hc⟩ := ig
  have d1 : w1.cell? ⟨b, 1, none⟩ = some (.int .i64 107) := hc 1 (by simp)
  have d2 : w1.cell? ⟨b, 2, none⟩ = some (.int .i64 8490) := hc 2 (by simp)
  clear ow hc K
  go_wp2
  go_ret
  exact ⟨rfl, T1.out⟩
end Go.Proofs.YtnngemdpoemhgaaDoor

/- And of two sets, and Less: what they answer; no condition beside those told. -/
namespace Go.Proofs.YtnngemdpoemhgaaDoor
open Go.RowKit

theorem andL_nil (s : List R2) : andL s [] = [] := by
  cases s <;> rw [andL]
theorem Rg.head {w : World} {a : Option Addr} {x : R2} {s : List R2} (h : Rg w a (x :: s)) : ∃ b o, a = some ⟨b, o, none⟩ ∧ b < w.heap.size ∧ w.cell? ⟨b, o, none⟩ = some (.int .i64 x.1) ∧ w.cell? ⟨b, o + 1, none⟩ = some (.int .i64 x.2) ∧ Rg w (some ⟨b, o + 2, none⟩) s := by
  rcases h with h | ⟨b, o, rfl, hb, hc⟩
  · simp at h
  · have h0 := hc 0 (by simp)
    simp only [Nat.zero_mul, Nat.add_zero, List.getElem_cons_zero] at h0
    refine ⟨b, o, rfl, hb, h0.1, h0.2, .inr ⟨b, o + 2, rfl, hb, fun i hi => ?_⟩⟩
    have := hc (i + 1) (by simpa using hi)
    rw [show o + (i + 1) * 2 = o + 2 + i * 2 by omega] at this
    simpa using this

set_option maxRecDepth 100000 in
set_option maxHeartbeats 4000000 in
theorem and_any (a1 a2 : Option Addr) (c1 c2 : Nat) (s t : List R2) (w : World) (h1 : Rg w a1 s) (h2 : Rg w a2 t) (k1 : s.length ≤ c1) (k2 : t.length ≤ c2) (hb : s.length + t.length ≤ 4194304) :
    Calls Tryd.prog 18 #[.slice a1 s.length c1, .slice a2 t.length c2] w fun e w' => ∃ v, e = .returned v ∧ OwE w w' 33 v (andL s t) := by
  obtain ⟨i0, hi33, hz0, hz1, hz2⟩ := info_parts info33
  have H1 := hid h1
  have H2 := hid h2
  have K1 := hid k1
  have K2 := hid k2
  clear h1 h2 k1 k2
  go_enter Tryd.func18, Tryd.ntmps18
  go_wp2_with fail
  go_loopg [0, 1, 5] (s.length + t.length) (fun gk v0 v1 v wr => ∃ (p q o : List R2) (b1 b2 : Option Addr) (d1 d2 : Nat), p.length + q.length = gk ∧ v0 = .slice b1 p.length d1 ∧ v1 = .slice b2 q.length d2 ∧ p.length ≤ d1 ∧ q.length ≤ d2 ∧ Rg w b1 p ∧ Rg w b2 q ∧ o.length + p.length + q.length ≤ s.length + t.length ∧ o ++ andL p q = andL s t ∧ OwE w wr 33 v o)
  case atStart => exact ⟨s, t, [], a1, a2, c1, c2, rfl, rfl, rfl, K1.out, K2.out, H1.out, H2.out, by simp, rfl, OwE.nil _ _⟩
  case round =>
    obtain ⟨p, q, o, b1, b2, d1, d2, hgk, rfl, rfl, l1, l2, r1, r2, hol, heq, how⟩ := hrel
    have OW := hid how
    have HE := hid heq
    have R1 := hid (r1.new how.touch)
    have R2 := hid (r2.new how.touch)
    have R01 := hid r1
    have R02 := hid r2
    obtain ⟨av, cv, hav⟩ := own_shape how.own
    subst hav
    clear how r1 r2 heq
    obtain ⟨M, hM⟩ : ∃ M, M = o.length := ⟨_, rfl⟩
    rw [← hM] at OW ⊢
    have HM := hid hM
    clear hM
    cases p with
    | nil =>
      have HEE := hid (show o = andL s t from by have := HE.out; rw [andL, List.append_nil] at this; exact this)
      go_wp2
      go_ret
      refine ⟨_, rfl, ?_⟩
      rw [← HEE.out]
      exact OW.out
    | cons x p =>
      cases q with
      | nil =>
        have HEE := hid (show o = andL s t from by have := HE.out; rw [andL_nil, List.append_nil] at this; exact this)
        go_wp2
        go_ret
        refine ⟨_, rfl, ?_⟩
        rw [← HEE.out]
        exact OW.out
      | cons y q =>
        obtain ⟨xa, xb⟩ := x
        obtain ⟨ya, yb⟩ := y
        obtain ⟨e1, o1, hb1, _, x0, x1, rp⟩ := R1.out.head
        obtain ⟨e2, o2, hb2, _, y0, y1, rq⟩ := R2.out.head
        obtain ⟨_, _, hb1', _, _, _, rp0⟩ := R01.out.head
        obtain ⟨_, _, hb2', _, _, _, rq0⟩ := R02.out.head
        subst hb1
        subst hb2
        simp only [Option.some.injEq, Addr.mk.injEq, and_true] at hb1' hb2'
        obtain ⟨rfl, rfl⟩ := hb1'
        obtain ⟨rfl, rfl⟩ := hb2'
        have RP := hid rp0
        have RQ := hid rq0
        dsimp only at x0 x1 y0 y1
        clear rp rq rp0 rq0
        simp only [List.length_cons] at hgk l1 l2 hol ⊢
        have CA := hid (fun wq => common_any xa xb ya yb wq)
        obtain ⟨cx, hcx⟩ : ∃ cx, cx = max xa ya := ⟨_, rfl⟩
        obtain ⟨cy, hcy⟩ : ∃ cy, cy = min xb yb := ⟨_, rfl⟩
        rw [← hcx, ← hcy] at CA
        have HAL := hid (show andL ((xa, xb) :: p) ((ya, yb) :: q) = (if cx ≤ cy then [(cx, cy)] else []) ++ (if xb < yb then andL p ((ya, yb) :: q) else andL ((xa, xb) :: p) q) from by rw [andL, hcx, hcy])
        clear hcx hcy
        go_upto_region 3 with fail
        go_cut [6] (fun v wd => ∃ rb, v = .pointer (some ⟨rb, 0, none⟩) ∧ wd.heap[rb]? = some (.cells #[.int .i64 cx, .int .i64 cy] 33 (0, 0)) ∧ Touch (fun _ => False) wr wd ∧ wr.heap.size ≤ rb)
        case first =>
          go_region_with (go_at_call 32; refine (CA.out _).mono ?_; rintro e w1 ⟨rfl, tc⟩; have TC := hid tc; (try (have jb : w1.heap[wr.heap.size]? = some (.cells #[.int .i64 0, .int .i64 0] 33 (0, 0)) := (tc.block _ (by simp) id).trans (by show (wr.heap.push _)[_]? = _; simp); have JB := hid jb; have j0 := cell_two0 jb; have j1 := cell_two1 jb; have jf0 := free_two (i := 0) jb; have jf1 := free_two (i := 1) jb; clear jb)); clear tc)
          all_goals
            go_wp2
            go_meet
            case rel =>
              first
              | exact ⟨_, rfl, three_new _ _ _, ((Touch.refl _ wr).drew.trans TC.out (fun _ _ e => e)).alloc _, TC.out.size⟩
              | exact ⟨_, rfl, two_set1 (two_set0 JB.out), ((((Touch.refl (fun _ => False) wr).drew.alloc (.cells #[.int .i64 0, .int .i64 0] 33)).trans TC.out (fun _ _ e => e)).setCell (p := ⟨wr.heap.size, 0, none⟩) (fun h => absurd h (Nat.lt_irrefl _)) _).setCell (p := ⟨wr.heap.size, 1, none⟩) (fun h => absurd h (Nat.lt_irrefl _)) _, Nat.le_refl _⟩
        obtain ⟨rb, rfl, hrb, tcw, hge⟩ := hcut
        have RB := hid hrb
        have OA := hid (OW.out.still tcw)
        have HOWN := hid (show ∀ g, (Value.slice av M cv).ownBlock = some g → g ≠ rb from fun g e => by
          have := (OW.out.own.lt g e).2
          omega)
        have z0 := cell_two0 hrb
        have z1 := cell_two1 hrb
        have hMb : M ≤ 4194304 := by rw [HM.out]; omega
        have hob : o.length ≤ 4194304 := by omega
        clear hrb tcw OW x0 x1 y0 y1 R1 R2
        go_upto_if 26 with fail
        go_cut [5] (fun v wd => OwE w wd 33 v (o ++ (if cx ≤ cy then [(cx, cy)] else [])) ∧ Touch (fun k => w.heap.size ≤ k) wc wd)
        case first =>
          by_cases hc : cx ≤ cy
          · rw [decide_eq_true hc]
            go_wp2_with (at_builtin; refine wpList_append_own_at _ rfl _ _ 27 rfl 0 33 i0 (.agg #[.int .i64 0, .int .i64 0]) 2 16 Tryd.underlying27 hi33 hz0 hz1 hz2 rfl (by decide) _ _ _ rfl (OA.out.own.alloc _) ⟨wc.heap.size, 0, none⟩ 1 1 [.int .i64 cx, .int .i64 cy] rfl rfl (row_new wc [.int .i64 cx, .int .i64 cy] 33) (by intro u hu; simp at hu; rcases hu with rfl | rfl <;> rfl) (by unfold maxLen; omega) (by omega) (Nat.zero_le _) ?_)
            intro v' w4 hown hgrow _ hat
            have OC := hid (OA.out.more (xs := [(cx, cy)]) hown hgrow hat)
            have TG := hid (((Touch.refl (fun k => w.heap.size ≤ k) wc).alloc (.cells #[.int .i64 cx, .int .i64 cy] 33)).grown hgrow (fun k e hk => OA.out.new k e))
            have HC := hid hc
            clear hown hgrow hat hc
            go_wp2
            go_meet
            case rel =>
              rw [if_pos HC.out]
              exact ⟨OC.out, TG.out⟩
          · have HC := hid hc
            rw [decide_eq_false hc]
            clear hc
            go_wp2
            go_meet
            case rel =>
              rw [if_neg (by have := HC.out; omega), List.append_nil]
              exact ⟨OA.out, Touch.refl _ _⟩
        obtain ⟨owx, _⟩ := hcut
        have ol2 : (o ++ (if cx ≤ cy then [(cx, cy)] else [])).length ≤ o.length + 1 := by
          rw [List.length_append]
          split <;> simp
        obtain ⟨o2, ho2⟩ : ∃ o2, o2 = o ++ (if cx ≤ cy then [(cx, cy)] else []) := ⟨_, rfl⟩
        rw [← ho2] at owx ol2
        have HE2 := hid (show o2 ++ (if xb < yb then andL p ((ya, yb) :: q) else andL ((xa, xb) :: p) q) = andL s t from by rw [← HE.out, HAL.out, ho2, List.append_assoc])
        have OX := hid owx
        obtain ⟨av5, cv5, hv5⟩ := own_shape owx.own
        subst hv5
        have Q1 := (R01.out.new owx.touch).head
        have Q2 := (R02.out.new owx.touch).head
        obtain ⟨f1, g1, hb1, _, x0, x1, _⟩ := Q1
        obtain ⟨f2, g2, hb2, _, y0, y1, _⟩ := Q2
        simp only [Option.some.injEq, Addr.mk.injEq, and_true] at hb1 hb2
        obtain ⟨rfl, rfl⟩ := hb1
        obtain ⟨rfl, rfl⟩ := hb2
        dsimp only at x0 x1 y0 y1
        clear ho2 owx z0 z1
        go_upto_region 6 with fail
        go_cut [39] (fun v wd => v = .bool (decide (xb < yb)) ∧ Touch (fun _ => False) wc wd)
        case first =>
          go_quiet (fail)
          go_wp2
          go_meet
          case rel => exact ⟨rfl, (Touch.refl _ _).drewN _⟩
        obtain ⟨rfl, tcz⟩ := hcut
        have OZ := hid (OX.out.still tcz)
        clear tcz x0 x1 y0 y1
        by_cases hxy : xb < yb
        · rw [decide_eq_true hxy]
          have HXY := hid hxy
          clear hxy
          by_cases hd : d1 = 1
          · have hp0 : p = [] := List.eq_nil_of_length_eq_zero (by omega)
            subst hp0
            subst hd
            go_wp2_with fail
            go_roundg (gk - 1)
            case measure => omega
            case rel =>
              refine ⟨[], (ya, yb) :: q, o2, _, _, _, _, ?_, rfl, rfl, Nat.zero_le _, by simpa using l2, .inl rfl, R02.out, ?_, ?_, OZ.out⟩
              · simp; simp at hgk; omega
              · simp; simp at hol; omega
              · have := HE2.out
                rw [if_pos HXY.out] at this
                exact this
          · have g1' : (1 : Int) ≤ ((p.length + 1 : Nat) : Int) := by omega
            have g2' : (1 : Int) ≤ (d1 : Int) := by omega
            go_wp2_with fail
            go_roundg (gk - 1)
            case measure => omega
            case rel =>
              refine ⟨p, (ya, yb) :: q, o2, _, _, _, _, ?_, rfl, rfl, by omega, by simpa using l2, RP.out, R02.out, ?_, ?_, OZ.out⟩
              · simp; omega
              · simp; omega
              · have := HE2.out
                rw [if_pos HXY.out] at this
                exact this
        · rw [decide_eq_false hxy]
          have HXY := hid hxy
          clear hxy
          by_cases hd : d2 = 1
          · have hp0 : q = [] := List.eq_nil_of_length_eq_zero (by omega)
            subst hp0
            subst hd
            go_wp2_with fail
            go_roundg (gk - 1)
            case measure => omega
            case rel =>
              refine ⟨(xa, xb) :: p, [], o2, _, _, _, _, ?_, rfl, rfl, by simpa using l1, Nat.zero_le _, R01.out, .inl rfl, ?_, ?_, OZ.out⟩
              · simp; simp at hgk; omega
              · simp; simp at hol; omega
              · have := HE2.out
                rw [if_neg (by have := HXY.out; omega)] at this
                exact this
          · have g1' : (1 : Int) ≤ ((q.length + 1 : Nat) : Int) := by omega
            have g2' : (1 : Int) ≤ (d2 : Int) := by omega
            go_wp2_with fail
            go_roundg (gk - 1)
            case measure => omega
            case rel =>
              refine ⟨(xa, xb) :: p, q, o2, _, _, _, _, ?_, rfl, rfl, by simpa using l1, by omega, R01.out, RQ.out, ?_, ?_, OZ.out⟩
              · simp; omega
              · simp; omega
              · have := HE2.out
                rw [if_neg (by have := HXY.out; omega)] at this
                exact this

theorem and_says (a1 a2 : Option Addr) (c1 c2 : Nat) (s t : List R2) (w : World) (h1 : Rg w a1 s) (h2 : Rg w a2 t) (k1 : s.length ≤ c1) (k2 : t.length ≤ c2) (hs : Canon s) (ht : Canon t) :
    Calls Tryd.prog 18 #[.slice a1 s.length c1, .slice a2 t.length c2] w fun e w' => ∃ v n, e = .returned v ∧ Canon n ∧ (∀ x, In x n ↔ In x s ∧ In x t) ∧ OwE w w' 33 v n := by
  refine (and_any a1 a2 c1 c2 s t w h1 h2 k1 k2 (by have := canon_len hs; have := canon_len ht; omega)).mono ?_
  rintro e w' ⟨v, rfl, ow⟩
  have h := andL_good s t hs ht
  exact ⟨v, andL s t, rfl, h.1, h.2, ow⟩

theorem OwE.cap {W0 wr : World} {e n cap : Nat} {a : Option Addr} {s : List R2} (h : OwE W0 wr e (.slice a n cap) s) : s.length ≤ cap := by
  rcases h.own.2 with ⟨_, h0⟩ | ⟨g, cap', cur, hv, _, _, hle, _⟩
  · omega
  · simp only [Value.slice.injEq] at hv
    omega

set_option maxRecDepth 100000 in
set_option maxHeartbeats 4000000 in
theorem less_says (a1 a2 : Option Addr) (c1 c2 : Nat) (s t : List R2) (w : World) (h1 : Rg w a1 s) (h2 : Rg w a2 t) (k1 : s.length ≤ c1) (hs : Canon s) (ht : Canon t) :
    Calls Tryd.prog 19 #[.slice a1 s.length c1, .slice a2 t.length c2] w fun e w' => ∃ v n, e = .returned v ∧ Canon n ∧ (∀ x, In x n ↔ In x s ∧ ¬ In x t) ∧ OwE w w' 33 v n := by
  have K := hid (not_says a2 c2 t w h2 ht)
  have H1 := hid h1
  have KK := hid k1
  clear h1 h2 k1
  go_enter Tryd.func19, Tryd.ntmps19
  go_wp2_with fail
  refine K.out.mono ?_
  rintro e w1 ⟨v, n, rfl, hcn, hin, ow⟩
  obtain ⟨a3, c3, hv, hrg⟩ := ow.rg
  subst hv
  have K2 := hid (and_says a1 a3 c1 c3 s n w1 (H1.out.new ow.touch) hrg KK.out ow.cap hs hcn)
  have T1 := hid ow.touch
  have HIN := hid hin
  clear hrg ow hcn hin K
  go_wp2_with fail
  refine K2.out.mono ?_
  rintro e w2 ⟨v2, m, rfl, hcm, him, ow2⟩
  obtain ⟨a4, c4, hv⟩ := own_shape ow2.own
  subst hv
  have OW2 := hid ow2
  have HCM := hid hcm
  have HIM := hid him
  clear ow2 hcm him K2
  go_wp2
  go_ret
  refine ⟨_, m, rfl, HCM.out, fun x => ?_, ⟨OW2.out.own, fun g e => Nat.le_trans T1.out.size (OW2.out.new g e), T1.out.trans OW2.out.touch (fun _ _ e => e)⟩⟩
  rw [HIM.out x, HIN.out x]
  constructor
  · exact fun h => ⟨h.1, h.2.2⟩
  · refine fun h => ⟨h.1, ?_, h.2⟩
    obtain ⟨r, hr, q1, q2⟩ := h.1
    have := hs.in_ r hr
    unfold inB at this
    omega
end Go.Proofs.YtnngemdpoemhgaaDoor
