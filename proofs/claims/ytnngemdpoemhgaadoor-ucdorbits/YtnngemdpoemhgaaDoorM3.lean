/- Texts of this proof, one behind the other: what each says stands ahead of it. -/
import Derived.Test.YtnngemdpoemhgaaDoorM2
import Derived.Test.YtnngemdpoemhgaaDoorM1
import Derived.Shelf.Small.Bits
import Derived.Laws.Rows
/- A list of few numbers that rises, sorted: it is as it was; condition: at most twelve numbers. -/
namespace Go.Proofs.YtnngemdpoemhgaaDoor
open Go.Shelf Go.RowKit

/-- Numbers that lie there. -/
def Ig (w : World) (a : Option Addr) (e : List Int) : Prop := ∃ b, a = some ⟨b, 0, none⟩ ∧ b < w.heap.size ∧ ∀ i (h : i < e.length), w.cell? ⟨b, i, none⟩ = some (.int .i64 e[i])
theorem Ig.new {w w' : World} {a : Option Addr} {e : List Int} (h : Ig w a e) (t : Touch (fun _ => False) w w') : Ig w' a e := by
  obtain ⟨b, rfl, hb, hc⟩ := h
  refine ⟨b, rfl, Nat.lt_of_lt_of_le hb t.size, fun i hi => ?_⟩
  rw [t.cell (p := ⟨b, i, none⟩) hb id]
  exact hc i hi

set_option maxRecDepth 100000 in
theorem nan_no (x : Int) (w : World) : Calls Tryd.prog 51 #[.int .i64 x] w fun e w' => e = .returned (.bool false) ∧ w' = w := by
  go_enter Tryd.func51, Tryd.ntmps51
  go_wp2
  go_ret
  exact ⟨by simp, rfl⟩
set_option maxRecDepth 100000 in
theorem less_any (x y : Int) (w : World) : Calls Tryd.prog 59 #[.int .i64 x, .int .i64 y] w fun e w' => e = .returned (.bool (decide (x < y))) ∧ w' = w := by
  go_enter Tryd.func59, Tryd.ntmps59
  go_wp2_with fail
  refine (nan_no x w).mono ?_
  rintro e w1 ⟨rfl, rfl⟩
  go_wp2
  go_ret
  exact ⟨rfl, rfl⟩

set_option maxRecDepth 100000 in
set_option maxHeartbeats 4000000 in
theorem ins_up (a : Option Addr) (cap : Nat) (e : List Int) (w : World) (hi : Ig w a e) (hup : ∀ i (h : i + 1 < e.length), e[i] < e[i + 1]) (h1 : 1 ≤ e.length) (hb : e.length ≤ 12) :
    Calls Tryd.prog 53 #[.slice a e.length cap, .int .i64 0, .int .i64 e.length] w fun en w' => en = .returned (.tuple #[]) ∧ Touch (fun _ => False) w w' := by
  have HI := hid hi
  have HUP := hid hup
  clear hi hup
  go_enter Tryd.func53, Tryd.ntmps53
  go_wp2_with fail
  go_loopg [6] e.length (fun gk i wr => ∃ k : Nat, k + gk = e.length + 1 ∧ k ≤ e.length ∧ 1 ≤ k ∧ i = .int .i64 (k : Nat) ∧ Touch (fun _ => False) w wr)
  case atStart => exact ⟨1, by omega, h1, Nat.le_refl _, rfl, Touch.refl _ _⟩
  case round =>
    obtain ⟨k, hk, hke, hk1, rfl, htc⟩ := hrel
    obtain ⟨G, hG⟩ : ∃ G, G = gk := ⟨_, rfl⟩
    have HG := hid hG
    clear hG
    have TC := hid htc
    clear htc
    by_cases hlt : k < e.length
    · obtain ⟨j, rfl⟩ : ∃ j, k = j + 1 := ⟨k - 1, by omega⟩
      go_wp2_with fail
      go_loopg [7] 1 (fun g2 v wq => v = .int .i64 ((j + 1 : Nat) : Int) ∧ Touch (fun _ => False) w wq)
      case atStart => exact ⟨rfl, TC.out⟩
      case round =>
        obtain ⟨rfl, htq⟩ := hrel
        have TQ := hid htq
        obtain ⟨b, ha, hbl, hc⟩ := HI.out.new htq
        subst ha
        have d0 := hc (j + 1) hlt
        have d1 := hc j (by omega)
        have hx := HUP.out j hlt
        obtain ⟨x, hxx⟩ : ∃ x, x = e[j + 1] := ⟨_, rfl⟩
        obtain ⟨y, hyy⟩ : ∃ y, y = e[j] := ⟨_, rfl⟩
        rw [← hxx] at d0 hx
        rw [← hyy] at d1 hx
        have hd : decide (x < y) = false := decide_eq_false (by omega)
        have KL := hid (fun wq => less_any x y wq)
        rw [hd] at KL
        have hjI : ((j + 1 : Nat) : Int) < (e.length : Int) := by omega
        clear hc htq hxx hyy hx
        go_wp2_with fail
        go_quiet ((go_at_call 59; refine Calls.quiet_of_same (KL.out _)))
        go_wp2
        go_roundg (G - 1)
        case measure => have := HG.out; omega
        case rel => exact ⟨j + 2, by have := HG.out; omega, by omega, by omega, by go_num, TQ.out.drewN _⟩
    · obtain rfl : k = e.length := by omega
      go_wp2
      go_end0
      exact ⟨rfl, TC.out⟩

set_option maxRecDepth 100000 in
set_option maxHeartbeats 4000000 in
theorem pdq_up (a : Option Addr) (cap : Nat) (e : List Int) (n : Int) (w : World) (hi : Ig w a e) (hup : ∀ i (h : i + 1 < e.length), e[i] < e[i + 1]) (h1 : 1 ≤ e.length) (hb : e.length ≤ 12) :
    Calls Tryd.prog 45 #[.slice a e.length cap, .int .i64 0, .int .i64 e.length, .int .i64 n] w fun en w' => en = .returned (.tuple #[]) ∧ Touch (fun _ => False) w w' := by
  have K := hid (ins_up a cap e w hi hup h1 hb)
  clear hi hup
  go_enter Tryd.func45, Tryd.ntmps45
  go_wp2_with fail
  go_loopg [1, 2] 1 (fun gk x y wr => gk = 1 ∧ x = .int .i64 0 ∧ y = .int .i64 e.length ∧ w = wr)
  case atStart => exact ⟨rfl, rfl, rfl, rfl⟩
  case round =>
    obtain ⟨_, rfl, rfl, rfl⟩ := hrel
    go_wp2_with fail
    refine K.out.mono ?_
    rintro en w1 ⟨rfl, tc⟩
    have TC := hid tc
    clear tc
    go_wp2
    exact bodyPost_ret (results_none (fn := Tryd.f45) rfl _ Tryd.prog _) rfl ⟨rfl, TC.out⟩

set_option maxRecDepth 100000 in
set_option maxHeartbeats 4000000 in
theorem sort_up (a : Option Addr) (cap : Nat) (e : List Int) (w : World) (hi : Ig w a e) (hup : ∀ i (h : i + 1 < e.length), e[i] < e[i + 1]) (h1 : 1 ≤ e.length) (hb : e.length ≤ 12) :
    Calls Tryd.prog 26 #[.slice a e.length cap] w fun en w' => en = .returned (.tuple #[]) ∧ Touch (fun _ => False) w w' := by
  have hlen := fun wq => Any.bits_Len Tryd.bitsLen2 (e.length : Int) wq (by omega) (by omega)
  change ∀ wq, Calls Tryd.prog 46 _ _ _ at hlen
  have HLN := hid hlen
  have K := hid (fun n => pdq_up a cap e n w hi hup h1 hb)
  clear hi hup hlen
  go_enter Tryd.func26, Tryd.ntmps26
  go_wp2_with fail
  refine (HLN.out _).mono ?_
  rintro en w1 ⟨rfl, rfl⟩
  go_wp2_with fail
  refine (K.out _).mono ?_
  rintro en w2 ⟨rfl, tc⟩
  have TC := hid tc
  clear tc
  go_wp2
  go_end0
  exact ⟨rfl, TC.out⟩
end Go.Proofs.YtnngemdpoemhgaaDoor

/- capitalOf of any number, Orbit of one whose orbit comes up rising, and what the laws ask first; no condition beside those told. -/
namespace Go.Proofs.YtnngemdpoemhgaaDoor
open Go.RowKit

def pairsL : List (Int × Int × Int) := [(65, 90, 32), (192, 214, 32), (216, 222, 32), (913, 929, 32), (931, 937, 32), (1040, 1071, 32), (66560, 66599, 40)]
def thirdsL : List (Int × Int) := [(8490, 75), (383, 83), (8491, 197), (181, 924), (962, 931)]
theorem info47 : (Tryd.prog.info? 47).map (fun i => (i.zero, i.size, i.bytes)) = some (some (.agg #[.int .i64 0, .int .i64 0, .int .i64 0]), 3, 24) := by kernel_rfl
theorem info50 : (Tryd.prog.info? 50).map (fun i => (i.zero, i.size, i.bytes)) = some (some (.agg #[.int .i64 0, .int .i64 0]), 2, 16) := by kernel_rfl
theorem info3 : (Tryd.prog.info? 3).map (fun i => (i.zero, i.size, i.bytes)) = some (some (.int .i64 0), 1, 8) := by kernel_rfl

theorem run_index48 (k : Nat) (x y z : Int) (w : World) (hk : k < 7) (hx : pairsL[k]? = some (x, y, z)) : (Instr.index 48 (.agg pairsC) (.int .i64 (k : Int))).run Tryd.prog w = .ok (.agg #[.int .i64 x, .int .i64 y, .int .i64 z]) w := by
  obtain ⟨i0, h1, hz0, hz1, hz2⟩ := info_parts info47
  rcases (show k = 0 ∨ k = 1 ∨ k = 2 ∨ k = 3 ∨ k = 4 ∨ k = 5 ∨ k = 6 by omega) with rfl | rfl | rfl | rfl | rfl | rfl | rfl <;>
    (simp [pairsL] at hx
     obtain ⟨rfl, rfl, rfl⟩ := hx
     simp [Instr.index, run_underlying Tryd.underlying48, asIntOf, go_sem, part, sizeOf, typeInfo, h1, hz1, pairsC])
theorem run_index51 (k : Nat) (x y : Int) (w : World) (hk : k < 5) (hx : thirdsL[k]? = some (x, y)) : (Instr.index 51 (.agg thirdsC) (.int .i64 (k : Int))).run Tryd.prog w = .ok (.agg #[.int .i64 x, .int .i64 y]) w := by
  obtain ⟨i0, h1, hz0, hz1, hz2⟩ := info_parts info50
  rcases (show k = 0 ∨ k = 1 ∨ k = 2 ∨ k = 3 ∨ k = 4 by omega) with rfl | rfl | rfl | rfl | rfl <;>
    (simp [thirdsL] at hx
     obtain ⟨rfl, rfl⟩ := hx
     simp [Instr.index, run_underlying Tryd.underlying51, asIntOf, go_sem, part, sizeOf, typeInfo, h1, hz1, thirdsC])

/-- The small letter's great one. -/
def isThird (r : Int) (t : Int × Int) : Bool := t.1 == r
def isSmall (r : Int) (p : Int × Int × Int) : Bool := decide (p.1 + p.2.2 ≤ r) && decide (r ≤ p.2.1 + p.2.2)
def capOf (r : Int) : Int :=
  match thirdsL.find? (isThird r) with
  | some t => t.2
  | none => match pairsL.find? (isSmall r) with
    | some p => r - p.2.2
    | none => r
theorem find_more {α : Type} (f : α → Bool) (l : List α) (k : Nat) (h : k < l.length) (h0 : (l.take k).find? f = none) : (l.take (k + 1)).find? f = if f l[k] = true then some l[k] else none := by
  rw [List.take_succ_eq_append_getElem h, List.find?_append, h0]
  simp [List.find?_cons]
  split <;> simp_all
theorem find_there {α : Type} (f : α → Bool) (l : List α) (k : Nat) (x : α) (h : (l.take k).find? f = some x) : l.find? f = some x := by
  rw [← List.take_append_drop k l, List.find?_append, h]
  rfl
theorem three_block (w : World) (x y z : Value) (t : TypeId) : (w.alloc (.cells #[x, y, z] t)).heap[w.heap.size]? = some (.cells #[x, y, z] t (0, 0)) := by
  show (w.heap.push _)[_]? = _
  simp
theorem pairs_small (k : Nat) (x y z : Int) (h : pairsL[k]? = some (x, y, z)) : 0 ≤ x ∧ x ≤ 100000 ∧ 0 ≤ y ∧ y ≤ 100000 ∧ 0 ≤ z ∧ z ≤ 40 := by
  have hk : k < 7 := by
    rcases Nat.lt_or_ge k 7 with q | q
    · exact q
    · rw [List.getElem?_eq_none (by simpa [pairsL] using q)] at h; cases h
  rcases (show k = 0 ∨ k = 1 ∨ k = 2 ∨ k = 3 ∨ k = 4 ∨ k = 5 ∨ k = 6 by omega) with rfl | rfl | rfl | rfl | rfl | rfl | rfl <;>
    (simp [pairsL] at h
     omega)

set_option maxRecDepth 100000 in
set_option maxHeartbeats 4000000 in
theorem capital_any (r : Int) (w : World) (ht : Tabs w) (hr : 0 ≤ r ∧ r ≤ 1114111) :
    Calls Tryd.prog 25 #[.int .i64 r] w fun e w' => e = .returned (.int .i64 (capOf r)) ∧ Touch (fun _ => False) w w' := by
  have HT := hid ht
  obtain ⟨⟨t0, h0⟩, ⟨t1, h1⟩⟩ := ht
  go_enter Tryd.func25, Tryd.ntmps25
  go_wp2_with (first | refine wpList_load_row rfl 51 _ rfl 1 rfl t1 thirdsC (0, 0) _ h1 Tryd.underlying51 rfl (by kernel_rfl) ?_ | fail)
  go_loopg [8] 5 (fun gk i wr => ∃ k : Nat, k + gk = 5 ∧ i = .int .i64 (k : Nat) ∧ (thirdsL.take k).find? (isThird r) = none ∧ Touch (fun _ => False) w wr)
  case atStart => exact ⟨0, rfl, rfl, rfl, Touch.refl _ _⟩
  case round =>
    obtain ⟨k, hk, rfl, hno, htc⟩ := hrel
    have TC := hid htc
    have HNO := hid hno
    clear hno htc
    by_cases hlt : k < 5
    · obtain ⟨⟨x, y⟩, hxy⟩ : ∃ p, thirdsL[k]? = some p := ⟨thirdsL[k]'(by simpa [thirdsL] using hlt), List.getElem?_eq_getElem _⟩
      have hix := run_index51 k x y wr hlt hxy
      have hgk : thirdsL[k]'(by simpa [thirdsL] using hlt) = (x, y) := by
        rw [List.getElem?_eq_getElem (by simpa [thirdsL] using hlt)] at hxy
        exact Option.some.inj hxy
      have HF := hid (find_more (isThird r) thirdsL k (by simpa [thirdsL] using hlt) HNO.out)
      rw [hgk] at HF
      have hkI : (k : Int) < 5 := by omega
      clear hxy hgk
      have TA := hid (TC.out.alloc (.cells #[.int .i64 x, .int .i64 y] 50))
      have B2 := hid (show (wr.alloc (.cells #[.int .i64 x, .int .i64 y] 50)).heap[wr.heap.size]? = some (.cells #[.int .i64 x, .int .i64 y] 50 (0, 0)) from three_new _ _ _)
      by_cases hx : x = r
      · subst hx
        have HC := hid (show capOf x = y by
          unfold capOf
          have h2 := HF.out
          rw [if_pos (by simp [isThird])] at h2
          rw [find_there _ _ _ _ h2])
        go_upto_region 4 with fail
        generalize (wr.alloc (.cells #[.int .i64 x, .int .i64 y] 50)) = wA at *
        have c0 := cell_two0 B2.out
        have c1 := cell_two1 B2.out
        go_wp2
        go_ret
        rw [HC.out]
        exact ⟨rfl, TA.out⟩
      · have HNX := hid (show (thirdsL.take (k + 1)).find? (isThird r) = none by
          have h2 := HF.out
          rw [if_neg (by simp [isThird, hx])] at h2
          exact h2)
        have hxd : (x == r) = false := by simp [hx]
        have hxd2 : decide (x = r) = false := decide_eq_false hx
        go_upto_region 4 with fail
        generalize (wr.alloc (.cells #[.int .i64 x, .int .i64 y] 50)) = wA at *
        have c0 := cell_two0 B2.out
        have c1 := cell_two1 B2.out
        clear hix
        go_wp2
        go_roundg (gk - 1)
        case measure => omega
        case rel => exact ⟨k + 1, by omega, by go_num, HNX.out, TA.out⟩
    · obtain rfl : k = 5 := by omega
      have HT5 := hid (show thirdsL.find? (isThird r) = none from HNO.out)
      clear h0 h1
      obtain ⟨⟨t0, h0⟩, ⟨t1, h1⟩⟩ := HT.out.new TC.out
      clear h1
      go_wp2_with (first | refine wpList_load_row rfl 48 _ rfl 0 rfl t0 pairsC (0, 0) _ h0 Tryd.underlying48 rfl (by kernel_rfl) ?_ | fail)
      go_loopg [19] 7 (fun gk i wr => ∃ k : Nat, k + gk = 7 ∧ i = .int .i64 (k : Nat) ∧ (pairsL.take k).find? (isSmall r) = none ∧ Touch (fun _ => False) w wr)
      case atStart => exact ⟨0, rfl, rfl, rfl, TC.out⟩
      case round =>
        obtain ⟨k, hk, rfl, hno, htc⟩ := hrel
        have TC := hid htc
        have HNO := hid hno
        clear hno htc
        by_cases hlt : k < 7
        · obtain ⟨⟨x, y, z⟩, hxy⟩ : ∃ p, pairsL[k]? = some p := ⟨pairsL[k]'(by simpa [pairsL] using hlt), List.getElem?_eq_getElem _⟩
          have hix := run_index48 k x y z wr hlt hxy
          have hsm := pairs_small k x y z hxy
          have hgk : pairsL[k]'(by simpa [pairsL] using hlt) = (x, y, z) := by
            rw [List.getElem?_eq_getElem (by simpa [pairsL] using hlt)] at hxy
            exact Option.some.inj hxy
          have HF := hid (find_more (isSmall r) pairsL k (by simpa [pairsL] using hlt) HNO.out)
          rw [hgk] at HF
          have hkI : (k : Int) < 7 := by omega
          clear hxy hgk h0
          have TA := hid (TC.out.alloc (.cells #[.int .i64 x, .int .i64 y, .int .i64 z] 47))
          have B2 := hid (three_block wr (.int .i64 x) (.int .i64 y) (.int .i64 z) 47)
          have HS := hid (show isSmall r (x, y, z) = (decide (x + z ≤ r) && decide (r ≤ y + z)) from rfl)
          by_cases hx : x + z ≤ r
          · by_cases hy : r ≤ y + z
            · have HC := hid (show capOf r = r - z by
                unfold capOf
                rw [HT5.out]
                have h2 := HF.out
                rw [if_pos (by rw [HS.out]; simp [hx, hy])] at h2
                rw [find_there _ _ _ _ h2])
              go_upto_region 10 with fail
              generalize (wr.alloc (.cells #[.int .i64 x, .int .i64 y, .int .i64 z] 47)) = wA at *
              have c0 : wA.cell? ⟨wr.heap.size, 0, none⟩ = some (.int .i64 x) := by simp [World.cell?, B2.out]
              have c1 : wA.cell? ⟨wr.heap.size, 1, none⟩ = some (.int .i64 y) := by simp [World.cell?, B2.out]
              have c2 : wA.cell? ⟨wr.heap.size, 2, none⟩ = some (.int .i64 z) := by simp [World.cell?, B2.out]
              clear hix
              go_wp2
              go_ret
              rw [HC.out]
              exact ⟨by first | rfl | (congr 2; go_num), TA.out⟩
            · have HNX := hid (show (pairsL.take (k + 1)).find? (isSmall r) = none by
                have h2 := HF.out
                rw [if_neg (by rw [HS.out]; simp [hy])] at h2
                exact h2)
              go_upto_region 10 with fail
              generalize (wr.alloc (.cells #[.int .i64 x, .int .i64 y, .int .i64 z] 47)) = wA at *
              have c0 : wA.cell? ⟨wr.heap.size, 0, none⟩ = some (.int .i64 x) := by simp [World.cell?, B2.out]
              have c1 : wA.cell? ⟨wr.heap.size, 1, none⟩ = some (.int .i64 y) := by simp [World.cell?, B2.out]
              have c2 : wA.cell? ⟨wr.heap.size, 2, none⟩ = some (.int .i64 z) := by simp [World.cell?, B2.out]
              clear hix
              go_wp2
              go_roundg (gk - 1)
              case measure => omega
              case rel => exact ⟨k + 1, by omega, by go_num, HNX.out, TA.out⟩
          · have HNX := hid (show (pairsL.take (k + 1)).find? (isSmall r) = none by
              have h2 := HF.out
              rw [if_neg (by rw [HS.out]; simp [hx])] at h2
              exact h2)
            go_upto_region 10 with fail
            generalize (wr.alloc (.cells #[.int .i64 x, .int .i64 y, .int .i64 z] 47)) = wA at *
            have c0 : wA.cell? ⟨wr.heap.size, 0, none⟩ = some (.int .i64 x) := by simp [World.cell?, B2.out]
            have c1 : wA.cell? ⟨wr.heap.size, 1, none⟩ = some (.int .i64 y) := by simp [World.cell?, B2.out]
            have c2 : wA.cell? ⟨wr.heap.size, 2, none⟩ = some (.int .i64 z) := by simp [World.cell?, B2.out]
            clear hix
            go_wp2
            go_roundg (gk - 1)
            case measure => omega
            case rel => exact ⟨k + 1, by omega, by go_num, HNX.out, TA.out⟩
        · obtain rfl : k = 7 := by omega
          have HC := hid (show capOf r = r by
            unfold capOf
            rw [HT5.out, show pairsL.find? (isSmall r) = none from HNO.out])
          go_wp2
          go_ret
          rw [HC.out]
          exact ⟨rfl, TC.out⟩
end Go.Proofs.YtnngemdpoemhgaaDoor
