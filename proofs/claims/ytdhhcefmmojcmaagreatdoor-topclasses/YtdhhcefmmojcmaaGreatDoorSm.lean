/- Same and the law's same: are two lists of ranges one; no condition beside those told. -/
import Derived.Test.YtdhhcefmmojcmaaGreatDoorSi
namespace Go.Proofs.YtdhhcefmmojcmaaGreatDoor
open Go.RowKit

theorem list_part (l m : List R2) (k : Nat) (h1 : k < l.length) (h2 : k < m.length) (h : l[k] ≠ m[k]) : decide (l = m) = false := decide_eq_false (fun e => by subst e; exact h rfl)
theorem list_len (l m : List R2) (h : l.length ≠ m.length) : decide (l = m) = false := decide_eq_false (fun e => by subst e; exact h rfl)
theorem list_all (l m : List R2) (h : l.length = m.length) (hh : ∀ t (h1 : t < l.length) (h2 : t < m.length), l[t] = m[t]) : decide (l = m) = true := decide_eq_true (List.ext_getElem h hh)

set_option maxRecDepth 100000 in
set_option maxHeartbeats 4000000 in
theorem equal_any (a a' : Option Addr) (c c' : Nat) (l m : List R2) (w : World) (h : Rg w a l) (h' : Rg w a' m) (hb' : m.length ≤ 140737488351232) :
    Calls Tryz.prog 41 #[.slice a l.length c, .slice a' m.length c'] w fun e w' => e = .returned (.bool (decide (l = m))) ∧ Touch (fun _ => False) w w' := by
  have HL := hid h
  have HL' := hid h'
  clear h h'
  go_enter Tryz.func41, Tryz.ntmps41
  by_cases hlen : l.length = m.length
  · obtain ⟨N, hN⟩ : ∃ N, N = m.length := ⟨_, rfl⟩
    have HN := hid hN
    have HLEN := hid hlen
    rw [hlen, ← hN]
    rw [← hN] at hb'
    clear hN hlen
    go_wp2_with fail
    go_loopg [13] N (fun gk i wr => ∃ k : Nat, k + gk = N ∧ i = .int .i64 (k : Nat) ∧ (∀ t (_ : t < k) (h1 : t < l.length) (h2 : t < m.length), l[t] = m[t]) ∧ Touch (fun _ => False) w wr)
    case atStart => exact ⟨0, by omega, rfl, fun t ht => absurd ht (Nat.not_lt_zero _), Touch.refl _ _⟩
    case round =>
      obtain ⟨k, hk, rfl, hall, htc⟩ := hrel
      have TC := hid htc
      have HALL := hid hall
      have R1 := hid (HL.out.new htc)
      have R2 := hid (HL'.out.new htc)
      clear htc hall
      by_cases hlt : k < N
      · have hk1 : k < l.length := by have := HN.out; have := HLEN.out; omega
        have hk2 : k < m.length := by have := HN.out; omega
        obtain ⟨b, o, ha, hbl, hcell⟩ : ∃ b o, a = some ⟨b, o, none⟩ ∧ b < wr.heap.size ∧ ∀ i (h : i < l.length), wr.cell? ⟨b, o + i * 2, none⟩ = some (.int .i64 (l[i]).1) ∧ wr.cell? ⟨b, o + i * 2 + 1, none⟩ = some (.int .i64 (l[i]).2) := by
          rcases R1.out with h | h
          · rw [h] at hk1; simp at hk1
          · exact h
        obtain ⟨b', o', ha', hbl', hcell'⟩ : ∃ b o, a' = some ⟨b, o, none⟩ ∧ b < wr.heap.size ∧ ∀ i (h : i < m.length), wr.cell? ⟨b, o + i * 2, none⟩ = some (.int .i64 (m[i]).1) ∧ wr.cell? ⟨b, o + i * 2 + 1, none⟩ = some (.int .i64 (m[i]).2) := by
          rcases R2.out with h | h
          · rw [h] at hk2; simp at hk2
          · exact h
        subst ha
        subst ha'
        obtain ⟨d0, d1⟩ := hcell k hk1
        obtain ⟨e0, e1⟩ := hcell' k hk2
        have HP := hid (list_part l m k hk1 hk2)
        have HNX := hid (show l[k] = m[k] → ∀ t (_ : t < k + 1) (h1 : t < l.length) (h2 : t < m.length), l[t] = m[t] from fun e t ht h1 h2 => by
          rcases Nat.lt_or_ge t k with q | q
          · exact HALL.out t q h1 h2
          · obtain rfl : t = k := by omega
            exact e)
        obtain ⟨r, hr⟩ : ∃ r, r = l[k] := ⟨_, rfl⟩
        obtain ⟨r', hr'⟩ : ∃ r, r = m[k] := ⟨_, rfl⟩
        rw [← hr, ← hr'] at HP HNX
        rw [← hr] at d0 d1
        rw [← hr'] at e0 e1
        obtain ⟨x, y⟩ := r
        obtain ⟨x', y'⟩ := r'
        dsimp only at d0 d1 e0 e1
        have hkI : (k : Int) < (N : Int) := by omega
        clear hcell hcell' hr hr' R1 R2 hk1 hk2
        by_cases hx : x = x'
        · by_cases hy : y = y'
          · subst hx
            subst hy
            go_wp2_with fail
            go_quiet (fail)
            go_wp2
            go_roundg (gk - 1)
            case measure => omega
            case rel => exact ⟨k + 1, by omega, by go_num, HNX.out (by first | exact rfl | trivial), TC.out.drewN _⟩
          · subst hx
            have HD := hid (HP.out (fun e => hy (by injection e)))
            have hyd : (y == y') = false := by simp [hy]
            go_wp2_with fail
            go_quiet (fail)
            go_wp2
            go_ret
            rw [HD.out]
            exact ⟨rfl, TC.out.drewN _⟩
        · have HD := hid (HP.out (fun e => hx (by injection e)))
          have hxd : (x == x') = false := by simp [hx]
          go_wp2_with fail
          go_quiet (fail)
          go_wp2
          go_ret
          rw [HD.out]
          exact ⟨rfl, TC.out.drewN _⟩
      · obtain rfl : k = N := by omega
        have HD := hid (list_all l m HLEN.out (fun t h1 h2 => HALL.out t (by have := HN.out; omega) h1 h2))
        go_wp2
        go_ret
        rw [HD.out]
        exact ⟨rfl, TC.out⟩
  · have HD := hid (list_len l m hlen)
    have hd : ((l.length : Int) == (m.length : Int)) = false := by simp; omega
    have hI : ¬ (l.length : Int) = (m.length : Int) := by omega
    clear hlen
    go_wp2
    go_ret
    rw [HD.out]
    exact ⟨rfl, Touch.refl _ _⟩

set_option maxRecDepth 100000 in
theorem same_any (a a' : Option Addr) (c c' : Nat) (l m : List R2) (w : World) (h : Rg w a l) (h' : Rg w a' m) (hb' : m.length ≤ 140737488351232) :
    Calls Tryz.prog 25 #[.slice a l.length c, .slice a' m.length c'] w fun e w' => e = .returned (.bool (decide (l = m))) ∧ Touch (fun _ => False) w w' := by
  have K := hid (equal_any a a' c c' l m w h h' hb')
  clear h h'
  go_enter Tryz.func25, Tryz.ntmps25
  go_wp2_with fail
  refine K.out.mono ?_
  rintro e w1 ⟨rfl, tc⟩
  have TC := hid tc
  clear tc K
  go_wp2
  go_ret
  exact ⟨rfl, TC.out⟩
set_option maxRecDepth 100000 in
theorem perl_none (c : Int) (w : World) (h1 : c ≠ 100) (h2 : c ≠ 115) (h3 : c ≠ 119) (h4 : c ≠ 68) (h5 : c ≠ 83) (h6 : c ≠ 87) : Calls Tryz.prog 23 #[.int .u8 c] w fun e w' => e = .returned (.tuple #[.slice none 0 0, .bool false]) ∧ w' = w := by
  have g1 : (c == 100) = false := by simp [h1]
  have g2 : (c == 115) = false := by simp [h2]
  have g3 : (c == 119) = false := by simp [h3]
  have g4 : (c == 68) = false := by simp [h4]
  have g5 : (c == 83) = false := by simp [h5]
  have g6 : (c == 87) = false := by simp [h6]
  clear h1 h2 h3 h4 h5 h6
  go_enter Tryz.func23, Tryz.ntmps23
  go_wp2
  go_ret2
  exact ⟨rfl, rfl⟩
end Go.Proofs.YtdhhcefmmojcmaaGreatDoor
