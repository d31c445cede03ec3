/- The hexadecimal digits of a number, as the Syntax laws write them; condition: the number has at most six. -/
import Derived.Test.YtdhhcefmmojcmaaGreatDoorZn
import Derived.Test.YtdhhcefmmojcmaaGreatDoorZm
import Derived.Deep.RegionHeld3
import Derived.Laws.DeepStrings4
namespace Go.Proofs.YtdhhcefmmojcmaaGreatDoor
open Go.RowKit
open Go.Lib

def hexT : ByteArray := ⟨#[48, 49, 50, 51, 52, 53, 54, 55, 56, 57, 97, 98, 99, 100, 101, 102]⟩
theorem hex_one : ∀ d < 16, (hexT.extract d (d + 1)).data.toList = (bytesI [hexD d]).data.toList := by decide +kernel
theorem hex_cut (d : Nat) (h : d < 16) : hexT.extract d (d + 1) = bytesI [hexD d] := by
  have := hex_one d h
  apply ByteArray.ext
  exact Array.toList_inj.1 this
set_option maxRecDepth 100000 in
set_option maxHeartbeats 4000000 in
theorem sixteen_any : ∀ (k n : Nat), k ≤ 6 → 1 ≤ k → n < 16 ^ k → ∀ w : World, Calls Tryz.prog 19 #[.int .i64 (n : Nat)] w fun e w' => e = .returned (.string (bytesI (hexL k n))) ∧ Touch (fun _ => False) w w'
  | 0, _, _, h, _ => by omega
  | k + 1, n, hk4, _, hn => by
    intro w
    have hn4 : n < 16777216 := Nat.lt_of_lt_of_le hn (Nat.pow_le_pow_right (by decide) hk4)
    rw [hexL]
    by_cases h : n < 16
    · rw [if_pos h]
      have hI : (n : Int) < 16 := by omega
      obtain ⟨D, hD⟩ : ∃ D, D = hexT := ⟨_, rfl⟩
      rw [← hex_cut n h, ← hD]
      have hsz : (n : Int) + 1 ≤ (D.size : Int) := by rw [hD]; show (n : Int) + 1 ≤ 16; omega
      have HD := hid hD
      clear hn hD
      go_enter Tryz.func19, Tryz.ntmps19
      go_upto_region 2 with fail
      rw [show (⟨#[48, 49, 50, 51, 52, 53, 54, 55, 56, 57, 97, 98, 99, 100, 101, 102]⟩ : ByteArray) = hexT from rfl, ← HD.out]
      go_wp2
      go_ret
      exact ⟨rfl, Touch.refl _ w⟩
    · rw [if_neg h]
      have hI : ¬ (n : Int) < 16 := by omega
      have hk : 1 ≤ k := by
        rcases Nat.eq_zero_or_pos k with e | e
        · rw [e] at hn; omega
        · exact e
      have KR := hid (sixteen_any k (n / 16) (by omega) hk (by rw [Nat.pow_succ] at hn; omega))
      have hDl : (bytesI (hexL k (n / 16))).size ≤ 6 := by
        have := (hexL_ok k (n / 16) hk (by rw [Nat.pow_succ] at hn; omega)).1
        have e : (bytesI (hexL k (n / 16))).size = (hexL k (n / 16)).length := by simp [bytesI, ByteArray.size]
        omega
      have hdI : (n : Int) / 16 = ((n / 16 : Nat) : Int) := by omega
      have hd4 : n / 16 ≤ 1048576 := by omega
      obtain ⟨m, hm⟩ : ∃ m, m = n % 16 := ⟨_, rfl⟩
      have hmt : (n : Int).tmod 16 = (m : Int) := by rw [Int.tmod_eq_emod_of_nonneg (Int.natCast_nonneg n), hm]; omega
      rw [bytesI_app, ← hm]
      have hm16 : m < 16 := by omega
      obtain ⟨D, hD⟩ : ∃ D, D = hexT := ⟨_, rfl⟩
      rw [← hex_cut m hm16, ← hD]
      have HD := hid hD
      have hmI : (m : Int) < 16 := by omega
      clear hm hn
      generalize bytesI (hexL k (n / 16)) = A at *
      generalize n / 16 = d at *
      have hwd : IntKind.i64.wrap (d : Int) = (d : Int) := by rw [IntKind.wrap_i64]; omega
      have hwm : IntKind.i64.wrap (m : Int) = (m : Int) := by rw [IntKind.wrap_i64]; omega
      have hw1 : IntKind.i64.wrap ((m : Int) + 1) = (m : Int) + 1 := by rw [IntKind.wrap_i64]; omega
      have hsz : (m : Int) + 1 ≤ (D.size : Int) := by rw [hD]; show (m : Int) + 1 ≤ 16; omega
      have hsz2 : (D.size : Int) ≤ 16 := by rw [hD]; show (16 : Int) ≤ 16; omega
      have hex1 : (D.extract m (m + 1)).size ≤ 1 := by rw [ByteArray.size_extract]; omega
      clear hD
      go_enter Tryz.func19, Tryz.ntmps19
      go_upto_region 2 with fail
      rw [show (⟨#[48, 49, 50, 51, 52, 53, 54, 55, 56, 57, 97, 98, 99, 100, 101, 102]⟩ : ByteArray) = hexT from rfl, ← HD.out]
      go_wp2_with fail
      first | (go_region_held (fun _ => True) (trivial)
        (first
          | (go_at_call 19
             (try rw [hwd])
             refine (KR.out _).mono ?_
             rintro e w3 ⟨rfl, t3⟩
             have T3 := hid t3
             clear t3))) | fail
      all_goals
        go_wp2
        go_ret
        exact ⟨rfl, by
          first
            | exact (Touch.refl (fun _ => False) w).drew.trans T3.out (fun _ _ e => e)
            | exact T3.out⟩
theorem sixteen_says (n : Nat) (h : n ≤ 1114111) (w : World) : Calls Tryz.prog 19 #[.int .i64 (n : Nat)] w fun e w' => e = .returned (.string (bytesI (hexL 6 n))) ∧ Touch (fun _ => False) w w' :=
  sixteen_any 6 n (by decide) (by decide) (by omega) w
set_option maxRecDepth 100000 in
set_option maxHeartbeats 4000000 in
theorem hex20_any : ∀ (k n : Nat), k ≤ 6 → 1 ≤ k → n < 16 ^ k → ∀ w : World, Calls Tryz.prog 20 #[.int .i64 (n : Nat)] w fun e w' => e = .returned (.string (bytesI (hexL k n))) ∧ Touch (fun _ => False) w w'
  | 0, _, _, h, _ => by omega
  | k + 1, n, hk4, _, hn => by
    intro w
    have hn4 : n < 16777216 := Nat.lt_of_lt_of_le hn (Nat.pow_le_pow_right (by decide) hk4)
    rw [hexL]
    by_cases h : n < 16
    · rw [if_pos h]
      have hI : (n : Int) < 16 := by omega
      obtain ⟨D, hD⟩ : ∃ D, D = hexT := ⟨_, rfl⟩
      rw [← hex_cut n h, ← hD]
      have hsz : (n : Int) + 1 ≤ (D.size : Int) := by rw [hD]; show (n : Int) + 1 ≤ 16; omega
      have HD := hid hD
      clear hn hD
      go_enter Tryz.func20, Tryz.ntmps20
      go_upto_region 2 with fail
      rw [show (⟨#[48, 49, 50, 51, 52, 53, 54, 55, 56, 57, 97, 98, 99, 100, 101, 102]⟩ : ByteArray) = hexT from rfl, ← HD.out]
      go_wp2
      go_ret
      exact ⟨rfl, Touch.refl _ w⟩
    · rw [if_neg h]
      have hI : ¬ (n : Int) < 16 := by omega
      have hk : 1 ≤ k := by
        rcases Nat.eq_zero_or_pos k with e | e
        · rw [e] at hn; omega
        · exact e
      have KR := hid (hex20_any k (n / 16) (by omega) hk (by rw [Nat.pow_succ] at hn; omega))
      have hDl : (bytesI (hexL k (n / 16))).size ≤ 6 := by
        have := (hexL_ok k (n / 16) hk (by rw [Nat.pow_succ] at hn; omega)).1
        have e : (bytesI (hexL k (n / 16))).size = (hexL k (n / 16)).length := by simp [bytesI, ByteArray.size]
        omega
      have hdI : (n : Int) / 16 = ((n / 16 : Nat) : Int) := by omega
      have hd4 : n / 16 ≤ 1048576 := by omega
      obtain ⟨m, hm⟩ : ∃ m, m = n % 16 := ⟨_, rfl⟩
      have hmt : (n : Int).tmod 16 = (m : Int) := by rw [Int.tmod_eq_emod_of_nonneg (Int.natCast_nonneg n), hm]; omega
      rw [bytesI_app, ← hm]
      have hm16 : m < 16 := by omega
      obtain ⟨D, hD⟩ : ∃ D, D = hexT := ⟨_, rfl⟩
      rw [← hex_cut m hm16, ← hD]
      have HD := hid hD
      have hmI : (m : Int) < 16 := by omega
      clear hm hn
      generalize bytesI (hexL k (n / 16)) = A at *
      generalize n / 16 = d at *
      have hwd : IntKind.i64.wrap (d : Int) = (d : Int) := by rw [IntKind.wrap_i64]; omega
      have hwm : IntKind.i64.wrap (m : Int) = (m : Int) := by rw [IntKind.wrap_i64]; omega
      have hw1 : IntKind.i64.wrap ((m : Int) + 1) = (m : Int) + 1 := by rw [IntKind.wrap_i64]; omega
      have hsz : (m : Int) + 1 ≤ (D.size : Int) := by rw [hD]; show (m : Int) + 1 ≤ 16; omega
      have hsz2 : (D.size : Int) ≤ 16 := by rw [hD]; show (16 : Int) ≤ 16; omega
      have hex1 : (D.extract m (m + 1)).size ≤ 1 := by rw [ByteArray.size_extract]; omega
      clear hD
      go_enter Tryz.func20, Tryz.ntmps20
      go_upto_region 2 with fail
      rw [show (⟨#[48, 49, 50, 51, 52, 53, 54, 55, 56, 57, 97, 98, 99, 100, 101, 102]⟩ : ByteArray) = hexT from rfl, ← HD.out]
      go_wp2_with fail
      first | (go_region_held (fun _ => True) (trivial)
        (first
          | (go_at_call 20
             (try rw [hwd])
             refine (KR.out _).mono ?_
             rintro e w3 ⟨rfl, t3⟩
             have T3 := hid t3
             clear t3))) | fail
      all_goals
        go_wp2
        go_ret
        exact ⟨rfl, by
          first
            | exact (Touch.refl (fun _ => False) w).drew.trans T3.out (fun _ _ e => e)
            | exact T3.out⟩
theorem hex20_says (n : Nat) (h : n ≤ 1114111) (w : World) : Calls Tryz.prog 20 #[.int .i64 (n : Nat)] w fun e w' => e = .returned (.string (bytesI (hexL 6 n))) ∧ Touch (fun _ => False) w w' :=
  hex20_any 6 n (by decide) (by decide) (by omega) w
end Go.Proofs.YtdhhcefmmojcmaaGreatDoor
