/- The decimal digits of a number, as the Syntax laws write them; condition: the number is below 128. -/
import Derived.Test.YtdhhcefmmojcmaaGreatDoorZk
import Derived.Test.YtdhhcefmmojcmaaGreatDoorM42
import Derived.Test.YtdhhcefmmojcmaaGreatDoorKRk
import Derived.Deep.RegionHeld3
namespace Go.Proofs.YtdhhcefmmojcmaaGreatDoor
open Go.RowKit
open Go.Lib

def dBn (n : Nat) : UInt8 := UInt8.ofNat (48 + n)
def decF : Nat → Nat → List UInt8
  | 0, _ => []
  | f + 1, n => if n < 10 then [dBn n] else decF f (n / 10) ++ [dBn (n % 10)]
theorem digit_nat (n : Nat) (h : n < 10) : (dBn n).toNat = 48 + n := by
  unfold dBn
  rw [UInt8.toNat_ofNat']
  omega
theorem decF_len : ∀ k n, (decF k n).length ≤ k
  | 0, _ => by simp [decF]
  | k + 1, n => by
    rw [decF]
    split
    · simp
    · have := decF_len k (n / 10)
      simp
      omega
theorem dec_txt : ∀ n < 128, decF 3 n = (bytesI (decL n)).data.toList := by decide +kernel
theorem conv1n (w : World) (q x : Nat) (hx : x < 10) (h : w.cell? ⟨q, 0, none⟩ = some (.int .u8 (48 + (x : Int)))) : (convert 49 9 (.slice (some ⟨q, 0, none⟩) 1 1)).run Tryz.prog w = .ok (.string ⟨#[dBn x]⟩) w := by
  refine run_convert_bytes_back w 49 9 5 ⟨q, 0, none⟩ 1 [dBn x] Tryz.underlying49 Tryz.underlying5 Tryz.underlying9 (fun j hj => ?_)
  have hj' : j < 1 := hj
  obtain rfl : j = 0 := by omega
  show w.cell? ⟨q, 0, none⟩ = some (.int .u8 ((dBn x).toNat : Int))
  rw [h, digit_nat x hx]
  congr 1
theorem cell_one5 (w : World) (u : Value) : (w.alloc (.cells #[u] 5)).cell? ⟨w.heap.size, 0, none⟩ = some u := cell_of (block_new w #[u] 5) 0 u rfl
set_option maxRecDepth 100000 in
set_option maxHeartbeats 4000000 in
theorem number_any : ∀ (k n : Nat), k ≤ 4 → 1 ≤ k → n < 10 ^ k → ∀ w : World, Calls Tryz.prog 15 #[.int .i64 (n : Nat)] w fun e w' => e = .returned (.string ⟨(decF k n).toArray⟩) ∧ Touch (fun _ => False) w w'
  | 0, _, _, h, _ => by omega
  | k + 1, n, hk4, _, hn => by
    intro w
    have hn4 : n < 10000 := Nat.lt_of_lt_of_le hn (Nat.pow_le_pow_right (by decide) hk4)
    rw [decF]
    by_cases h : n < 10
    · rw [if_pos h]
      have hI : (n : Int) < 10 := by omega
      have hcv := conv1n (w.alloc (.cells #[.int .u8 (48 + (n : Int))] 5)) w.heap.size n h (cell_one5 _ _)
      have TA := hid ((Touch.refl (fun _ => False) w).alloc (.cells #[.int .u8 (48 + (n : Int))] 5))
      clear hn
      go_enter Tryz.func15, Tryz.ntmps15
      go_wp2
      go_ret
      exact ⟨rfl, TA.out⟩
    · rw [if_neg h]
      have hI : ¬ (n : Int) < 10 := by omega
      have hk : 1 ≤ k := by
        rcases Nat.eq_zero_or_pos k with e | e
        · rw [e] at hn; omega
        · exact e
      have KR := hid (number_any k (n / 10) (by omega) hk (by rw [Nat.pow_succ] at hn; omega))
      have hdI : (n : Int) / 10 = ((n / 10 : Nat) : Int) := by omega
      have hd4 : n / 10 ≤ 1000 := by omega
      have hmI : (n : Int) % 10 = ((n % 10 : Nat) : Int) := by omega
      obtain ⟨m, hm⟩ : ∃ m, m = n % 10 := ⟨_, rfl⟩
      rw [← hm] at hmI ⊢
      have hm10 : m < 10 := by omega
      clear hm
      clear hn
      have hDl : (decF k (n / 10)).length ≤ 4 := by have := decF_len k (n / 10); omega
      generalize decF k (n / 10) = D at *
      have hadd : (⟨D.toArray⟩ : ByteArray) ++ ⟨#[dBn m]⟩ = ⟨(D ++ [dBn m]).toArray⟩ := by
        apply ByteArray.ext
        rw [ByteArray.data_append]
        simp
      generalize n / 10 = d at *
      have hmt : (n : Int).tmod 10 = (m : Int) := by rw [Int.tmod_eq_emod_of_nonneg (Int.natCast_nonneg n)]; exact hmI
      have hwd : IntKind.i64.wrap (d : Int) = (d : Int) := by rw [IntKind.wrap_i64]; omega
      have hwm : IntKind.i64.wrap (m : Int) = (m : Int) := by rw [IntKind.wrap_i64]; omega
      have hw48 : IntKind.i64.wrap (48 + (m : Int)) = 48 + (m : Int) := by rw [IntKind.wrap_i64]; omega
      have hwu : IntKind.u8.wrap (48 + (m : Int)) = 48 + (m : Int) := by rw [IntKind.wrap_u8]; omega
      have hco := fun (w : World) => cell_one5 w (.int .u8 (48 + (m : Int)))
      have hcv := (fun (w : World) (q : Nat) (h : w.cell? ⟨q, 0, none⟩ = some (.int .u8 (48 + (m : Int)))) => conv1n w q m hm10 h)
      go_enter Tryz.func15, Tryz.ntmps15
      go_wp2_with fail
      first | (go_region_held (fun _ => True) (trivial)
        (first
          | (go_at_call 15
             (try rw [hwd])
             refine (KR.out _).mono ?_
             rintro e w3 ⟨rfl, t3⟩
             have T3 := hid t3
             (try (have cc : w3.cell? ⟨w.heap.size, 0, none⟩ = some (.int .u8 (48 + (m : Int))) := (t3.cell (p := ⟨w.heap.size, 0, none⟩) (by show _ < (w.heap.push _).size; simp) id).trans (cell_one5 w _)))
             clear t3))) | fail
      all_goals
        go_wp2
        go_ret
        exact ⟨rfl, by
          first
            | exact ((Touch.refl (fun _ => False) w).drew.trans T3.out (fun _ _ e => e)).alloc _
            | exact (Touch.refl (fun _ => False) w).drew.trans T3.out (fun _ _ e => e)
            | exact ((Touch.refl (fun _ => False) w).drew.alloc _).trans T3.out (fun _ _ e => e)
            | exact ((Touch.refl (fun _ => False) w).alloc _).drew.trans T3.out (fun _ _ e => e)
            | exact ((Touch.refl (fun _ => False) w).alloc _).trans T3.out (fun _ _ e => e)⟩
theorem number_says (n : Nat) (h : n < 128) (w : World) : Calls Tryz.prog 15 #[.int .i64 (n : Nat)] w fun e w' => e = .returned (.string (bytesI (decL n))) ∧ Touch (fun _ => False) w w' := by
  have := number_any 3 n (by decide) (by decide) (by omega) w
  rw [dec_txt n h] at this
  exact this
end Go.Proofs.YtdhhcefmmojcmaaGreatDoor
