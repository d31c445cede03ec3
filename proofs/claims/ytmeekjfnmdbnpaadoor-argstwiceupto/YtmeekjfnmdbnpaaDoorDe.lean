/- The document's Decimal; no condition. -/
import Derived.Test.YtmeekjfnmdbnpaaDoorSk
import Derived.Deep.RegionWith
import Derived.Laws.IdiomStrings
namespace Go.Proofs.YtmeekjfnmdbnpaaDoor
open Go.RowKit
open Go.Lib

theorem add_list (a b : ByteArray) : (a ++ b).data.toList = a.data.toList ++ b.data.toList := by
  simp [ByteArray.data_append]
theorem conv_one (r : Nat) (hr : r < 10) (W : World) (q : Nat) (h : W.cell? ⟨q, 0, none⟩ = some (.int .u8 (48 + (r : Int)))) : (convert 58 9 (.slice (some ⟨q, 0, none⟩) 1 1)).run Tryd.prog W = .ok (.string ⟨#[UInt8.ofNat (48 + r)]⟩) W := by
  have e := dig_nat r hr
  refine run_convert_bytes_back (P := Tryd.prog) W 58 9 5 ⟨q, 0, none⟩ 1 [UInt8.ofNat (48 + r)] Tryd.underlying58 Tryd.underlying5 Tryd.underlying9 (fun j hj => ?_)
  have : j = 0 := by simpa using hj
  subst this
  rw [add_g, h]
  simp only [List.getElem_cons_zero]
  rw [e]
  congr 2
theorem new_one (w : World) (x : Value) (t : TypeId) : (w.alloc (.cells #[x] t)).cell? ⟨w.heap.size, 0, none⟩ = some x := by
  have := row_new w [x] t 0 x rfl
  rw [add_g] at this
  exact this
set_option maxRecDepth 100000 in
set_option maxHeartbeats 4000000 in
theorem dec_nat : ∀ (k n : Nat), n < 10 ^ k → n ≤ 9223372036854775807 → ∀ w, Calls Tryd.prog 22 #[.int .i64 (n : Int)] w fun e w' => e = .returned (sv (decDigits n)) ∧ Touch (fun _ => False) w w' := by
  intro k
  induction k with
  | zero =>
    intro n hn hb w
    obtain rfl : n = 0 := by simpa using hn
    have HD := hid (show sv (decDigits 0) = .string ⟨#[UInt8.ofNat (48 + 0)]⟩ by rw [dec_small (by decide)]; rfl)
    rw [HD.out]
    have hcv := conv_one 0 (by decide) (w.alloc (.cells #[.int .u8 48] 5)) w.heap.size (new_one w _ _)
    go_enter Tryd.func22, Tryd.ntmps22
    go_wp2
    go_ret
    exact ⟨rfl, (Touch.refl _ _).alloc _⟩
  | succ k ih =>
    intro n hn hb w
    have h0 : ¬ (n : Int) < 0 := by omega
    have hm : ¬ (n : Int) = -9223372036854775808 := by omega
    by_cases h10 : n < 10
    · have h10I : (n : Int) < 10 := by omega
      have HD := hid (show sv (decDigits n) = .string ⟨#[UInt8.ofNat (48 + n)]⟩ by rw [dec_small h10]; rfl)
      rw [HD.out]
      have hcv := conv_one n h10 (w.alloc (.cells #[.int .u8 (48 + (n : Int))] 5)) w.heap.size (new_one w _ _)
      have hu : IntKind.u8.wrap (48 + (n : Int)) = 48 + (n : Int) := by rw [IntKind.wrap_u8]; omega
      clear hn ih
      go_enter Tryd.func22, Tryd.ntmps22
      go_wp2
      go_ret
      exact ⟨rfl, (Touch.refl _ _).alloc _⟩
    · have h10I : ¬ (n : Int) < 10 := by omega
      have hp : 10 ^ (k + 1) = 10 ^ k * 10 := Nat.pow_succ ..
      have IH := hid (ih (n / 10) (by omega) (by omega))
      have HDB := hid (dec_big h10)
      obtain ⟨q, hq⟩ : ∃ q, q = n / 10 := ⟨_, rfl⟩
      obtain ⟨r, hr⟩ : ∃ r, r = n % 10 := ⟨_, rfl⟩
      rw [← hq, ← hr] at HDB
      rw [← hq] at IH
      have hr10 : r < 10 := by omega
      have hqI : (n : Int) / 10 = (q : Int) := by omega
      have hrI : (n : Int) % 10 = (r : Int) := by omega
      have hqT : (n : Int).tdiv 10 = (q : Int) := by rw [Int.tdiv_eq_ediv_of_nonneg (by omega)]; exact hqI
      have hrT : (n : Int).tmod 10 = (r : Int) := by rw [Int.tmod_eq_emod_of_nonneg (by omega)]; exact hrI
      have hqb : q ≤ 9223372036854775807 := by omega
      have hw1 : IntKind.i64.wrap (q : Int) = (q : Int) := by rw [IntKind.wrap_i64]; omega
      have hw2 : IntKind.i64.wrap (r : Int) = (r : Int) := by rw [IntKind.wrap_i64]; omega
      have hw3 : IntKind.i64.wrap (48 + (r : Int)) = 48 + (r : Int) := by rw [IntKind.wrap_i64]; omega
      have hw4 : IntKind.u8.wrap (48 + (r : Int)) = 48 + (r : Int) := by rw [IntKind.wrap_u8]; omega
      have hcv := conv_one r hr10
      obtain ⟨Q, hQ, hQs, hQd⟩ := name_ba (decDigits q)
      rw [hQ] at IH
      have HF := hid (show sv (decDigits n) = .string (Q ++ ⟨#[UInt8.ofNat (48 + r)]⟩) by
        rw [HDB.out, ← hQd]
        show Value.string _ = _
        congr 1)
      obtain ⟨D, hD⟩ : ∃ D, D = UInt8.ofNat (48 + r) := ⟨_, rfl⟩
      rw [← hD] at HF hcv
      have hQ19 := dec_short q hqb
      rw [← hQs] at hQ19
      rw [HF.out]
      clear hn ih hp hq hr HDB hQ hQd HF hQs hD
      go_enter Tryd.func22, Tryd.ntmps22
      go_wp2_with fail
      go_region_with (go_at_call 22; refine (IH.out _).mono ?_; rintro e w1 ⟨rfl, tc⟩; have TC := hid tc; (try (have jc : w1.cell? ⟨w.heap.size, 0, none⟩ = some (.int .u8 (48 + (r : Int))) := (tc.cell (p := ⟨w.heap.size, 0, none⟩) (by simp) id).trans (new_one _ _ _))); clear tc)
      all_goals
        go_wp2
        go_ret
        first
        | exact ⟨rfl, ((Touch.refl _ w).drew.trans TC.out (fun _ _ e => e)).alloc _⟩
        | exact ⟨rfl, ((Touch.refl _ w).drew.alloc _).trans TC.out (fun _ _ e => e)⟩
        | exact ⟨rfl, ((Touch.refl _ w).alloc _).drew.trans TC.out (fun _ _ e => e)⟩
theorem itoa_min : itoa (-9223372036854775808) = [45, 57, 50, 50, 51, 51, 55, 50, 48, 51, 54, 56, 53, 52, 55, 55, 53, 56, 48, 56] := by decide +kernel
theorem dec_pos (n : Nat) (h : n ≤ 9223372036854775807) (w : World) : Calls Tryd.prog 22 #[.int .i64 (n : Int)] w fun e w' => e = .returned (sv (decDigits n)) ∧ Touch (fun _ => False) w w' := by
  refine dec_nat 19 n ?_ h w
  have e : (10 : Nat) ^ 19 = 10000000000000000000 := by decide
  omega
set_option maxRecDepth 100000 in
set_option maxHeartbeats 4000000 in
theorem decimal_any (n : Int) (h0 : -9223372036854775808 ≤ n) (h1 : n ≤ 9223372036854775807) (w : World) : Calls Tryd.prog 22 #[.int .i64 n] w fun e w' => e = .returned (sv (itoa n)) ∧ Touch (fun _ => False) w w' := by
  by_cases hneg : n < 0
  · by_cases hm : n = -9223372036854775808
    · subst hm
      rw [itoa_min]
      go_enter Tryd.func22, Tryd.ntmps22
      go_wp2
      go_ret
      exact ⟨rfl, Touch.refl _ _⟩
    · obtain ⟨u, hu⟩ : ∃ u : Nat, -n = (u : Int) := ⟨n.natAbs, by omega⟩
      have hub : u ≤ 9223372036854775807 := by omega
      have K := hid (dec_pos u hub)
      have HI := hid (show itoa n = 45 :: decDigits u by
        obtain rfl : n = -(u : Int) := by omega
        exact itoa_neg u (by omega))
      obtain ⟨Q, hQ, hQs, hQd⟩ := name_ba (decDigits u)
      rw [hQ] at K
      have HF := hid (show sv (itoa n) = .string (⟨#[45]⟩ ++ Q) by
        rw [HI.out, ← hQd]
        show Value.string _ = _
        congr 1)
      have hQ19 := dec_short u hub
      rw [← hQs] at hQ19
      rw [HF.out]
      have hw : IntKind.i64.wrap (-n) = (u : Int) := by rw [hu, IntKind.wrap_i64]; omega
      clear hQ hQs hQd HI HF
      go_enter Tryd.func22, Tryd.ntmps22
      go_wp2_with (go_at_call 22; refine (K.out _).mono ?_; rintro e w1 ⟨rfl, tc⟩; have TC := hid tc; clear tc)
      go_ret
      exact ⟨rfl, TC.out⟩
  · obtain ⟨u, rfl⟩ : ∃ u : Nat, n = (u : Int) := ⟨n.toNat, by omega⟩
    rw [itoa_nonneg]
    exact dec_pos u (by omega) w
end Go.Proofs.YtmeekjfnmdbnpaaDoor
