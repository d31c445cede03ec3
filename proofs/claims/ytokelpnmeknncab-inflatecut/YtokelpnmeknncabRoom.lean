/- checkRoom: whether so many codes of each length take the room that there is; condition: at most 1024 of each. -/
import Derived.Test.YtokelpnmeknncabPut
namespace Go.Proofs.Ytokelpnmeknncab
open Go.RowKit

theorem hid {p : Prop} (h : p) : Hid p := h
theorem ret_int {k : IntKind} {a b : Int} (h : a = b) : Ending.returned (.int k a) = .returned (.int k b) := by rw [h]
theorem info3 : (Try.prog.info? 3).map (fun i => (i.zero, i.size, i.bytes)) = some (some (.int .i64 0), 1, 8) := by kernel_rfl

theorem run_index16 (cs : Array Value) (i : Nat) (x : Int) (w : World) (hi : i < 16) (hx : cs[i]? = some (.int .i64 x)) : (Instr.index 54 (.agg cs) (.int .i64 (i : Int))).run Try.prog w = .ok (.int .i64 x) w := by
  obtain ⟨i0, h1, hz0, hz1, hz2⟩ := info_parts info3
  simp [Instr.index, run_underlying Try.underlying54, asIntOf, go_sem, part, sizeOf, typeInfo, h1, hz1, hi]
  rw [hx]
  simp [Sem.run_pure]

/-- So many of each length, as an array. -/
def cArr (c : Nat → Nat) : Array Value := #[.int .i64 (c 0), .int .i64 (c 1), .int .i64 (c 2), .int .i64 (c 3), .int .i64 (c 4), .int .i64 (c 5), .int .i64 (c 6), .int .i64 (c 7), .int .i64 (c 8), .int .i64 (c 9), .int .i64 (c 10), .int .i64 (c 11), .int .i64 (c 12), .int .i64 (c 13), .int .i64 (c 14), .int .i64 (c 15)]

theorem cArr_get (c : Nat → Nat) (i : Nat) (h : i < 16) : (cArr c)[i]? = some (.int .i64 (c i)) := by
  unfold cArr
  rcases (show i = 0 ∨ i = 1 ∨ i = 2 ∨ i = 3 ∨ i = 4 ∨ i = 5 ∨ i = 6 ∨ i = 7 ∨ i = 8 ∨ i = 9 ∨ i = 10 ∨ i = 11 ∨ i = 12 ∨ i = 13 ∨ i = 14 ∨ i = 15 by omega) with rfl | rfl | rfl | rfl | rfl | rfl | rfl | rfl | rfl | rfl | rfl | rfl | rfl | rfl | rfl | rfl <;> rfl

/-- The room that the first lengths take; how many codes they are. -/
def roomTo (c : Nat → Nat) : Nat → Nat
  | 0 => 0
  | k + 1 => roomTo c k + c k * 2 ^ (15 - k)
def sumTo (c : Nat → Nat) : Nat → Nat
  | 0 => 0
  | k + 1 => sumTo c k + c k

theorem roomTo_le (c : Nat → Nat) (hc : ∀ i, c i ≤ 1024) : ∀ k, roomTo c k ≤ k * 33554432
  | 0 => by simp [roomTo]
  | k + 1 => by
    have h1 := roomTo_le c hc k
    have h2 : 2 ^ (15 - k) ≤ 2 ^ 15 := Nat.pow_le_pow_right (by decide) (by omega)
    have h3 : c k * 2 ^ (15 - k) ≤ 1024 * 2 ^ 15 := Nat.mul_le_mul (hc k) h2
    simp only [roomTo]
    omega
theorem sumTo_le (c : Nat → Nat) (hc : ∀ i, c i ≤ 1024) : ∀ k, sumTo c k ≤ k * 1024
  | 0 => by simp [sumTo]
  | k + 1 => by have := sumTo_le c hc k; have := hc k; simp only [sumTo]; omega

theorem room_step (c : Nat → Nat) (k : Nat) (hc : c k ≤ 1024) (hk : k < 16) (hr : roomTo c k ≤ k * 33554432) : wrap64 ((roomTo c k : Int) + wrap64 ((c k : Int) * 2 ^ (15 - k))) = ((roomTo c (k + 1) : Nat) : Int) := by
  have h2 : 2 ^ (15 - k) ≤ 2 ^ 15 := Nat.pow_le_pow_right (by decide) (by omega)
  have h3 : c k * 2 ^ (15 - k) ≤ 1024 * 2 ^ 15 := Nat.mul_le_mul hc h2
  have e : (c k : Int) * 2 ^ (15 - k) = ((c k * 2 ^ (15 - k) : Nat) : Int) := by simp
  rw [e]
  simp only [roomTo]
  unfold wrap64
  omega

def roomErr (c : Nat → Nat) : Nat :=
  if 32768 < roomTo c 16 then 6 else if roomTo c 16 = 32768 ∨ sumTo c 16 = 0 ∨ (sumTo c 16 = 1 ∧ c 1 = 1) then 0 else 7

set_option maxRecDepth 100000 in
set_option maxHeartbeats 4000000 in
theorem room_any (c : Nat → Nat) (w : World) (hc : ∀ i, c i ≤ 1024) :
    Calls Try.prog 22 #[.agg (cArr c)] w fun e w' => e = .returned (.int .i64 (roomErr c : Nat)) ∧ Touch (fun _ => False) w w' := by
  have HC := hid hc
  clear hc
  obtain ⟨r, hr⟩ : ∃ r, roomErr c = r := ⟨_, rfl⟩
  have HR := hid hr
  rw [hr]
  clear hr
  unfold cArr
  go_enter Try.func22, Try.ntmps22
  go_wp2_with fail
  rw [show #[Value.int IntKind.i64 (c 0), .int .i64 (c 1), .int .i64 (c 2), .int .i64 (c 3), .int .i64 (c 4), .int .i64 (c 5), .int .i64 (c 6), .int .i64 (c 7), .int .i64 (c 8), .int .i64 (c 9), .int .i64 (c 10), .int .i64 (c 11), .int .i64 (c 12), .int .i64 (c 13), .int .i64 (c 14), .int .i64 (c 15)] = cArr c from rfl]
  obtain ⟨w1, hw1⟩ : ∃ w1, w1 = w.alloc (.cells (cArr c) 54) := ⟨_, rfl⟩
  have hb : w1.heap[w.heap.size]? = some (.cells (cArr c) 54) := by rw [hw1]; show (w.heap.push _)[_]? = _; simp
  have h1 : w1.cell? ⟨w.heap.size, 1, none⟩ = some (.int .i64 (c 1)) := by simp [World.cell?, hb, cArr_get]
  have T1 : Hid (Touch (fun _ => False) w w1) := by rw [hw1]; exact (Touch.refl _ w).alloc _
  rw [← hw1]
  clear hw1 hb
  go_loop [3, 4, 8] (fun t n i => ∃ k : Nat, k ≤ 16 ∧ i = .int .i64 k ∧ t = .int .i64 (roomTo c k : Nat) ∧ n = .int .i64 (sumTo c k : Nat)) (fun _ _ i => 16 - (intOf i).toNat)
  case atStart => exact ⟨0, by decide, rfl, rfl, rfl⟩
  case round =>
    obtain ⟨k, hk, rfl, rfl, rfl⟩ := hrel
    have hrl := roomTo_le c HC.out k
    have hsl := sumTo_le c HC.out k
    by_cases hlt : k < 16
    · have hidx := run_index16 (cArr c) k (c k) w1 hlt (cArr_get c k hlt)
      have hck := HC.out k
      have h2 : 2 ^ (15 - k) ≤ 2 ^ 15 := Nat.pow_le_pow_right (by decide) (by omega)
      have h3 : c k * 2 ^ (15 - k) ≤ 1024 * 2 ^ 15 := Nat.mul_le_mul hck h2
      have hsh : (0 : Int) ≤ 15 - (k : Int) := by omega
      clear h2
      have hst := room_step c k hck hlt hrl
      have HST := hid hst
      clear hst h3
      go_wp2
      go_round
      case rel => exact ⟨k + 1, by omega, by go_num, by rw [HST.out], by simp only [sumTo]; go_num⟩
      case measure => simp [intOf]; omega
    · obtain rfl : k = 16 := by omega
      have RR := HR.out
      unfold roomErr at RR
      have HRR := hid RR
      clear RR hrl hsl
      generalize roomTo c 16 = rt at *
      generalize sumTo c 16 = st at *
      generalize c 1 = cc at *
      clear HC
      by_cases e1 : 32768 < rt
      · have E := hid e1
        go_wp2
        go_ret
        exact ⟨ret_int (by have := HRR.out; rw [if_pos E.out] at this; omega), T1.out⟩
      · have q1 : ¬ (32768 : Int) < (rt : Int) := by omega
        by_cases e2 : rt = 32768
        · have q2 : ((rt : Int) == 32768) = true := by simp; omega
          have E : Hid (r = 0) := by have := HRR.out; rw [if_neg e1, if_pos (.inl e2)] at this; exact this.symm
          clear e2 e1
          go_wp2
          go_ret
          exact ⟨ret_int (by have := E.out; omega), T1.out⟩
        · have q2 : ((rt : Int) == 32768) = false := by simp; omega
          by_cases e3 : st = 0
          · have q3 : ((st : Int) == 0) = true := by simp; omega
            have E : Hid (r = 0) := by have := HRR.out; rw [if_neg e1, if_pos (.inr (.inl e3))] at this; exact this.symm
            clear e1 e2 e3
            go_wp2
            go_ret
            exact ⟨ret_int (by have := E.out; omega), T1.out⟩
          · have q3 : ((st : Int) == 0) = false := by simp; omega
            by_cases e4 : st = 1
            · have q4 : ((st : Int) == 1) = true := by simp; omega
              by_cases e5 : cc = 1
              · have q5 : ((cc : Int) == 1) = true := by simp; omega
                have E : Hid (r = 0) := by have := HRR.out; rw [if_neg e1, if_pos (.inr (.inr ⟨e4, e5⟩))] at this; exact this.symm
                clear e1 e2 e3 e4 e5
                go_wp2
                go_ret
                exact ⟨ret_int (by have := E.out; omega), T1.out⟩
              · have q5 : ((cc : Int) == 1) = false := by simp; omega
                have E : Hid (r = 7) := by have := HRR.out; rw [if_neg e1, if_neg (by omega)] at this; exact this.symm
                clear e1 e2 e3 e4 e5
                go_wp2
                go_ret
                exact ⟨ret_int (by have := E.out; omega), T1.out⟩
            · have q4 : ((st : Int) == 1) = false := by simp; omega
              have E : Hid (r = 7) := by have := HRR.out; rw [if_neg e1, if_neg (by omega)] at this; exact this.symm
              clear e1 e2 e3 e4
              go_wp2
              go_ret
              exact ⟨ret_int (by have := E.out; omega), T1.out⟩
end Go.Proofs.Ytokelpnmeknncab
