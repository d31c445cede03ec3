/- Texts of this proof, one behind the other: what each says stands ahead of it. -/
import Derived.Test.YtffjkceedbblgaaGreatDoorM0
/- A reader of bits: Open, Taken, Left. -/
namespace Go.Proofs.YtffjkceedbblgaaGreatDoor
open Go.RowKit

def Rd (w : World) (b : Nat) (s : ByteArray) (t : Nat) : Prop := w.heap[b]? = some (.cells #[.string s, .int .i64 t] 161 (0, 0))

/-- Nothing but draws. -/
structure Still (w w' : World) : Prop where
  heap : w'.heap = w.heap
  os : w'.os = w.os
  tape : w'.tape = w.tape
  output : w'.output = w.output

theorem Still.refl (w : World) : Still w w := ⟨rfl, rfl, rfl, rfl⟩
theorem Still.trans {a b c : World} (h : Still a b) (k : Still b c) : Still a c := ⟨k.heap.trans h.heap, k.os.trans h.os, k.tape.trans h.tape, k.output.trans h.output⟩
theorem Still.drew {w w' : World} (h : Still w w') : Still w w'.drew := ⟨h.heap, h.os, h.tape, h.output⟩
theorem Still.drewN {w w' : World} (h : Still w w') (n : Nat) : Still w (w'.drewN n) := ⟨h.heap, h.os, h.tape, h.output⟩
theorem Still.touch {w w' : World} (h : Still w w') (S : Nat → Prop) : Touch S w w' := ⟨h.os, h.tape, h.output, by rw [h.heap]; exact Nat.le_refl _, fun k _ _ => by rw [h.heap]⟩
theorem Still.rd {w w' : World} {b : Nat} {s : ByteArray} {t : Nat} (h : Still w w') (r : Rd w b s t) : Rd w' b s t := by unfold Rd; rw [h.heap]; exact r
theorem Still.size {w w' : World} (h : Still w w') : w'.heap.size = w.heap.size := by rw [h.heap]

theorem Rd.lt {w : World} {b : Nat} {s : ByteArray} {t : Nat} (r : Rd w b s t) : b < w.heap.size := lt_of_block r
theorem Rd.c0 {w : World} {b : Nat} {s : ByteArray} {t : Nat} (r : Rd w b s t) : w.cell? ⟨b, 0, none⟩ = some (.string s) := cell_two0 r
theorem Rd.c1 {w : World} {b : Nat} {s : ByteArray} {t : Nat} (r : Rd w b s t) : w.cell? ⟨b, 1, none⟩ = some (.int .i64 t) := cell_two1 r
theorem Rd.f1 {w : World} {b : Nat} {s : ByteArray} {t : Nat} (r : Rd w b s t) : w.frozen? ⟨b, 1, none⟩ = false := free_two r
theorem Rd.set {w : World} {b : Nat} {s : ByteArray} {t t' : Nat} (r : Rd w b s t) : Rd (w.setCell ⟨b, 1, none⟩ (.int .i64 t')) b s t' := two_set1 r

theorem open_any (s : ByteArray) (w : World) :
    Calls Tryz.prog 69 #[.string s] w fun e w' => e = .returned (.pointer (some ⟨w.heap.size, 0, none⟩)) ∧ w' = w.alloc (.cells #[.string s, .int .i64 0] 161) := by
  go_enter Tryz.func69, Tryz.ntmps69
  go_wp2
  go_ret
  exact ⟨rfl, rfl⟩

theorem rd_new (w : World) (s : ByteArray) : Rd (w.alloc (.cells #[.string s, .int .i64 0] 161)) w.heap.size s 0 := by
  show (w.heap.push _)[_]? = _
  simp

theorem taken_any (b : Nat) (s : ByteArray) (t : Nat) (w : World) (r : Rd w b s t) :
    Calls Tryz.prog 71 #[.pointer (some ⟨b, 0, none⟩)] w fun e w' => e = .returned (.int .i64 t) ∧ w' = w := by
  have c1 := r.c1
  go_enter Tryz.func71, Tryz.ntmps71
  go_wp2
  go_ret
  exact ⟨rfl, rfl⟩

set_option maxHeartbeats 400000 in
theorem left_any (b : Nat) (s : ByteArray) (t : Nat) (w : World) (r : Rd w b s t) (hs : s.size ≤ 140737488355328) (ht : t ≤ 8 * s.size) :
    Calls Tryz.prog 94 #[.pointer (some ⟨b, 0, none⟩)] w fun e w' => e = .returned (.int .i64 (8 * s.size - t)) ∧ Still w w' := by
  have c0 := r.c0
  have c1 := r.c1
  go_enter Tryz.func94, Tryz.ntmps94
  go_wp2
  go_region
  all_goals go_wp2
  all_goals go_ret
  all_goals exact ⟨rfl, (Still.refl _).drew⟩

theorem whole_any (n : Int) (w : World) (h0 : 0 ≤ n) (h1 : n ≤ 1125899906842632) :
    Calls Tryz.prog 95 #[.int .i64 n] w fun e w' => e = .returned (.int .i64 ((n + 7) / 8)) ∧ w' = w := by
  go_enter Tryz.func95, Tryz.ntmps95
  go_wp2
  go_ret
  exact ⟨rfl, rfl⟩
end Go.Proofs.YtffjkceedbblgaaGreatDoor

/- Peek of a reader. -/
namespace Go.Proofs.YtffjkceedbblgaaGreatDoor
open Go.RowKit

theorem ret_two {i j : IntKind} {a b c d : Int} (h : a = c) (k : b = d) : Ending.returned (.tuple #[.int i a, .int j b]) = .returned (.tuple #[.int i c, .int j d]) := by rw [h, k]

theorem wraps_i64 (n : Int) (h₀ : 0 ≤ n) (h₁ : n < 2 ^ 62) : IntKind.i64.wrap n = n := by rw [IntKind.wrap_i64]; omega

theorem i64_or_nat (a b : Nat) (ha : a < 2 ^ 62) (hb : b < 2 ^ 62) : bits .or .i64 (a : Int) (b : Int) = ((a ||| b : Nat) : Int) :=
  (bits_nat .i64 62 (by decide) wraps_i64 a b ha hb).2

theorem byte_get (s : ByteArray) (i : Nat) (h : i < s.size) : s[i].toNat = Bt.byteN s i := by
  unfold Bt.byteN
  have : i < s.data.size := h
  unfold Array.getD
  rw [dif_pos this]
  rfl

theorem peek_or (s : ByteArray) (f k : Nat) (hk : k ≤ 4) (h : f + k < s.size) :
    bits .or .i64 (Bt.rval s (8 * f) (8 * k) : Nat) (wrap64 (wrap64 ((s[f + k].toNat : Nat) : Int) * 2 ^ (8 * k))) = ((Bt.rval s (8 * f) (8 * (k + 1)) : Nat) : Int) := by
  have hv := Bt.rval_lt s (8 * f) (8 * k)
  have hb := Bt.byteN_lt s (f + k)
  have hp : 2 ^ (8 * k) ≤ 2 ^ 32 := Nat.pow_le_pow_right (by decide) (by omega)
  have hm : Bt.byteN s (f + k) * 2 ^ (8 * k) < 2 ^ 40 := by
    calc Bt.byteN s (f + k) * 2 ^ (8 * k) ≤ 255 * 2 ^ 32 := Nat.mul_le_mul (by omega) hp
      _ < 2 ^ 40 := by decide
  rw [byte_get s _ h]
  have e1 : wrap64 ((Bt.byteN s (f + k) : Nat) : Int) = ((Bt.byteN s (f + k) : Nat) : Int) := by unfold wrap64; omega
  have e2 : wrap64 (((Bt.byteN s (f + k) : Nat) : Int) * 2 ^ (8 * k)) = ((Bt.byteN s (f + k) * 2 ^ (8 * k) : Nat) : Int) := by
    have : ((Bt.byteN s (f + k) * 2 ^ (8 * k) : Nat) : Int) = ((Bt.byteN s (f + k) : Nat) : Int) * 2 ^ (8 * k) := by simp
    rw [← this]
    unfold wrap64
    omega
  rw [e1, e2, i64_or_nat _ _ (by omega) (by omega), Nat.or_comm, nat_join (8 * k) _ _ (by simp) hv]
  rw [show 8 * (k + 1) = 8 * k + 8 by omega, Bt.rval_add, show 8 * f + 8 * k = 8 * (f + k) by omega, Bt.rval_byte, Nat.mul_comm, Nat.add_comm]

theorem peek_and (v d m : Nat) (hm : m ≤ 32) : bits .and .i64 (((v : Nat) : Int) / 2 ^ d) (wrap64 (wrap64 (2 ^ m) - 1)) = ((v / 2 ^ d % 2 ^ m : Nat) : Int) := by
  have hp : 2 ^ m ≤ 2 ^ 32 := Nat.pow_le_pow_right (by decide) hm
  have hp0 : 0 < 2 ^ m := Nat.pow_pos (by decide)
  have hc : (2 : Int) ^ m = ((2 ^ m : Nat) : Int) := by simp
  have e : wrap64 (wrap64 (2 ^ m) - 1) = 2 ^ m - 1 := by rw [hc]; unfold wrap64; omega
  rw [e, i64_and_mask _ m (by omega)]
  simp

set_option maxHeartbeats 1000000 in
theorem peek_yes (b : Nat) (s : ByteArray) (t n : Nat) (w : World) (r : Rd w b s t) (hs : s.size ≤ 140737488355328) (ht : t ≤ 8 * s.size) (hn : n ≤ 32) :
    Calls Tryz.prog 89 #[.pointer (some ⟨b, 0, none⟩), .int .i64 n] w fun e w' => e = .returned (.tuple #[.int .i64 (Bt.rval s t (min n (8 * s.size - t))), .int .i64 (min n (8 * s.size - t) : Nat)]) ∧ Still w w' := by
  obtain ⟨m, hm⟩ : ∃ m, min n (8 * s.size - t) = m := ⟨_, rfl⟩
  have hml : m ≤ 32 ∧ m ≤ 8 * s.size - t := by omega
  have HM : Hid _ := hm
  rw [hm]
  clear hm
  go_enter Tryz.func89, Tryz.ntmps89
  go_wp2_with (first | (go_at_call 43; refine (fits_yes _ _ (by omega) (by omega)).mono ?_; rintro e w ⟨rfl, rfl⟩))
  refine (left_any b s t _ r hs ht).mono ?_
  rintro e w1 ⟨rfl, hw1⟩
  have HS : Hid _ := hw1
  have r1 := hw1.rd r
  have c0 := r1.c0
  have c1 := r1.c1
  clear r r1 hw1
  by_cases hle : (n : Int) ≤ 8 * (s.size : Int) - t
  all_goals
    go_wp2_with fail
    first
      | (have hmn : m = n := by have := HM.out; omega
         subst hmn)
      | rw [show 8 * (s.size : Int) - (t : Int) = (m : Int) by have := HM.out; omega]
    clear hle
    go_region
    all_goals go_wp2_with fail
    refine (whole_any _ _ (by omega) (by omega)).mono ?_
    rintro e w2 ⟨rfl, rfl⟩
    obtain ⟨c, hc⟩ : ∃ c : Nat, (t % 8 + m + 7) / 8 = c := ⟨_, rfl⟩
    rw [show ((t : Int) % 8 + (m : Int) + 7) / 8 = (c : Int) by omega]
    have HC : Hid _ := hc
    have hcs : t / 8 + c ≤ s.size := by omega
    have hc5 : c ≤ 5 := by omega
    clear hc
    go_wp2_with fail
    go_loop [9, 36] (fun v i => ∃ k : Nat, k ≤ c ∧ i = .int .i64 k ∧ v = .int .i64 (Bt.rval s (8 * (t / 8)) (8 * k))) (fun _ i => c - (intOf i).toNat)
    case atStart => exact ⟨0, Nat.zero_le _, rfl, rfl⟩
    case round =>
      obtain ⟨k, hk, rfl, rfl⟩ := hrel
      by_cases hlt : k < c
      · have hix : t / 8 + k < s.size := by omega
        go_wp2
        go_round
        case rel => exact ⟨k + 1, by omega, by go_num, by rw [peek_or s (t / 8) k (by omega) hix]⟩
        case measure => simp [intOf]; omega
      · obtain rfl : k = c := by omega
        go_wp2
        go_region
        all_goals go_wp2
        all_goals go_ret2
        all_goals exact ⟨ret_two (by rw [peek_and _ _ _ hml.1, Bt.rval_peek s t m k (by have := HC.out; omega)]) rfl, HS.out.drew.drew⟩
end Go.Proofs.YtffjkceedbblgaaGreatDoor

/- checkRoom: whether so many codes of each length take the room that there is; condition: at most 1024 of each. -/
namespace Go.Proofs.YtffjkceedbblgaaGreatDoor
open Go.RowKit

theorem hid {p : Prop} (h : p) : Hid p := h
theorem ret_int {k : IntKind} {a b : Int} (h : a = b) : Ending.returned (.int k a) = .returned (.int k b) := by rw [h]
theorem info3 : (Tryz.prog.info? 3).map (fun i => (i.zero, i.size, i.bytes)) = some (some (.int .i64 0), 1, 8) := by kernel_rfl

theorem run_index16 (cs : Array Value) (i : Nat) (x : Int) (w : World) (hi : i < 16) (hx : cs[i]? = some (.int .i64 x)) : (Instr.index 150 (.agg cs) (.int .i64 (i : Int))).run Tryz.prog w = .ok (.int .i64 x) w := by
  obtain ⟨i0, h1, hz0, hz1, hz2⟩ := info_parts info3
  simp [Instr.index, run_underlying Tryz.underlying150, asIntOf, go_sem, part, sizeOf, typeInfo, h1, hz1, hi]
  rw [hx]
  simp [Sem.run_pure]

/-- So many of each length, as an array. -/
def cArr (c : Nat → Nat) : Array Value := #[.int .i64 (c 0), .int .i64 (c 1), .int .i64 (c 2), .int .i64 (c 3), .int .i64 (c 4), .int .i64 (c 5), .int .i64 (c 6), .int .i64 (c 7), .int .i64 (c 8), .int .i64 (c 9), .int .i64 (c 10), .int .i64 (c 11), .int .i64 (c 12), .int .i64 (c 13), .int .i64 (c 14), .int .i64 (c 15)]

theorem cArr_get (c : Nat → Nat) (i : Nat) (h : i < 16) : (cArr c)[i]? = some (.int .i64 (c i)) := by
  unfold cArr
  rcases (show i = 0 ∨ i = 1 ∨ i = 2 ∨ i = 3 ∨ i = 4 ∨ i = 5 ∨ i = 6 ∨ i = 7 ∨ i = 8 ∨ i = 9 ∨ i = 10 ∨ i = 11 ∨ i = 12 ∨ i = 13 ∨ i = 14 ∨ i = 15 by omega) with rfl | rfl | rfl | rfl | rfl | rfl | rfl | rfl | rfl | rfl | rfl | rfl | rfl | rfl | rfl | rfl <;> rfl

/-- The room that the first lengths take; how many codes they are. -/
def roomTo (c : Nat → Nat) : Nat → Nat
  | 0 => 0
  | k + 1 => roomTo c k + c k * 2 ^ (15 - k)
def sumTo (c : Nat → Nat) : Nat → Nat
  | 0 => 0
  | k + 1 => sumTo c k + c k

theorem roomTo_le (c : Nat → Nat) (hc : ∀ i, c i ≤ 1024) : ∀ k, roomTo c k ≤ k * 33554432
  | 0 => by simp [roomTo]
  | k + 1 => by
    have h1 := roomTo_le c hc k
    have h2 : 2 ^ (15 - k) ≤ 2 ^ 15 := Nat.pow_le_pow_right (by decide) (by omega)
    have h3 : c k * 2 ^ (15 - k) ≤ 1024 * 2 ^ 15 := Nat.mul_le_mul (hc k) h2
    simp only [roomTo]
    omega
theorem sumTo_le (c : Nat → Nat) (hc : ∀ i, c i ≤ 1024) : ∀ k, sumTo c k ≤ k * 1024
  | 0 => by simp [sumTo]
  | k + 1 => by have := sumTo_le c hc k; have := hc k; simp only [sumTo]; omega

theorem room_step (c : Nat → Nat) (k : Nat) (hc : c k ≤ 1024) (hk : k < 16) (hr : roomTo c k ≤ k * 33554432) : wrap64 ((roomTo c k : Int) + wrap64 ((c k : Int) * 2 ^ (15 - k))) = ((roomTo c (k + 1) : Nat) : Int) := by
  have h2 : 2 ^ (15 - k) ≤ 2 ^ 15 := Nat.pow_le_pow_right (by decide) (by omega)
  have h3 : c k * 2 ^ (15 - k) ≤ 1024 * 2 ^ 15 := Nat.mul_le_mul hc h2
  have e : (c k : Int) * 2 ^ (15 - k) = ((c k * 2 ^ (15 - k) : Nat) : Int) := by simp
  rw [e]
  simp only [roomTo]
  unfold wrap64
  omega

def roomErr (c : Nat → Nat) : Nat :=
  if 32768 < roomTo c 16 then 6 else if roomTo c 16 = 32768 ∨ sumTo c 16 = 0 ∨ (sumTo c 16 = 1 ∧ c 1 = 1) then 0 else 7

set_option maxRecDepth 100000 in
set_option maxHeartbeats 4000000 in
theorem room_any (c : Nat → Nat) (w : World) (hc : ∀ i, c i ≤ 1024) :
    Calls Tryz.prog 73 #[.agg (cArr c)] w fun e w' => e = .returned (.int .i64 (roomErr c : Nat)) ∧ Touch (fun _ => False) w w' := by
  have HC := hid hc
  clear hc
  obtain ⟨r, hr⟩ : ∃ r, roomErr c = r := ⟨_, rfl⟩
  have HR := hid hr
  rw [hr]
  clear hr
  unfold cArr
  go_enter Tryz.func73, Tryz.ntmps73
  go_wp2_with fail
  rw [show #[Value.int IntKind.i64 (c 0), .int .i64 (c 1), .int .i64 (c 2), .int .i64 (c 3), .int .i64 (c 4), .int .i64 (c 5), .int .i64 (c 6), .int .i64 (c 7), .int .i64 (c 8), .int .i64 (c 9), .int .i64 (c 10), .int .i64 (c 11), .int .i64 (c 12), .int .i64 (c 13), .int .i64 (c 14), .int .i64 (c 15)] = cArr c from rfl]
  obtain ⟨w1, hw1⟩ : ∃ w1, w1 = w.alloc (.cells (cArr c) 150) := ⟨_, rfl⟩
  have hb : w1.heap[w.heap.size]? = some (.cells (cArr c) 150) := by rw [hw1]; show (w.heap.push _)[_]? = _; simp
  have h1 : w1.cell? ⟨w.heap.size, 1, none⟩ = some (.int .i64 (c 1)) := by simp [World.cell?, hb, cArr_get]
  have T1 : Hid (Touch (fun _ => False) w w1) := by rw [hw1]; exact (Touch.refl _ w).alloc _
  rw [← hw1]
  clear hw1 hb
  go_loop [3, 4, 8] (fun t n i => ∃ k : Nat, k ≤ 16 ∧ i = .int .i64 k ∧ t = .int .i64 (roomTo c k : Nat) ∧ n = .int .i64 (sumTo c k : Nat)) (fun _ _ i => 16 - (intOf i).toNat)
  case atStart => exact ⟨0, by decide, rfl, rfl, rfl⟩
  case round =>
    obtain ⟨k, hk, rfl, rfl, rfl⟩ := hrel
    have hrl := roomTo_le c HC.out k
    have hsl := sumTo_le c HC.out k
    by_cases hlt : k < 16
    · have hidx := run_index16 (cArr c) k (c k) w1 hlt (cArr_get c k hlt)
      have hck := HC.out k
      have h2 : 2 ^ (15 - k) ≤ 2 ^ 15 := Nat.pow_le_pow_right (by decide) (by omega)
      have h3 : c k * 2 ^ (15 - k) ≤ 1024 * 2 ^ 15 := Nat.mul_le_mul hck h2
      have hsh : (0 : Int) ≤ 15 - (k : Int) := by omega
      clear h2
      have hst := room_step c k hck hlt hrl
      have HST := hid hst
      clear hst h3
      go_wp2
      go_round
      case rel => exact ⟨k + 1, by omega, by go_num, by rw [HST.out], by simp only [sumTo]; go_num⟩
      case measure => simp [intOf]; omega
    · obtain rfl : k = 16 := by omega
      have RR := HR.out
      unfold roomErr at RR
      have HRR := hid RR
      clear RR hrl hsl
      generalize roomTo c 16 = rt at *
      generalize sumTo c 16 = st at *
      generalize c 1 = cc at *
      clear HC
      by_cases e1 : 32768 < rt
      · have E := hid e1
        go_wp2
        go_ret
        exact ⟨ret_int (by have := HRR.out; rw [if_pos E.out] at this; omega), T1.out⟩
      · have q1 : ¬ (32768 : Int) < (rt : Int) := by omega
        by_cases e2 : rt = 32768
        · have q2 : ((rt : Int) == 32768) = true := by simp; omega
          have E : Hid (r = 0) := by have := HRR.out; rw [if_neg e1, if_pos (.inl e2)] at this; exact this.symm
          clear e2 e1
          go_wp2
          go_ret
          exact ⟨ret_int (by have := E.out; omega), T1.out⟩
        · have q2 : ((rt : Int) == 32768) = false := by simp; omega
          by_cases e3 : st = 0
          · have q3 : ((st : Int) == 0) = true := by simp; omega
            have E : Hid (r = 0) := by have := HRR.out; rw [if_neg e1, if_pos (.inr (.inl e3))] at this; exact this.symm
            clear e1 e2 e3
            go_wp2
            go_ret
            exact ⟨ret_int (by have := E.out; omega), T1.out⟩
          · have q3 : ((st : Int) == 0) = false := by simp; omega
            by_cases e4 : st = 1
            · have q4 : ((st : Int) == 1) = true := by simp; omega
              by_cases e5 : cc = 1
              · have q5 : ((cc : Int) == 1) = true := by simp; omega
                have E : Hid (r = 0) := by have := HRR.out; rw [if_neg e1, if_pos (.inr (.inr ⟨e4, e5⟩))] at this; exact this.symm
                clear e1 e2 e3 e4 e5
                go_wp2
                go_ret
                exact ⟨ret_int (by have := E.out; omega), T1.out⟩
              · have q5 : ((cc : Int) == 1) = false := by simp; omega
                have E : Hid (r = 7) := by have := HRR.out; rw [if_neg e1, if_neg (by omega)] at this; exact this.symm
                clear e1 e2 e3 e4 e5
                go_wp2
                go_ret
                exact ⟨ret_int (by have := E.out; omega), T1.out⟩
            · have q4 : ((st : Int) == 1) = false := by simp; omega
              have E : Hid (r = 7) := by have := HRR.out; rw [if_neg e1, if_neg (by omega)] at this; exact this.symm
              clear e1 e2 e3 e4
              go_wp2
              go_ret
              exact ⟨ret_int (by have := E.out; omega), T1.out⟩
end Go.Proofs.YtffjkceedbblgaaGreatDoor

/- codesOf: the codes of lengths; conditions: at most 1024 lengths, each from 0 to 15. -/
namespace Go.Proofs.YtffjkceedbblgaaGreatDoor
open Go.RowKit

/-- A list of numbers in memory, as a walk is told of it. -/
def Ints (w : World) (a : Option Addr) (len : Nat) (f : Nat → Int) : Prop :=
  len = 0 ∨ ∃ b o, a = some ⟨b, o, none⟩ ∧ b < w.heap.size ∧ ∀ i, i < len → w.cell? ⟨b, o + i, none⟩ = some (.int .i64 (f i))

theorem Ints.new {w w' : World} {a : Option Addr} {len : Nat} {f : Nat → Int} (h : Ints w a len f) (t : Touch (fun _ => False) w w') : Ints w' a len f := by
  rcases h with h | ⟨b, o, rfl, hb, hc⟩
  · exact .inl h
  · exact .inr ⟨b, o, rfl, Nat.lt_of_lt_of_le hb t.size, fun i hi => by rw [t.cell (p := ⟨b, o + i, none⟩) hb id]; exact hc i hi⟩

theorem Ints.kept {w w' : World} {S : Nat → Prop} {a : Option Addr} {len : Nat} {f : Nat → Int} (h : Ints w a len f) (t : Touch S w w') (hs : ∀ k, k < w.heap.size → ¬ S k) : Ints w' a len f := by
  rcases h with h | ⟨b, o, rfl, hb, hc⟩
  · exact .inl h
  · exact .inr ⟨b, o, rfl, Nat.lt_of_lt_of_le hb t.size, fun i hi => by rw [t.cell (p := ⟨b, o + i, none⟩) hb (hs b hb)]; exact hc i hi⟩

/-- A block of sixteen numbers. -/
def Blk (w : World) (n : Nat) (f : Nat → Nat) : Prop := ∃ cs : Array Value, w.heap[n]? = some (.cells cs 150 (0, 0)) ∧ cs.size = 16 ∧ ∀ j, j < 16 → cs[j]? = some (.int .i64 (f j : Nat))

theorem Blk.cell {w : World} {n : Nat} {f : Nat → Nat} (h : Blk w n f) (j : Nat) (hj : j < 16) : w.cell? ⟨n, j, none⟩ = some (.int .i64 (f j : Nat)) := by
  obtain ⟨cs, hb, _, hc⟩ := h
  simp [World.cell?, hb, hc j hj]
theorem Blk.free {w : World} {n : Nat} {f : Nat → Nat} (h : Blk w n f) (j : Nat) : w.frozen? ⟨n, j, none⟩ = false := by
  obtain ⟨cs, hb, _⟩ := h
  simp [World.frozen?, hb]
theorem Blk.lt {w : World} {n : Nat} {f : Nat → Nat} (h : Blk w n f) : n < w.heap.size := by
  obtain ⟨cs, hb, _⟩ := h
  exact lt_of_block hb
theorem Blk.same {w w' : World} {n : Nat} {f : Nat → Nat} (h : Blk w n f) (e : w'.heap[n]? = w.heap[n]?) : Blk w' n f := by
  obtain ⟨cs, hb, r⟩ := h
  exact ⟨cs, e.trans hb, r⟩
theorem Blk.set {w : World} {n : Nat} {f : Nat → Nat} (h : Blk w n f) (k : Nat) (x : Nat) : Blk (w.setCell ⟨n, k, none⟩ (.int .i64 (x : Nat))) n (fun j => if j = k then x else f j) := by
  obtain ⟨cs, hb, hs, hc⟩ := h
  have hlt := lt_of_block hb
  have h' : w.heap[n] = .cells cs 150 (0, 0) := by simpa [Array.getElem?_eq_getElem hlt] using hb
  refine ⟨cs.set! k (.int .i64 (x : Nat)), ?_, by simpa using hs, fun j hj => ?_⟩
  · show (w.heap.modify n _)[n]? = _
    rw [Array.getElem?_eq_getElem (by simpa using hlt), Array.getElem_modify_self, h']
    rfl
  · simp only [Array.set!_eq_setIfInBounds]
    rw [Array.getElem?_setIfInBounds]
    by_cases e : k = j
    · subst e
      simp [hs, hj]
    · rw [if_neg e, if_neg (fun h => e h.symm)]
      exact hc j hj
theorem Blk.ext {w : World} {n : Nat} {f g : Nat → Nat} (h : Blk w n f) (e : ∀ j, j < 16 → f j = g j) : Blk w n g := by
  obtain ⟨cs, hb, hs, hc⟩ := h
  exact ⟨cs, hb, hs, fun j hj => by rw [hc j hj, e j hj]⟩

theorem blk_new (w : World) (c : Nat → Nat) : Blk (w.alloc (.cells (cArr c) 150)) w.heap.size c :=
  ⟨cArr c, by show (w.heap.push _)[_]? = _; simp, rfl, fun j hj => cArr_get c j hj⟩

/-- The first code of each length. -/
def firsts (c : Nat → Nat) : Nat → Nat
  | 0 => 0
  | n + 1 => (firsts c n + c n) * 2

theorem firsts_le (c : Nat → Nat) (hc : ∀ i, c i ≤ 1024) : ∀ n, firsts c n + 2048 ≤ 2048 * 2 ^ n
  | 0 => by simp [firsts]
  | n + 1 => by
    have := firsts_le c hc n
    have := hc n
    simp only [firsts, Nat.pow_succ]
    omega

/-- How many of the first k lengths are n. -/
def cntTo (f : Nat → Nat) (n : Nat) : Nat → Nat
  | 0 => 0
  | k + 1 => cntTo f n k + (if f k = n then 1 else 0)

theorem cntTo_le (f : Nat → Nat) (n : Nat) : ∀ k, cntTo f n k ≤ k
  | 0 => Nat.le_refl _
  | k + 1 => by have := cntTo_le f n k; simp only [cntTo]; split <;> omega

/-- The code of symbol i. -/
def codeOf (c f : Nat → Nat) (i : Nat) : Nat := if f i = 0 then 0 else firsts c (f i) + cntTo f (f i) i

end Go.Proofs.YtffjkceedbblgaaGreatDoor
