/- Texts of this proof, one behind the other: what each says stands ahead of it. -/
import Derived.Test.YtohcngiiijokkaaDoorChecked
import Derived.WalkSpells
import Derived.WalkLawsBesides
import Derived.BigRegion
import Derived.Maps.AppendAt
import Derived.Test.YtohcngiiijokkaaDoorM0
import Derived.BigQuiet
import Derived.WalkKit
import Derived.Deep.LoopGhost
import Derived.Deep.DeepCutAuto
import Derived.Laws.BitsLemmas
/- The writer's inner function: one bit more; condition: fewer than two to the fiftieth bits were put. -/
namespace Go.Proofs.YtohcngiiijokkaaDoor
open Go.RowKit
theorem Tryd.info5 : (Tryd.prog.info? 5).map (fun i => (i.zero, i.size, i.bytes)) = some (some (.int .u8 0), 1, 1) := by kernel_rfl

theorem add_zero (g j : Nat) : (⟨g, 0, none⟩ : Addr).add j = ⟨g, j, none⟩ := by
  unfold Addr.add
  split <;> simp_all

/-! ### What the model reckons -/
theorem or_bit (x m : Nat) (c : Int) (hm : m < 8) (hx : x < 2 ^ m) (hc0 : 0 ≤ c) (hc1 : c ≤ 1) :
    bits .or .u8 (x : Int) (wrap64 (c * 2 ^ m) % 256) = ((x + (c == 1).toNat * 2 ^ m : Nat) : Int) := by
  have hp : (2 : Int) ^ m ≤ 128 := by
    rcases (show m = 0 ∨ m = 1 ∨ m = 2 ∨ m = 3 ∨ m = 4 ∨ m = 5 ∨ m = 6 ∨ m = 7 by omega) with rfl | rfl | rfl | rfl | rfl | rfl | rfl | rfl <;> decide
  have hpn : 2 ^ m ≤ 128 := by
    rcases (show m = 0 ∨ m = 1 ∨ m = 2 ∨ m = 3 ∨ m = 4 ∨ m = 5 ∨ m = 6 ∨ m = 7 by omega) with rfl | rfl | rfl | rfl | rfl | rfl | rfl | rfl <;> decide
  rcases (show c = 0 ∨ c = 1 by omega) with rfl | rfl
  · have e : (wrap64 (0 * 2 ^ m) % 256 : Int) = ((0 : Nat) : Int) := by simp [wrap64]
    rw [e, u8_or_nat x 0 (by omega) (by decide)]
    simp
  · have e : (wrap64 (1 * 2 ^ m) % 256 : Int) = ((2 ^ m : Nat) : Int) := by
      have : ((2 ^ m : Nat) : Int) = (2 : Int) ^ m := by simp
      rw [Int.one_mul, this]
      unfold wrap64
      have : (0 : Int) < 2 ^ m := by rw [← this]; exact_mod_cast Nat.pow_pos (by decide)
      omega
    rw [e, u8_or_nat x (2 ^ m) (by omega) (by omega), Nat.or_comm, nat_join m (2 ^ m) x (by simp) hx]
    simp [Nat.add_comm]

end Go.Proofs.YtohcngiiijokkaaDoor

/- One bit more: the writer that holds a row of bits then holds that row and the bit; condition: fewer than two to the fiftieth bits were put. -/
namespace Go.Proofs.YtohcngiiijokkaaDoor
open Go.RowKit

theorem ownsRow_set {w : World} {g n cap : Nat} {xs : List Value} (h : w.ownsRow 0 5 1 (.slice (some ⟨g, 0, none⟩) n cap) n xs) (i : Nat) (x : Value) :
    (w.setCell ⟨g, i, none⟩ x).ownsRow 0 5 1 (.slice (some ⟨g, 0, none⟩) n cap) n (xs.set i x) := by
  obtain ⟨h1, h2⟩ := h
  rcases h2 with ⟨h2, _⟩ | ⟨g', cap', cur, hv, hg, hh, hle, hm, hcs, htk⟩
  · simp at h2
  · simp at hv
    obtain ⟨rfl, rfl⟩ := hv
    refine ⟨by simpa using h1, .inr ⟨g, cap, cur.set! i x, rfl, hg, ?_, hle, hm, by simpa using hcs, ?_⟩⟩
    · have hlt := lt_of_block hh
      have h' : w.heap[g] = .cells cur 5 (0, 0) := by simpa [Array.getElem?_eq_getElem hlt] using hh
      show (w.heap.modify g _)[g]? = _
      rw [Array.getElem?_eq_getElem (by simpa using hlt), Array.getElem_modify_self, h']
      rfl
    · rw [← htk]
      simp [List.take_set]

end Go.Proofs.YtohcngiiijokkaaDoor

/- Put and Code of a writer. -/
namespace Go.Proofs.YtohcngiiijokkaaDoor
open Go.RowKit

def fitsB (n : Int) : Bool := decide (0 ≤ n) && decide (n ≤ 32)

theorem fits_yes (n : Int) (w : World) (h0 : 0 ≤ n) (h1 : n ≤ 32) :
    Calls Tryd.prog 53 #[.int .i64 n] w fun e w' => e = .returned (.bool true) ∧ w' = w := by
  go_enter Tryd.func53, Tryd.ntmps53
  go_wp2
  go_ret
  exact ⟨rfl, rfl⟩

theorem fits_no (n : Int) (w : World) (h : n < 0 ∨ 32 < n) :
    Calls Tryd.prog 53 #[.int .i64 n] w fun e w' => e = .returned (.bool false) ∧ w' = w := by
  rcases h with h | h
  · go_enter Tryd.func53, Tryd.ntmps53
    go_wp2
    go_ret
    exact ⟨rfl, rfl⟩
  · have h' : 0 ≤ n := by omega
    have hd : decide (n ≤ 32) = false := by simp; omega
    go_enter Tryd.func53, Tryd.ntmps53
    go_wp2
    go_ret
    exact ⟨by rw [← hd]; rfl, rfl⟩

theorem i64_and_mask (n : Int) (m : Nat) (hm : m ≤ 62) : bits .and .i64 n (2 ^ m - 1) = n % 2 ^ m := by
  have hp : (2 ^ m : Nat) ≤ 2 ^ 62 := Nat.pow_le_pow_right (by decide) hm
  have hp0 : 0 < (2 ^ m : Nat) := Nat.pow_pos (by decide)
  have hc : (2 : Int) ^ m = ((2 ^ m : Nat) : Int) := by simp
  have hd : (2 ^ m : Nat) ∣ 2 ^ 64 := Nat.pow_dvd_pow 2 (by omega)
  rw [hc]
  have h1 : (BitVec.ofInt 64 (((2 ^ m : Nat) : Int) - 1)).toNat = 2 ^ m - 1 := by
    rw [BitVec.toNat_ofInt]
    omega
  have key : (BitVec.ofInt 64 n &&& BitVec.ofInt 64 (((2 ^ m : Nat) : Int) - 1)).toNat = (n % ((2 ^ 64 : Nat) : Int)).toNat % 2 ^ m := by
    rw [BitVec.toNat_and, BitVec.toNat_ofInt, h1, Nat.and_two_pow_sub_one_eq_mod]
  show IntKind.i64.wrap ((BitVec.ofInt 64 n &&& BitVec.ofInt 64 (((2 ^ m : Nat) : Int) - 1)).toNat : Nat) = _
  have hlt : (n % ((2 ^ 64 : Nat) : Int)).toNat % 2 ^ m < 2 ^ m := Nat.mod_lt _ hp0
  have e1 : (((n % ((2 ^ 64 : Nat) : Int)).toNat % 2 ^ m : Nat) : Int) = n % ((2 ^ m : Nat) : Int) := by
    rw [Int.natCast_emod, Int.toNat_of_nonneg (Int.emod_nonneg _ (by decide)), Int.emod_emod_of_dvd _ (by exact_mod_cast hd)]
  rw [key, e1, IntKind.wrap_i64]
  have h2 := Int.emod_nonneg n (b := ((2 ^ m : Nat) : Int)) (by omega)
  have h3 := Int.emod_lt_of_pos n (b := ((2 ^ m : Nat) : Int)) (by omega)
  omega

theorem i64_and1 (n : Int) : bits .and .i64 n 1 = n % 2 := i64_and_mask n 1 (by decide)

end Go.Proofs.YtohcngiiijokkaaDoor

/- A reader of bits: Open, Taken, Left. -/
namespace Go.Proofs.YtohcngiiijokkaaDoor
open Go.RowKit

def Rd (w : World) (b : Nat) (s : ByteArray) (t : Nat) : Prop := w.heap[b]? = some (.cells #[.string s, .int .i64 t] 95 (0, 0))

/-- Nothing but draws. -/
structure Still (w w' : World) : Prop where
  heap : w'.heap = w.heap
  os : w'.os = w.os
  tape : w'.tape = w.tape
  output : w'.output = w.output

theorem Still.refl (w : World) : Still w w := ⟨rfl, rfl, rfl, rfl⟩
theorem Still.trans {a b c : World} (h : Still a b) (k : Still b c) : Still a c := ⟨k.heap.trans h.heap, k.os.trans h.os, k.tape.trans h.tape, k.output.trans h.output⟩
theorem Still.drew {w w' : World} (h : Still w w') : Still w w'.drew := ⟨h.heap, h.os, h.tape, h.output⟩
theorem Still.drewN {w w' : World} (h : Still w w') (n : Nat) : Still w (w'.drewN n) := ⟨h.heap, h.os, h.tape, h.output⟩
theorem Still.touch {w w' : World} (h : Still w w') (S : Nat → Prop) : Touch S w w' := ⟨h.os, h.tape, h.output, by rw [h.heap]; exact Nat.le_refl _, fun k _ _ => by rw [h.heap]⟩
theorem Still.rd {w w' : World} {b : Nat} {s : ByteArray} {t : Nat} (h : Still w w') (r : Rd w b s t) : Rd w' b s t := by unfold Rd; rw [h.heap]; exact r
theorem Still.size {w w' : World} (h : Still w w') : w'.heap.size = w.heap.size := by rw [h.heap]

theorem Rd.lt {w : World} {b : Nat} {s : ByteArray} {t : Nat} (r : Rd w b s t) : b < w.heap.size := lt_of_block r
theorem Rd.c0 {w : World} {b : Nat} {s : ByteArray} {t : Nat} (r : Rd w b s t) : w.cell? ⟨b, 0, none⟩ = some (.string s) := cell_two0 r
theorem Rd.c1 {w : World} {b : Nat} {s : ByteArray} {t : Nat} (r : Rd w b s t) : w.cell? ⟨b, 1, none⟩ = some (.int .i64 t) := cell_two1 r
theorem Rd.f1 {w : World} {b : Nat} {s : ByteArray} {t : Nat} (r : Rd w b s t) : w.frozen? ⟨b, 1, none⟩ = false := free_two r
theorem Rd.set {w : World} {b : Nat} {s : ByteArray} {t t' : Nat} (r : Rd w b s t) : Rd (w.setCell ⟨b, 1, none⟩ (.int .i64 t')) b s t' := two_set1 r

theorem open_any (s : ByteArray) (w : World) :
    Calls Tryd.prog 36 #[.string s] w fun e w' => e = .returned (.pointer (some ⟨w.heap.size, 0, none⟩)) ∧ w' = w.alloc (.cells #[.string s, .int .i64 0] 95) := by
  go_enter Tryd.func36, Tryd.ntmps36
  go_wp2
  go_ret
  exact ⟨rfl, rfl⟩

theorem rd_new (w : World) (s : ByteArray) : Rd (w.alloc (.cells #[.string s, .int .i64 0] 95)) w.heap.size s 0 := by
  show (w.heap.push _)[_]? = _
  simp

theorem taken_any (b : Nat) (s : ByteArray) (t : Nat) (w : World) (r : Rd w b s t) :
    Calls Tryd.prog 38 #[.pointer (some ⟨b, 0, none⟩)] w fun e w' => e = .returned (.int .i64 t) ∧ w' = w := by
  have c1 := r.c1
  go_enter Tryd.func38, Tryd.ntmps38
  go_wp2
  go_ret
  exact ⟨rfl, rfl⟩

set_option maxHeartbeats 400000 in
theorem left_any (b : Nat) (s : ByteArray) (t : Nat) (w : World) (r : Rd w b s t) (hs : s.size ≤ 140737488355328) (ht : t ≤ 8 * s.size) :
    Calls Tryd.prog 59 #[.pointer (some ⟨b, 0, none⟩)] w fun e w' => e = .returned (.int .i64 (8 * s.size - t)) ∧ Still w w' := by
  have c0 := r.c0
  have c1 := r.c1
  go_enter Tryd.func59, Tryd.ntmps59
  go_wp2
  go_region
  all_goals go_wp2
  all_goals go_ret
  all_goals exact ⟨rfl, (Still.refl _).drew⟩

theorem whole_any (n : Int) (w : World) (h0 : 0 ≤ n) (h1 : n ≤ 1125899906842632) :
    Calls Tryd.prog 60 #[.int .i64 n] w fun e w' => e = .returned (.int .i64 ((n + 7) / 8)) ∧ w' = w := by
  go_enter Tryd.func60, Tryd.ntmps60
  go_wp2
  go_ret
  exact ⟨rfl, rfl⟩
end Go.Proofs.YtohcngiiijokkaaDoor

/- Peek of a reader. -/
namespace Go.Proofs.YtohcngiiijokkaaDoor
open Go.RowKit

theorem ret_two {i j : IntKind} {a b c d : Int} (h : a = c) (k : b = d) : Ending.returned (.tuple #[.int i a, .int j b]) = .returned (.tuple #[.int i c, .int j d]) := by rw [h, k]

theorem wraps_i64 (n : Int) (h₀ : 0 ≤ n) (h₁ : n < 2 ^ 62) : IntKind.i64.wrap n = n := by rw [IntKind.wrap_i64]; omega

theorem i64_or_nat (a b : Nat) (ha : a < 2 ^ 62) (hb : b < 2 ^ 62) : bits .or .i64 (a : Int) (b : Int) = ((a ||| b : Nat) : Int) :=
  (bits_nat .i64 62 (by decide) wraps_i64 a b ha hb).2

theorem byte_get (s : ByteArray) (i : Nat) (h : i < s.size) : s[i].toNat = Bt.byteN s i := by
  unfold Bt.byteN
  have : i < s.data.size := h
  unfold Array.getD
  rw [dif_pos this]
  rfl

theorem peek_or (s : ByteArray) (f k : Nat) (hk : k ≤ 4) (h : f + k < s.size) :
    bits .or .i64 (Bt.rval s (8 * f) (8 * k) : Nat) (wrap64 (wrap64 ((s[f + k].toNat : Nat) : Int) * 2 ^ (8 * k))) = ((Bt.rval s (8 * f) (8 * (k + 1)) : Nat) : Int) := by
  have hv := Bt.rval_lt s (8 * f) (8 * k)
  have hb := Bt.byteN_lt s (f + k)
  have hp : 2 ^ (8 * k) ≤ 2 ^ 32 := Nat.pow_le_pow_right (by decide) (by omega)
  have hm : Bt.byteN s (f + k) * 2 ^ (8 * k) < 2 ^ 40 := by
    calc Bt.byteN s (f + k) * 2 ^ (8 * k) ≤ 255 * 2 ^ 32 := Nat.mul_le_mul (by omega) hp
      _ < 2 ^ 40 := by decide
  rw [byte_get s _ h]
  have e1 : wrap64 ((Bt.byteN s (f + k) : Nat) : Int) = ((Bt.byteN s (f + k) : Nat) : Int) := by unfold wrap64; omega
  have e2 : wrap64 (((Bt.byteN s (f + k) : Nat) : Int) * 2 ^ (8 * k)) = ((Bt.byteN s (f + k) * 2 ^ (8 * k) : Nat) : Int) := by
    have : ((Bt.byteN s (f + k) * 2 ^ (8 * k) : Nat) : Int) = ((Bt.byteN s (f + k) : Nat) : Int) * 2 ^ (8 * k) := by simp
    rw [← this]
    unfold wrap64
    omega
  rw [e1, e2, i64_or_nat _ _ (by omega) (by omega), Nat.or_comm, nat_join (8 * k) _ _ (by simp) hv]
  rw [show 8 * (k + 1) = 8 * k + 8 by omega, Bt.rval_add, show 8 * f + 8 * k = 8 * (f + k) by omega, Bt.rval_byte, Nat.mul_comm, Nat.add_comm]

theorem peek_and (v d m : Nat) (hm : m ≤ 32) : bits .and .i64 (((v : Nat) : Int) / 2 ^ d) (wrap64 (wrap64 (2 ^ m) - 1)) = ((v / 2 ^ d % 2 ^ m : Nat) : Int) := by
  have hp : 2 ^ m ≤ 2 ^ 32 := Nat.pow_le_pow_right (by decide) hm
  have hp0 : 0 < 2 ^ m := Nat.pow_pos (by decide)
  have hc : (2 : Int) ^ m = ((2 ^ m : Nat) : Int) := by simp
  have e : wrap64 (wrap64 (2 ^ m) - 1) = 2 ^ m - 1 := by rw [hc]; unfold wrap64; omega
  rw [e, i64_and_mask _ m (by omega)]
  simp

set_option maxHeartbeats 1000000 in
theorem peek_yes (b : Nat) (s : ByteArray) (t n : Nat) (w : World) (r : Rd w b s t) (hs : s.size ≤ 140737488355328) (ht : t ≤ 8 * s.size) (hn : n ≤ 32) :
    Calls Tryd.prog 54 #[.pointer (some ⟨b, 0, none⟩), .int .i64 n] w fun e w' => e = .returned (.tuple #[.int .i64 (Bt.rval s t (min n (8 * s.size - t))), .int .i64 (min n (8 * s.size - t) : Nat)]) ∧ Still w w' := by
  obtain ⟨m, hm⟩ : ∃ m, min n (8 * s.size - t) = m := ⟨_, rfl⟩
  have hml : m ≤ 32 ∧ m ≤ 8 * s.size - t := by omega
  have HM : Hid _ := hm
  rw [hm]
  clear hm
  go_enter Tryd.func54, Tryd.ntmps54
  go_wp2_with (first | (go_at_call 53; refine (fits_yes _ _ (by omega) (by omega)).mono ?_; rintro e w ⟨rfl, rfl⟩))
  refine (left_any b s t _ r hs ht).mono ?_
  rintro e w1 ⟨rfl, hw1⟩
  have HS : Hid _ := hw1
  have r1 := hw1.rd r
  have c0 := r1.c0
  have c1 := r1.c1
  clear r r1 hw1
  by_cases hle : (n : Int) ≤ 8 * (s.size : Int) - t
  all_goals
    go_wp2_with fail
    first
      | (have hmn : m = n := by have := HM.out; omega
         subst hmn)
      | rw [show 8 * (s.size : Int) - (t : Int) = (m : Int) by have := HM.out; omega]
    clear hle
    go_region
    all_goals go_wp2_with fail
    refine (whole_any _ _ (by omega) (by omega)).mono ?_
    rintro e w2 ⟨rfl, rfl⟩
    obtain ⟨c, hc⟩ : ∃ c : Nat, (t % 8 + m + 7) / 8 = c := ⟨_, rfl⟩
    rw [show ((t : Int) % 8 + (m : Int) + 7) / 8 = (c : Int) by omega]
    have HC : Hid _ := hc
    have hcs : t / 8 + c ≤ s.size := by omega
    have hc5 : c ≤ 5 := by omega
    clear hc
    go_wp2_with fail
    go_loop [9, 36] (fun v i => ∃ k : Nat, k ≤ c ∧ i = .int .i64 k ∧ v = .int .i64 (Bt.rval s (8 * (t / 8)) (8 * k))) (fun _ i => c - (intOf i).toNat)
    case atStart => exact ⟨0, Nat.zero_le _, rfl, rfl⟩
    case round =>
      obtain ⟨k, hk, rfl, rfl⟩ := hrel
      by_cases hlt : k < c
      · have hix : t / 8 + k < s.size := by omega
        go_wp2
        go_round
        case rel => exact ⟨k + 1, by omega, by go_num, by rw [peek_or s (t / 8) k (by omega) hix]⟩
        case measure => simp [intOf]; omega
      · obtain rfl : k = c := by omega
        go_wp2
        go_region
        all_goals go_wp2
        all_goals go_ret2
        all_goals exact ⟨ret_two (by rw [peek_and _ _ _ hml.1, Bt.rval_peek s t m k (by have := HC.out; omega)]) rfl, HS.out.drew.drew⟩
end Go.Proofs.YtohcngiiijokkaaDoor

/- checkRoom: whether so many codes of each length take the room that there is; condition: at most 1024 of each. -/
namespace Go.Proofs.YtohcngiiijokkaaDoor
open Go.RowKit

theorem hid {p : Prop} (h : p) : Hid p := h
theorem ret_int {k : IntKind} {a b : Int} (h : a = b) : Ending.returned (.int k a) = .returned (.int k b) := by rw [h]
theorem info3 : (Tryd.prog.info? 3).map (fun i => (i.zero, i.size, i.bytes)) = some (some (.int .i64 0), 1, 8) := by kernel_rfl

theorem run_index16 (cs : Array Value) (i : Nat) (x : Int) (w : World) (hi : i < 16) (hx : cs[i]? = some (.int .i64 x)) : (Instr.index 134 (.agg cs) (.int .i64 (i : Int))).run Tryd.prog w = .ok (.int .i64 x) w := by
  obtain ⟨i0, h1, hz0, hz1, hz2⟩ := info_parts info3
  simp [Instr.index, run_underlying Tryd.underlying134, asIntOf, go_sem, part, sizeOf, typeInfo, h1, hz1, hi]
  rw [hx]
  simp [Sem.run_pure]

/-- So many of each length, as an array. -/
def cArr (c : Nat → Nat) : Array Value := #[.int .i64 (c 0), .int .i64 (c 1), .int .i64 (c 2), .int .i64 (c 3), .int .i64 (c 4), .int .i64 (c 5), .int .i64 (c 6), .int .i64 (c 7), .int .i64 (c 8), .int .i64 (c 9), .int .i64 (c 10), .int .i64 (c 11), .int .i64 (c 12), .int .i64 (c 13), .int .i64 (c 14), .int .i64 (c 15)]

theorem cArr_get (c : Nat → Nat) (i : Nat) (h : i < 16) : (cArr c)[i]? = some (.int .i64 (c i)) := by
  unfold cArr
  rcases (show i = 0 ∨ i = 1 ∨ i = 2 ∨ i = 3 ∨ i = 4 ∨ i = 5 ∨ i = 6 ∨ i = 7 ∨ i = 8 ∨ i = 9 ∨ i = 10 ∨ i = 11 ∨ i = 12 ∨ i = 13 ∨ i = 14 ∨ i = 15 by omega) with rfl | rfl | rfl | rfl | rfl | rfl | rfl | rfl | rfl | rfl | rfl | rfl | rfl | rfl | rfl | rfl <;> rfl

/-- The room that the first lengths take; how many codes they are. -/
def roomTo (c : Nat → Nat) : Nat → Nat
  | 0 => 0
  | k + 1 => roomTo c k + c k * 2 ^ (15 - k)
def sumTo (c : Nat → Nat) : Nat → Nat
  | 0 => 0
  | k + 1 => sumTo c k + c k

theorem roomTo_le (c : Nat → Nat) (hc : ∀ i, c i ≤ 1024) : ∀ k, roomTo c k ≤ k * 33554432
  | 0 => by simp [roomTo]
  | k + 1 => by
    have h1 := roomTo_le c hc k
    have h2 : 2 ^ (15 - k) ≤ 2 ^ 15 := Nat.pow_le_pow_right (by decide) (by omega)
    have h3 : c k * 2 ^ (15 - k) ≤ 1024 * 2 ^ 15 := Nat.mul_le_mul (hc k) h2
    simp only [roomTo]
    omega
theorem sumTo_le (c : Nat → Nat) (hc : ∀ i, c i ≤ 1024) : ∀ k, sumTo c k ≤ k * 1024
  | 0 => by simp [sumTo]
  | k + 1 => by have := sumTo_le c hc k; have := hc k; simp only [sumTo]; omega

theorem room_step (c : Nat → Nat) (k : Nat) (hc : c k ≤ 1024) (hk : k < 16) (hr : roomTo c k ≤ k * 33554432) : wrap64 ((roomTo c k : Int) + wrap64 ((c k : Int) * 2 ^ (15 - k))) = ((roomTo c (k + 1) : Nat) : Int) := by
  have h2 : 2 ^ (15 - k) ≤ 2 ^ 15 := Nat.pow_le_pow_right (by decide) (by omega)
  have h3 : c k * 2 ^ (15 - k) ≤ 1024 * 2 ^ 15 := Nat.mul_le_mul hc h2
  have e : (c k : Int) * 2 ^ (15 - k) = ((c k * 2 ^ (15 - k) : Nat) : Int) := by simp
  rw [e]
  simp only [roomTo]
  unfold wrap64
  omega

def roomErr (c : Nat → Nat) : Nat :=
  if 32768 < roomTo c 16 then 6 else if roomTo c 16 = 32768 ∨ sumTo c 16 = 0 ∨ (sumTo c 16 = 1 ∧ c 1 = 1) then 0 else 7

set_option maxRecDepth 100000 in
set_option maxHeartbeats 4000000 in
theorem room_any (c : Nat → Nat) (w : World) (hc : ∀ i, c i ≤ 1024) :
    Calls Tryd.prog 78 #[.agg (cArr c)] w fun e w' => e = .returned (.int .i64 (roomErr c : Nat)) ∧ Touch (fun _ => False) w w' := by
  have HC := hid hc
  clear hc
  obtain ⟨r, hr⟩ : ∃ r, roomErr c = r := ⟨_, rfl⟩
  have HR := hid hr
  rw [hr]
  clear hr
  unfold cArr
  go_enter Tryd.func78, Tryd.ntmps78
  go_wp2_with fail
  rw [show #[Value.int IntKind.i64 (c 0), .int .i64 (c 1), .int .i64 (c 2), .int .i64 (c 3), .int .i64 (c 4), .int .i64 (c 5), .int .i64 (c 6), .int .i64 (c 7), .int .i64 (c 8), .int .i64 (c 9), .int .i64 (c 10), .int .i64 (c 11), .int .i64 (c 12), .int .i64 (c 13), .int .i64 (c 14), .int .i64 (c 15)] = cArr c from rfl]
  obtain ⟨w1, hw1⟩ : ∃ w1, w1 = w.alloc (.cells (cArr c) 134) := ⟨_, rfl⟩
  have hb : w1.heap[w.heap.size]? = some (.cells (cArr c) 134) := by rw [hw1]; show (w.heap.push _)[_]? = _; simp
  have h1 : w1.cell? ⟨w.heap.size, 1, none⟩ = some (.int .i64 (c 1)) := by simp [World.cell?, hb, cArr_get]
  have T1 : Hid (Touch (fun _ => False) w w1) := by rw [hw1]; exact (Touch.refl _ w).alloc _
  rw [← hw1]
  clear hw1 hb
  go_loop [3, 4, 8] (fun t n i => ∃ k : Nat, k ≤ 16 ∧ i = .int .i64 k ∧ t = .int .i64 (roomTo c k : Nat) ∧ n = .int .i64 (sumTo c k : Nat)) (fun _ _ i => 16 - (intOf i).toNat)
  case atStart => exact ⟨0, by decide, rfl, rfl, rfl⟩
  case round =>
    obtain ⟨k, hk, rfl, rfl, rfl⟩ := hrel
    have hrl := roomTo_le c HC.out k
    have hsl := sumTo_le c HC.out k
    by_cases hlt : k < 16
    · have hidx := run_index16 (cArr c) k (c k) w1 hlt (cArr_get c k hlt)
      have hck := HC.out k
      have h2 : 2 ^ (15 - k) ≤ 2 ^ 15 := Nat.pow_le_pow_right (by decide) (by omega)
      have h3 : c k * 2 ^ (15 - k) ≤ 1024 * 2 ^ 15 := Nat.mul_le_mul hck h2
      have hsh : (0 : Int) ≤ 15 - (k : Int) := by omega
      clear h2
      have hst := room_step c k hck hlt hrl
      have HST := hid hst
      clear hst h3
      go_wp2
      go_round
      case rel => exact ⟨k + 1, by omega, by go_num, by rw [HST.out], by simp only [sumTo]; go_num⟩
      case measure => simp [intOf]; omega
    · obtain rfl : k = 16 := by omega
      have RR := HR.out
      unfold roomErr at RR
      have HRR := hid RR
      clear RR hrl hsl
      generalize roomTo c 16 = rt at *
      generalize sumTo c 16 = st at *
      generalize c 1 = cc at *
      clear HC
      by_cases e1 : 32768 < rt
      · have E := hid e1
        go_wp2
        go_ret
        exact ⟨ret_int (by have := HRR.out; rw [if_pos E.out] at this; omega), T1.out⟩
      · have q1 : ¬ (32768 : Int) < (rt : Int) := by omega
        by_cases e2 : rt = 32768
        · have q2 : ((rt : Int) == 32768) = true := by simp; omega
          have E : Hid (r = 0) := by have := HRR.out; rw [if_neg e1, if_pos (.inl e2)] at this; exact this.symm
          clear e2 e1
          go_wp2
          go_ret
          exact ⟨ret_int (by have := E.out; omega), T1.out⟩
        · have q2 : ((rt : Int) == 32768) = false := by simp; omega
          by_cases e3 : st = 0
          · have q3 : ((st : Int) == 0) = true := by simp; omega
            have E : Hid (r = 0) := by have := HRR.out; rw [if_neg e1, if_pos (.inr (.inl e3))] at this; exact this.symm
            clear e1 e2 e3
            go_wp2
            go_ret
            exact ⟨ret_int (by have := E.out; omega), T1.out⟩
          · have q3 : ((st : Int) == 0) = false := by simp; omega
            by_cases e4 : st = 1
            · have q4 : ((st : Int) == 1) = true := by simp; omega
              by_cases e5 : cc = 1
              · have q5 : ((cc : Int) == 1) = true := by simp; omega
                have E : Hid (r = 0) := by have := HRR.out; rw [if_neg e1, if_pos (.inr (.inr ⟨e4, e5⟩))] at this; exact this.symm
                clear e1 e2 e3 e4 e5
                go_wp2
                go_ret
                exact ⟨ret_int (by have := E.out; omega), T1.out⟩
              · have q5 : ((cc : Int) == 1) = false := by simp; omega
                have E : Hid (r = 7) := by have := HRR.out; rw [if_neg e1, if_neg (by omega)] at this; exact this.symm
                clear e1 e2 e3 e4 e5
                go_wp2
                go_ret
                exact ⟨ret_int (by have := E.out; omega), T1.out⟩
            · have q4 : ((st : Int) == 1) = false := by simp; omega
              have E : Hid (r = 7) := by have := HRR.out; rw [if_neg e1, if_neg (by omega)] at this; exact this.symm
              clear e1 e2 e3 e4
              go_wp2
              go_ret
              exact ⟨ret_int (by have := E.out; omega), T1.out⟩
end Go.Proofs.YtohcngiiijokkaaDoor

/- The checksum: Sum and lowSum of any text; conditions: those told. -/
namespace Go.Proofs.YtohcngiiijokkaaDoor
open Go.RowKit

def quartC : Array Value := #[.int .u32 0, .int .u32 498536548, .int .u32 997073096, .int .u32 651767980, .int .u32 1994146192, .int .u32 1802195444, .int .u32 1303535960, .int .u32 1342533948, .int .u32 3988292384, .int .u32 4027552580, .int .u32 3604390888, .int .u32 3412177804, .int .u32 2607071920, .int .u32 2262029012, .int .u32 2685067896, .int .u32 3183342108]
/-- The table lies where it was laid. -/
def Quart (w : World) : Prop := ∃ t, w.heap[0]? = some (.cells quartC t (0, 0))
theorem Quart.new {w w' : World} {S : Nat → Prop} (h : Quart w) (t : Touch S w w') (h0 : ¬ S 0) : Quart w' := by
  obtain ⟨ty, h⟩ := h
  exact ⟨ty, (t.block 0 (lt_of_block h) h0).trans h⟩
theorem quart_at : ∀ i : Fin 16, quartC[i.val]? = some (.int .u32 ((Gz.q16.getD i.val 0 : Nat) : Int)) := by
  intro i
  have : ∀ j, j < 16 → quartC[j]? = some (.int .u32 ((Gz.q16.getD j 0 : Nat) : Int)) := by
    intro j hj
    rcases (show j = 0 ∨ j = 1 ∨ j = 2 ∨ j = 3 ∨ j = 4 ∨ j = 5 ∨ j = 6 ∨ j = 7 ∨ j = 8 ∨ j = 9 ∨ j = 10 ∨ j = 11 ∨ j = 12 ∨ j = 13 ∨ j = 14 ∨ j = 15 by omega) with h | h | h | h | h | h | h | h | h | h | h | h | h | h | h | h <;> subst h <;> rfl
  exact this i.val i.isLt
theorem Quart.cell {w : World} (h : Quart w) (i : Nat) (hi : i < 16) : w.cell? ⟨0, i, none⟩ = some (.int .u32 ((Gz.q16.getD i 0 : Nat) : Int)) := by
  obtain ⟨t, h⟩ := h
  simp only [World.cell?, h, Option.isSome_none, Bool.false_eq_true, if_false]
  exact quart_at ⟨i, hi⟩
theorem u32_xor (a b : Nat) (ha : a < 2 ^ 32) (hb : b < 2 ^ 32) : bits .xor .u32 (a : Int) (b : Int) = ((a ^^^ b : Nat) : Int) := by
  have hx := Nat.xor_lt_two_pow ha hb
  show IntKind.u32.wrap ((BitVec.ofInt 32 (a : Int) ^^^ BitVec.ofInt 32 (b : Int)).toNat : Int) = _
  rw [BitVec.toNat_xor, BitVec.ofInt_natCast, BitVec.ofInt_natCast, BitVec.toNat_ofNat, BitVec.toNat_ofNat, Nat.mod_eq_of_lt ha, Nat.mod_eq_of_lt hb, IntKind.wrap_u32]
  omega
theorem u32_not (c : Nat) (hc : c < 2 ^ 32) : bits .xor .u32 IntKind.u32.max (c : Int) = ((4294967295 - c : Nat) : Int) := by
  have h1 : IntKind.u32.max = ((4294967295 : Nat) : Int) := by decide
  have h2 : 4294967295 ^^^ c = 4294967295 - c := by
    apply Nat.eq_of_testBit_eq
    intro i
    have e1 : 4294967295 - c = 2 ^ 32 - (c + 1) := by omega
    have e2 : (4294967295 : Nat) = 2 ^ 32 - 1 := by decide
    rw [e1, Nat.testBit_two_pow_sub_succ hc, Nat.testBit_xor, e2, Nat.testBit_two_pow_sub_one]
    by_cases hi : i < 32
    · simp [hi]
    · have h3 : c.testBit i = false := Nat.testBit_lt_two_pow (Nat.lt_of_lt_of_le hc (Nat.pow_le_pow_right (by decide) (by omega)))
      simp [hi, h3]
  rw [h1, u32_xor 4294967295 c (by decide) hc, h2]
set_option maxRecDepth 100000 in
set_option maxHeartbeats 4000000 in
/-- Sum, of any text. -/
theorem sum_any (s : ByteArray) (hs : s.size ≤ 140737488355328) (w : World) (hq : Quart w) :
    Calls Tryd.prog 10 #[.string s] w fun e w' => e = .returned (.int .i64 ((Gz.sum s : Nat) : Int)) ∧ w = w' := by
  have HQ := hid hq
  clear hq
  go_enter Tryd.func10, Tryd.ntmps10
  go_wp2_with fail
  go_loopg [3, 7] s.size (fun gk v3 v7 wq => ∃ i : Nat, i + gk = s.size ∧ v7 = .int .i64 (i : Nat) ∧ v3 = .int .u32 ((Gz.crcTo s i : Nat) : Int) ∧ w = wq)
  case atStart => exact ⟨0, by omega, rfl, rfl, rfl⟩
  case round =>
    obtain ⟨i, hi, rfl, rfl, rfl⟩ := hrel
    by_cases hlt : i < s.size
    · obtain ⟨gk, rfl⟩ : ∃ j, gk = j + 1 := ⟨gk - 1, by omega⟩
      have hltI : (i : Int) < (s.size : Int) := by omega
      have hbg := byte_get s i hlt
      have hb := Bt.byteN_lt s i
      have hc := Gz.crcTo_lt s i
      have HN := hid (show Gz.crcTo s (i + 1) = Gz.cbyte (Gz.crcTo s i) (Bt.byteN s i) from rfl)
      generalize Gz.crcTo s i = c at *
      generalize Bt.byteN s i = b at *
      have hx0 := u32_xor c b hc (by omega)
      have hlt0 : c ^^^ b < 2 ^ 32 := Nat.xor_lt_two_pow hc (by omega)
      obtain ⟨d, hd⟩ : ∃ d, d = c ^^^ b := ⟨_, rfl⟩
      rw [← hd] at hx0 hlt0
      have hq1 := HQ.out.cell (d % 16) (by omega)
      have hx1 := u32_xor (d / 16) (Gz.q16.getD (d % 16) 0) (by omega) (Gz.q16_lt _)
      have hlt1 : Gz.half d < 2 ^ 32 := Gz.half_lt hlt0
      have hh1 : d / 16 ^^^ Gz.q16.getD (d % 16) 0 = Gz.half d := rfl
      rw [hh1, show ((d / 16 : Nat) : Int) = (d : Int) / 16 by omega] at hx1
      obtain ⟨e, he⟩ : ∃ e, e = Gz.half d := ⟨_, rfl⟩
      rw [← he] at hx1 hlt1
      have hq2 := HQ.out.cell (e % 16) (by omega)
      have hx2 := u32_xor (e / 16) (Gz.q16.getD (e % 16) 0) (by omega) (Gz.q16_lt _)
      have hh2 : e / 16 ^^^ Gz.q16.getD (e % 16) 0 = Gz.half e := rfl
      rw [hh2, show ((e / 16 : Nat) : Int) = (e : Int) / 16 by omega] at hx2
      replace HN := hid (show Gz.crcTo s (i + 1) = Gz.half e by rw [HN.out, he, hd]; rfl)
      generalize Gz.q16.getD (d % 16) 0 = q1 at *
      generalize Gz.q16.getD (e % 16) 0 = q2 at *
      clear hh1 hh2 hd he
      go_wp2
      go_roundg gk
      case measure => omega
      case rel => exact ⟨i + 1, by omega, by go_num, by rw [HN.out], rfl⟩
    · have hltI : ¬ ((i : Int) < (s.size : Int)) := by omega
      have hc := Gz.crcTo_lt s i
      obtain rfl : i = s.size := by omega
      have HE := hid (show Gz.sum s = 4294967295 - Gz.crcTo s s.size from rfl)
      generalize Gz.crcTo s s.size = c at *
      have hx := u32_not c hc
      obtain ⟨n, hn⟩ : ∃ n, n = 4294967295 - c := ⟨_, rfl⟩
      rw [← hn] at hx HE
      have hn2 : n < 4294967296 := by omega
      clear hn
      go_wp2
      go_ret
      refine ⟨?_, rfl⟩
      rw [HE.out]
      show Ending.returned (.int .i64 (wrap64 (n : Int))) = _
      rw [show wrap64 (n : Int) = (n : Int) by unfold wrap64; omega]
theorem i64_and_nat (a b : Nat) (ha : a < 2 ^ 62) (hb : b < 2 ^ 62) : bits .and .i64 (a : Int) (b : Int) = ((a &&& b : Nat) : Int) :=
  (bits_nat .i64 62 (by decide) (fun n h0 h1 => by rw [IntKind.wrap_i64]; omega) a b ha hb).1
set_option maxRecDepth 100000 in
theorem lowSum_any (s : ByteArray) (hs : s.size ≤ 140737488355328) (w : World) (hq : Quart w) :
    Calls Tryd.prog 28 #[.string s] w fun e w' => e = .returned (.int .i64 ((Gz.sum s % 65536 : Nat) : Int)) ∧ w = w' := by
  have K := hid (sum_any s hs w hq)
  have hl := Gz.sum_lt s
  have ha := i64_and_nat (Gz.sum s) 65535 (by omega) (by decide)
  rw [show (65535 : Nat) = 2 ^ 16 - 1 by decide, Nat.and_two_pow_sub_one_eq_mod] at ha
  generalize Gz.sum s = c at *
  go_enter Tryd.func28, Tryd.ntmps28
  go_wp2_with fail
  refine K.out.mono ?_
  rintro e w1 ⟨rfl, rfl⟩
  clear K
  go_wp2
  go_ret
  exact ⟨by first | rfl | (rw [← ha]; rfl), rfl⟩
end Go.Proofs.YtohcngiiijokkaaDoor
