/- Texts of this proof, one behind the other: what each says stands ahead of it. -/
import Derived.Test.YtlnpbcpajllkbaaGreatDoorM1
import Derived.Test.YtlnpbcpajllkbaaGreatDoorM0
import Derived.WalkKit
import Derived.Deep.LoopGhost
import Derived.Deep.DeepCutAuto
import Derived.Laws.BitsLemmas
import Derived.Test.YtlnpbcpajllkbaaGreatDoorCards
import Derived.Test.YtlnpbcpajllkbaaGreatDoorTie
import Derived.ProofKit
import Derived.OpenShut
import Derived.ShutString
import Derived.Below
import Derived.Carry
import Derived.ChangeArms
import Derived.ChangeSame
import Derived.ChangeOld
import Derived.Deep.Slices
import Derived.Lib.SmallJoins
import Derived.Deep.DeepHandedRow
import Derived.Lib.LaidTab
import Derived.SevenTiedAt
/- checkRoom: whether so many codes of each length take the room that there is; condition: at most 1024 of each. -/
namespace Go.Proofs.YtlnpbcpajllkbaaGreatDoor
open Go.RowKit

theorem hid {p : Prop} (h : p) : Hid p := h
theorem ret_int {k : IntKind} {a b : Int} (h : a = b) : Ending.returned (.int k a) = .returned (.int k b) := by rw [h]
theorem info3 : (Tryz.prog.info? 3).map (fun i => (i.zero, i.size, i.bytes)) = some (some (.int .i64 0), 1, 8) := by kernel_rfl

theorem run_index16 (cs : Array Value) (i : Nat) (x : Int) (w : World) (hi : i < 16) (hx : cs[i]? = some (.int .i64 x)) : (Instr.index 150 (.agg cs) (.int .i64 (i : Int))).run Tryz.prog w = .ok (.int .i64 x) w := by
  obtain ⟨i0, h1, hz0, hz1, hz2⟩ := info_parts info3
  simp [Instr.index, run_underlying Tryz.underlying150, asIntOf, go_sem, part, sizeOf, typeInfo, h1, hz1, hi]
  rw [hx]
  simp [Sem.run_pure]

/-- So many of each length, as an array. -/
def cArr (c : Nat → Nat) : Array Value := #[.int .i64 (c 0), .int .i64 (c 1), .int .i64 (c 2), .int .i64 (c 3), .int .i64 (c 4), .int .i64 (c 5), .int .i64 (c 6), .int .i64 (c 7), .int .i64 (c 8), .int .i64 (c 9), .int .i64 (c 10), .int .i64 (c 11), .int .i64 (c 12), .int .i64 (c 13), .int .i64 (c 14), .int .i64 (c 15)]

theorem cArr_get (c : Nat → Nat) (i : Nat) (h : i < 16) : (cArr c)[i]? = some (.int .i64 (c i)) := by
  unfold cArr
  rcases (show i = 0 ∨ i = 1 ∨ i = 2 ∨ i = 3 ∨ i = 4 ∨ i = 5 ∨ i = 6 ∨ i = 7 ∨ i = 8 ∨ i = 9 ∨ i = 10 ∨ i = 11 ∨ i = 12 ∨ i = 13 ∨ i = 14 ∨ i = 15 by omega) with rfl | rfl | rfl | rfl | rfl | rfl | rfl | rfl | rfl | rfl | rfl | rfl | rfl | rfl | rfl | rfl <;> rfl

/-- The room that the first lengths take; how many codes they are. -/
def roomTo (c : Nat → Nat) : Nat → Nat
  | 0 => 0
  | k + 1 => roomTo c k + c k * 2 ^ (15 - k)
def sumTo (c : Nat → Nat) : Nat → Nat
  | 0 => 0
  | k + 1 => sumTo c k + c k

theorem roomTo_le (c : Nat → Nat) (hc : ∀ i, c i ≤ 1024) : ∀ k, roomTo c k ≤ k * 33554432
  | 0 => by simp [roomTo]
  | k + 1 => by
    have h1 := roomTo_le c hc k
    have h2 : 2 ^ (15 - k) ≤ 2 ^ 15 := Nat.pow_le_pow_right (by decide) (by omega)
    have h3 : c k * 2 ^ (15 - k) ≤ 1024 * 2 ^ 15 := Nat.mul_le_mul (hc k) h2
    simp only [roomTo]
    omega
theorem sumTo_le (c : Nat → Nat) (hc : ∀ i, c i ≤ 1024) : ∀ k, sumTo c k ≤ k * 1024
  | 0 => by simp [sumTo]
  | k + 1 => by have := sumTo_le c hc k; have := hc k; simp only [sumTo]; omega

theorem room_step (c : Nat → Nat) (k : Nat) (hc : c k ≤ 1024) (hk : k < 16) (hr : roomTo c k ≤ k * 33554432) : wrap64 ((roomTo c k : Int) + wrap64 ((c k : Int) * 2 ^ (15 - k))) = ((roomTo c (k + 1) : Nat) : Int) := by
  have h2 : 2 ^ (15 - k) ≤ 2 ^ 15 := Nat.pow_le_pow_right (by decide) (by omega)
  have h3 : c k * 2 ^ (15 - k) ≤ 1024 * 2 ^ 15 := Nat.mul_le_mul hc h2
  have e : (c k : Int) * 2 ^ (15 - k) = ((c k * 2 ^ (15 - k) : Nat) : Int) := by simp
  rw [e]
  simp only [roomTo]
  unfold wrap64
  omega

def roomErr (c : Nat → Nat) : Nat :=
  if 32768 < roomTo c 16 then 6 else if roomTo c 16 = 32768 ∨ sumTo c 16 = 0 ∨ (sumTo c 16 = 1 ∧ c 1 = 1) then 0 else 7

set_option maxRecDepth 100000 in
set_option maxHeartbeats 4000000 in
theorem room_any (c : Nat → Nat) (w : World) (hc : ∀ i, c i ≤ 1024) :
    Calls Tryz.prog 73 #[.agg (cArr c)] w fun e w' => e = .returned (.int .i64 (roomErr c : Nat)) ∧ Touch (fun _ => False) w w' := by
  have HC := hid hc
  clear hc
  obtain ⟨r, hr⟩ : ∃ r, roomErr c = r := ⟨_, rfl⟩
  have HR := hid hr
  rw [hr]
  clear hr
  unfold cArr
  go_enter Tryz.func73, Tryz.ntmps73
  go_wp2_with fail
  rw [show #[Value.int IntKind.i64 (c 0), .int .i64 (c 1), .int .i64 (c 2), .int .i64 (c 3), .int .i64 (c 4), .int .i64 (c 5), .int .i64 (c 6), .int .i64 (c 7), .int .i64 (c 8), .int .i64 (c 9), .int .i64 (c 10), .int .i64 (c 11), .int .i64 (c 12), .int .i64 (c 13), .int .i64 (c 14), .int .i64 (c 15)] = cArr c from rfl]
  obtain ⟨w1, hw1⟩ : ∃ w1, w1 = w.alloc (.cells (cArr c) 150) := ⟨_, rfl⟩
  have hb : w1.heap[w.heap.size]? = some (.cells (cArr c) 150) := by rw [hw1]; show (w.heap.push _)[_]? = _; simp
  have h1 : w1.cell? ⟨w.heap.size, 1, none⟩ = some (.int .i64 (c 1)) := by simp [World.cell?, hb, cArr_get]
  have T1 : Hid (Touch (fun _ => False) w w1) := by rw [hw1]; exact (Touch.refl _ w).alloc _
  rw [← hw1]
  clear hw1 hb
  go_loop [3, 4, 8] (fun t n i => ∃ k : Nat, k ≤ 16 ∧ i = .int .i64 k ∧ t = .int .i64 (roomTo c k : Nat) ∧ n = .int .i64 (sumTo c k : Nat)) (fun _ _ i => 16 - (intOf i).toNat)
  case atStart => exact ⟨0, by decide, rfl, rfl, rfl⟩
  case round =>
    obtain ⟨k, hk, rfl, rfl, rfl⟩ := hrel
    have hrl := roomTo_le c HC.out k
    have hsl := sumTo_le c HC.out k
    by_cases hlt : k < 16
    · have hidx := run_index16 (cArr c) k (c k) w1 hlt (cArr_get c k hlt)
      have hck := HC.out k
      have h2 : 2 ^ (15 - k) ≤ 2 ^ 15 := Nat.pow_le_pow_right (by decide) (by omega)
      have h3 : c k * 2 ^ (15 - k) ≤ 1024 * 2 ^ 15 := Nat.mul_le_mul hck h2
      have hsh : (0 : Int) ≤ 15 - (k : Int) := by omega
      clear h2
      have hst := room_step c k hck hlt hrl
      have HST := hid hst
      clear hst h3
      go_wp2
      go_round
      case rel => exact ⟨k + 1, by omega, by go_num, by rw [HST.out], by simp only [sumTo]; go_num⟩
      case measure => simp [intOf]; omega
    · obtain rfl : k = 16 := by omega
      have RR := HR.out
      unfold roomErr at RR
      have HRR := hid RR
      clear RR hrl hsl
      generalize roomTo c 16 = rt at *
      generalize sumTo c 16 = st at *
      generalize c 1 = cc at *
      clear HC
      by_cases e1 : 32768 < rt
      · have E := hid e1
        go_wp2
        go_ret
        exact ⟨ret_int (by have := HRR.out; rw [if_pos E.out] at this; omega), T1.out⟩
      · have q1 : ¬ (32768 : Int) < (rt : Int) := by omega
        by_cases e2 : rt = 32768
        · have q2 : ((rt : Int) == 32768) = true := by simp; omega
          have E : Hid (r = 0) := by have := HRR.out; rw [if_neg e1, if_pos (.inl e2)] at this; exact this.symm
          clear e2 e1
          go_wp2
          go_ret
          exact ⟨ret_int (by have := E.out; omega), T1.out⟩
        · have q2 : ((rt : Int) == 32768) = false := by simp; omega
          by_cases e3 : st = 0
          · have q3 : ((st : Int) == 0) = true := by simp; omega
            have E : Hid (r = 0) := by have := HRR.out; rw [if_neg e1, if_pos (.inr (.inl e3))] at this; exact this.symm
            clear e1 e2 e3
            go_wp2
            go_ret
            exact ⟨ret_int (by have := E.out; omega), T1.out⟩
          · have q3 : ((st : Int) == 0) = false := by simp; omega
            by_cases e4 : st = 1
            · have q4 : ((st : Int) == 1) = true := by simp; omega
              by_cases e5 : cc = 1
              · have q5 : ((cc : Int) == 1) = true := by simp; omega
                have E : Hid (r = 0) := by have := HRR.out; rw [if_neg e1, if_pos (.inr (.inr ⟨e4, e5⟩))] at this; exact this.symm
                clear e1 e2 e3 e4 e5
                go_wp2
                go_ret
                exact ⟨ret_int (by have := E.out; omega), T1.out⟩
              · have q5 : ((cc : Int) == 1) = false := by simp; omega
                have E : Hid (r = 7) := by have := HRR.out; rw [if_neg e1, if_neg (by omega)] at this; exact this.symm
                clear e1 e2 e3 e4 e5
                go_wp2
                go_ret
                exact ⟨ret_int (by have := E.out; omega), T1.out⟩
            · have q4 : ((st : Int) == 1) = false := by simp; omega
              have E : Hid (r = 7) := by have := HRR.out; rw [if_neg e1, if_neg (by omega)] at this; exact this.symm
              clear e1 e2 e3 e4
              go_wp2
              go_ret
              exact ⟨ret_int (by have := E.out; omega), T1.out⟩
end Go.Proofs.YtlnpbcpajllkbaaGreatDoor

/- The checksum: Sum and lowSum of any text; conditions: those told. -/
namespace Go.Proofs.YtlnpbcpajllkbaaGreatDoor
open Go.RowKit

def quartC : Array Value := #[.int .u32 0, .int .u32 498536548, .int .u32 997073096, .int .u32 651767980, .int .u32 1994146192, .int .u32 1802195444, .int .u32 1303535960, .int .u32 1342533948, .int .u32 3988292384, .int .u32 4027552580, .int .u32 3604390888, .int .u32 3412177804, .int .u32 2607071920, .int .u32 2262029012, .int .u32 2685067896, .int .u32 3183342108]
/-- The table lies where it was laid. -/
def Quart (w : World) : Prop := ∃ t, w.heap[0]? = some (.cells quartC t (0, 0))
theorem Quart.new {w w' : World} {S : Nat → Prop} (h : Quart w) (t : Touch S w w') (h0 : ¬ S 0) : Quart w' := by
  obtain ⟨ty, h⟩ := h
  exact ⟨ty, (t.block 0 (lt_of_block h) h0).trans h⟩
theorem quart_at : ∀ i : Fin 16, quartC[i.val]? = some (.int .u32 ((Gz.q16.getD i.val 0 : Nat) : Int)) := by
  intro i
  have : ∀ j, j < 16 → quartC[j]? = some (.int .u32 ((Gz.q16.getD j 0 : Nat) : Int)) := by
    intro j hj
    rcases (show j = 0 ∨ j = 1 ∨ j = 2 ∨ j = 3 ∨ j = 4 ∨ j = 5 ∨ j = 6 ∨ j = 7 ∨ j = 8 ∨ j = 9 ∨ j = 10 ∨ j = 11 ∨ j = 12 ∨ j = 13 ∨ j = 14 ∨ j = 15 by omega) with h | h | h | h | h | h | h | h | h | h | h | h | h | h | h | h <;> subst h <;> rfl
  exact this i.val i.isLt
theorem Quart.cell {w : World} (h : Quart w) (i : Nat) (hi : i < 16) : w.cell? ⟨0, i, none⟩ = some (.int .u32 ((Gz.q16.getD i 0 : Nat) : Int)) := by
  obtain ⟨t, h⟩ := h
  simp only [World.cell?, h, Option.isSome_none, Bool.false_eq_true, if_false]
  exact quart_at ⟨i, hi⟩
theorem u32_xor (a b : Nat) (ha : a < 2 ^ 32) (hb : b < 2 ^ 32) : bits .xor .u32 (a : Int) (b : Int) = ((a ^^^ b : Nat) : Int) := by
  have hx := Nat.xor_lt_two_pow ha hb
  show IntKind.u32.wrap ((BitVec.ofInt 32 (a : Int) ^^^ BitVec.ofInt 32 (b : Int)).toNat : Int) = _
  rw [BitVec.toNat_xor, BitVec.ofInt_natCast, BitVec.ofInt_natCast, BitVec.toNat_ofNat, BitVec.toNat_ofNat, Nat.mod_eq_of_lt ha, Nat.mod_eq_of_lt hb, IntKind.wrap_u32]
  omega
theorem u32_not (c : Nat) (hc : c < 2 ^ 32) : bits .xor .u32 IntKind.u32.max (c : Int) = ((4294967295 - c : Nat) : Int) := by
  have h1 : IntKind.u32.max = ((4294967295 : Nat) : Int) := by decide
  have h2 : 4294967295 ^^^ c = 4294967295 - c := by
    apply Nat.eq_of_testBit_eq
    intro i
    have e1 : 4294967295 - c = 2 ^ 32 - (c + 1) := by omega
    have e2 : (4294967295 : Nat) = 2 ^ 32 - 1 := by decide
    rw [e1, Nat.testBit_two_pow_sub_succ hc, Nat.testBit_xor, e2, Nat.testBit_two_pow_sub_one]
    by_cases hi : i < 32
    · simp [hi]
    · have h3 : c.testBit i = false := Nat.testBit_lt_two_pow (Nat.lt_of_lt_of_le hc (Nat.pow_le_pow_right (by decide) (by omega)))
      simp [hi, h3]
  rw [h1, u32_xor 4294967295 c (by decide) hc, h2]
set_option maxRecDepth 100000 in
set_option maxHeartbeats 4000000 in
/-- Sum, of any text. -/
theorem sum_any (s : ByteArray) (hs : s.size ≤ 140737488355328) (w : World) (hq : Quart w) :
    Calls Tryz.prog 10 #[.string s] w fun e w' => e = .returned (.int .i64 ((Gz.sum s : Nat) : Int)) ∧ w = w' := by
  have HQ := hid hq
  clear hq
  go_enter Tryz.func10, Tryz.ntmps10
  go_wp2_with fail
  go_loopg [3, 7] s.size (fun gk v3 v7 wq => ∃ i : Nat, i + gk = s.size ∧ v7 = .int .i64 (i : Nat) ∧ v3 = .int .u32 ((Gz.crcTo s i : Nat) : Int) ∧ w = wq)
  case atStart => exact ⟨0, by omega, rfl, rfl, rfl⟩
  case round =>
    obtain ⟨i, hi, rfl, rfl, rfl⟩ := hrel
    by_cases hlt : i < s.size
    · obtain ⟨gk, rfl⟩ : ∃ j, gk = j + 1 := ⟨gk - 1, by omega⟩
      have hltI : (i : Int) < (s.size : Int) := by omega
      have hbg := byte_get s i hlt
      have hb := Bt.byteN_lt s i
      have hc := Gz.crcTo_lt s i
      have HN := hid (show Gz.crcTo s (i + 1) = Gz.cbyte (Gz.crcTo s i) (Bt.byteN s i) from rfl)
      generalize Gz.crcTo s i = c at *
      generalize Bt.byteN s i = b at *
      have hx0 := u32_xor c b hc (by omega)
      have hlt0 : c ^^^ b < 2 ^ 32 := Nat.xor_lt_two_pow hc (by omega)
      obtain ⟨d, hd⟩ : ∃ d, d = c ^^^ b := ⟨_, rfl⟩
      rw [← hd] at hx0 hlt0
      have hq1 := HQ.out.cell (d % 16) (by omega)
      have hx1 := u32_xor (d / 16) (Gz.q16.getD (d % 16) 0) (by omega) (Gz.q16_lt _)
      have hlt1 : Gz.half d < 2 ^ 32 := Gz.half_lt hlt0
      have hh1 : d / 16 ^^^ Gz.q16.getD (d % 16) 0 = Gz.half d := rfl
      rw [hh1, show ((d / 16 : Nat) : Int) = (d : Int) / 16 by omega] at hx1
      obtain ⟨e, he⟩ : ∃ e, e = Gz.half d := ⟨_, rfl⟩
      rw [← he] at hx1 hlt1
      have hq2 := HQ.out.cell (e % 16) (by omega)
      have hx2 := u32_xor (e / 16) (Gz.q16.getD (e % 16) 0) (by omega) (Gz.q16_lt _)
      have hh2 : e / 16 ^^^ Gz.q16.getD (e % 16) 0 = Gz.half e := rfl
      rw [hh2, show ((e / 16 : Nat) : Int) = (e : Int) / 16 by omega] at hx2
      replace HN := hid (show Gz.crcTo s (i + 1) = Gz.half e by rw [HN.out, he, hd]; rfl)
      generalize Gz.q16.getD (d % 16) 0 = q1 at *
      generalize Gz.q16.getD (e % 16) 0 = q2 at *
      clear hh1 hh2 hd he
      go_wp2
      go_roundg gk
      case measure => omega
      case rel => exact ⟨i + 1, by omega, by go_num, by rw [HN.out], rfl⟩
    · have hltI : ¬ ((i : Int) < (s.size : Int)) := by omega
      have hc := Gz.crcTo_lt s i
      obtain rfl : i = s.size := by omega
      have HE := hid (show Gz.sum s = 4294967295 - Gz.crcTo s s.size from rfl)
      generalize Gz.crcTo s s.size = c at *
      have hx := u32_not c hc
      obtain ⟨n, hn⟩ : ∃ n, n = 4294967295 - c := ⟨_, rfl⟩
      rw [← hn] at hx HE
      have hn2 : n < 4294967296 := by omega
      clear hn
      go_wp2
      go_ret
      refine ⟨?_, rfl⟩
      rw [HE.out]
      show Ending.returned (.int .i64 (wrap64 (n : Int))) = _
      rw [show wrap64 (n : Int) = (n : Int) by unfold wrap64; omega]
theorem i64_and_nat (a b : Nat) (ha : a < 2 ^ 62) (hb : b < 2 ^ 62) : bits .and .i64 (a : Int) (b : Int) = ((a &&& b : Nat) : Int) :=
  (bits_nat .i64 62 (by decide) (fun n h0 h1 => by rw [IntKind.wrap_i64]; omega) a b ha hb).1
set_option maxRecDepth 100000 in
theorem lowSum_any (s : ByteArray) (hs : s.size ≤ 140737488355328) (w : World) (hq : Quart w) :
    Calls Tryz.prog 26 #[.string s] w fun e w' => e = .returned (.int .i64 ((Gz.sum s % 65536 : Nat) : Int)) ∧ w = w' := by
  have K := hid (sum_any s hs w hq)
  have hl := Gz.sum_lt s
  have ha := i64_and_nat (Gz.sum s) 65535 (by omega) (by decide)
  rw [show (65535 : Nat) = 2 ^ 16 - 1 by decide, Nat.and_two_pow_sub_one_eq_mod] at ha
  generalize Gz.sum s = c at *
  go_enter Tryz.func26, Tryz.ntmps26
  go_wp2_with fail
  refine K.out.mono ?_
  rintro e w1 ⟨rfl, rfl⟩
  clear K
  go_wp2
  go_ret
  exact ⟨by first | rfl | (rw [← ha]; rfl), rfl⟩
end Go.Proofs.YtlnpbcpajllkbaaGreatDoor

/- What the frames of the gz laws lean on: the table of the sums; no condition. -/
namespace Go.Proofs.YtlnpbcpajllkbaaGreatDoor
open Go.ChangeShapes Go.WideShapes Go.ChangeAt Go.RowKit Go.Deep Go.Joins

theorem own : ownKnob Tryz.prog.godebug = none := by kernel_rfl
theorem gQuart : Tryz.prog.globalNamed "ferret/gz.quarters" = some 0 := by kernel_rfl
theorem yQuart : (Tryz.prog.globals[0]?).map (·.type) = some 61 := by kernel_rfl
theorem tcU : Tryz.prog.cellsOf 59 = 1 := by kernel_rfl
theorem tcQ : Tryz.prog.cellsOf 61 = 16 := by kernel_rfl
set_option maxRecDepth 100000 in
theorem quart_of {W : World} (h : laidMet Tryz.prog [("ferret/gz.quarters", Rows.laid_ferret_gz_quarters)] W) : Quart W := by
  obtain ⟨ps, ⟨g, t, cs, fuel, p, q, hg, ht, hvar, hd, _, rfl⟩, _, hfree⟩ := h
  obtain rfl := Option.some.inj (gQuart.symm.trans hg)
  obtain rfl := Option.some.inj (yQuart.symm.trans ht)
  have e1 : cs = quartC := by
    have := Lib.cells_of_tab (k := .u32) (zs := [0, 498536548, 997073096, 651767980, 1994146192, 1802195444, 1303535960, 1342533948, 3988292384, 4027552580, 3604390888, 3412177804, 2607071920, 2262029012, 2685067896, 3183342108]) Tryz.underlying61 Tryz.underlying59 tcU tcQ hd
    cases cs
    simpa [quartC] using congrArg List.toArray this
  subst e1
  unfold World.var? at hvar
  rw [gQuart] at hvar
  simp only [Option.bind_some] at hvar
  obtain ⟨⟨cc, tt, hh⟩, _⟩ := hfree 0 0 (by simp [MemPlace.row, quartC])
  rw [hh] at hvar
  simp only [Option.some.injEq] at hvar
  subst hvar
  exact ⟨tt, hh⟩
/-- A block that holds other cells. -/
def setC (cs : Array Value) : Obj → Obj
  | .cells _ t frozen => .cells cs t frozen
  | o => o
/-- A world for the witness: the settled one, the table holding what its initialiser lays. -/
noncomputable def laidWorld (os : Os) : World :=
  { World.holding Tryz.prog os ⟨#[], #[], []⟩ with heap := (World.holding Tryz.prog os ⟨#[], #[], []⟩).heap.modify 0 (setC quartC) }
end Go.Proofs.YtlnpbcpajllkbaaGreatDoor

/- codesOf: the codes of lengths; conditions: at most 1024 lengths, each from 0 to 15. -/
namespace Go.Proofs.YtlnpbcpajllkbaaGreatDoor
open Go.RowKit

/-- A list of numbers in memory, as a walk is told of it. -/
def Ints (w : World) (a : Option Addr) (len : Nat) (f : Nat → Int) : Prop :=
  len = 0 ∨ ∃ b o, a = some ⟨b, o, none⟩ ∧ b < w.heap.size ∧ ∀ i, i < len → w.cell? ⟨b, o + i, none⟩ = some (.int .i64 (f i))

theorem Ints.new {w w' : World} {a : Option Addr} {len : Nat} {f : Nat → Int} (h : Ints w a len f) (t : Touch (fun _ => False) w w') : Ints w' a len f := by
  rcases h with h | ⟨b, o, rfl, hb, hc⟩
  · exact .inl h
  · exact .inr ⟨b, o, rfl, Nat.lt_of_lt_of_le hb t.size, fun i hi => by rw [t.cell (p := ⟨b, o + i, none⟩) hb id]; exact hc i hi⟩

theorem Ints.kept {w w' : World} {S : Nat → Prop} {a : Option Addr} {len : Nat} {f : Nat → Int} (h : Ints w a len f) (t : Touch S w w') (hs : ∀ k, k < w.heap.size → ¬ S k) : Ints w' a len f := by
  rcases h with h | ⟨b, o, rfl, hb, hc⟩
  · exact .inl h
  · exact .inr ⟨b, o, rfl, Nat.lt_of_lt_of_le hb t.size, fun i hi => by rw [t.cell (p := ⟨b, o + i, none⟩) hb (hs b hb)]; exact hc i hi⟩

/-- A block of sixteen numbers. -/
def Blk (w : World) (n : Nat) (f : Nat → Nat) : Prop := ∃ cs : Array Value, w.heap[n]? = some (.cells cs 150 (0, 0)) ∧ cs.size = 16 ∧ ∀ j, j < 16 → cs[j]? = some (.int .i64 (f j : Nat))

theorem Blk.cell {w : World} {n : Nat} {f : Nat → Nat} (h : Blk w n f) (j : Nat) (hj : j < 16) : w.cell? ⟨n, j, none⟩ = some (.int .i64 (f j : Nat)) := by
  obtain ⟨cs, hb, _, hc⟩ := h
  simp [World.cell?, hb, hc j hj]
theorem Blk.free {w : World} {n : Nat} {f : Nat → Nat} (h : Blk w n f) (j : Nat) : w.frozen? ⟨n, j, none⟩ = false := by
  obtain ⟨cs, hb, _⟩ := h
  simp [World.frozen?, hb]
theorem Blk.lt {w : World} {n : Nat} {f : Nat → Nat} (h : Blk w n f) : n < w.heap.size := by
  obtain ⟨cs, hb, _⟩ := h
  exact lt_of_block hb
theorem Blk.same {w w' : World} {n : Nat} {f : Nat → Nat} (h : Blk w n f) (e : w'.heap[n]? = w.heap[n]?) : Blk w' n f := by
  obtain ⟨cs, hb, r⟩ := h
  exact ⟨cs, e.trans hb, r⟩
theorem Blk.set {w : World} {n : Nat} {f : Nat → Nat} (h : Blk w n f) (k : Nat) (x : Nat) : Blk (w.setCell ⟨n, k, none⟩ (.int .i64 (x : Nat))) n (fun j => if j = k then x else f j) := by
  obtain ⟨cs, hb, hs, hc⟩ := h
  have hlt := lt_of_block hb
  have h' : w.heap[n] = .cells cs 150 (0, 0) := by simpa [Array.getElem?_eq_getElem hlt] using hb
  refine ⟨cs.set! k (.int .i64 (x : Nat)), ?_, by simpa using hs, fun j hj => ?_⟩
  · show (w.heap.modify n _)[n]? = _
    rw [Array.getElem?_eq_getElem (by simpa using hlt), Array.getElem_modify_self, h']
    rfl
  · simp only [Array.set!_eq_setIfInBounds]
    rw [Array.getElem?_setIfInBounds]
    by_cases e : k = j
    · subst e
      simp [hs, hj]
    · rw [if_neg e, if_neg (fun h => e h.symm)]
      exact hc j hj
theorem Blk.ext {w : World} {n : Nat} {f g : Nat → Nat} (h : Blk w n f) (e : ∀ j, j < 16 → f j = g j) : Blk w n g := by
  obtain ⟨cs, hb, hs, hc⟩ := h
  exact ⟨cs, hb, hs, fun j hj => by rw [hc j hj, e j hj]⟩

theorem blk_new (w : World) (c : Nat → Nat) : Blk (w.alloc (.cells (cArr c) 150)) w.heap.size c :=
  ⟨cArr c, by show (w.heap.push _)[_]? = _; simp, rfl, fun j hj => cArr_get c j hj⟩

/-- The first code of each length. -/
def firsts (c : Nat → Nat) : Nat → Nat
  | 0 => 0
  | n + 1 => (firsts c n + c n) * 2

theorem firsts_le (c : Nat → Nat) (hc : ∀ i, c i ≤ 1024) : ∀ n, firsts c n + 2048 ≤ 2048 * 2 ^ n
  | 0 => by simp [firsts]
  | n + 1 => by
    have := firsts_le c hc n
    have := hc n
    simp only [firsts, Nat.pow_succ]
    omega

/-- How many of the first k lengths are n. -/
def cntTo (f : Nat → Nat) (n : Nat) : Nat → Nat
  | 0 => 0
  | k + 1 => cntTo f n k + (if f k = n then 1 else 0)

theorem cntTo_le (f : Nat → Nat) (n : Nat) : ∀ k, cntTo f n k ≤ k
  | 0 => Nat.le_refl _
  | k + 1 => by have := cntTo_le f n k; simp only [cntTo]; split <;> omega

/-- The code of symbol i. -/
def codeOf (c f : Nat → Nat) (i : Nat) : Nat := if f i = 0 then 0 else firsts c (f i) + cntTo f (f i) i

end Go.Proofs.YtlnpbcpajllkbaaGreatDoor
