/- Texts of this proof, one behind the other: what each says stands ahead of it. -/
import Derived.Test.YthengfclijclmaaM0
import Derived.BigRegion
import Derived.WalkLawsBesides
import Derived.Lib.SliceRun
/- checkRoom: whether so many codes of each length take the room that there is; condition: at most 1024 of each. -/
namespace Go.Proofs.Ythengfclijclmaa
open Go.RowKit

theorem hid {p : Prop} (h : p) : Hid p := h
theorem ret_int {k : IntKind} {a b : Int} (h : a = b) : Ending.returned (.int k a) = .returned (.int k b) := by rw [h]
theorem info3 : (Try.prog.info? 3).map (fun i => (i.zero, i.size, i.bytes)) = some (some (.int .i64 0), 1, 8) := by kernel_rfl

theorem run_index16 (cs : Array Value) (i : Nat) (x : Int) (w : World) (hi : i < 16) (hx : cs[i]? = some (.int .i64 x)) : (Instr.index 143 (.agg cs) (.int .i64 (i : Int))).run Try.prog w = .ok (.int .i64 x) w := by
  obtain ⟨i0, h1, hz0, hz1, hz2⟩ := info_parts info3
  simp [Instr.index, run_underlying Try.underlying143, asIntOf, go_sem, part, sizeOf, typeInfo, h1, hz1, hi]
  rw [hx]
  simp [Sem.run_pure]

/-- So many of each length, as an array. -/
def cArr (c : Nat → Nat) : Array Value := #[.int .i64 (c 0), .int .i64 (c 1), .int .i64 (c 2), .int .i64 (c 3), .int .i64 (c 4), .int .i64 (c 5), .int .i64 (c 6), .int .i64 (c 7), .int .i64 (c 8), .int .i64 (c 9), .int .i64 (c 10), .int .i64 (c 11), .int .i64 (c 12), .int .i64 (c 13), .int .i64 (c 14), .int .i64 (c 15)]

theorem cArr_get (c : Nat → Nat) (i : Nat) (h : i < 16) : (cArr c)[i]? = some (.int .i64 (c i)) := by
  unfold cArr
  rcases (show i = 0 ∨ i = 1 ∨ i = 2 ∨ i = 3 ∨ i = 4 ∨ i = 5 ∨ i = 6 ∨ i = 7 ∨ i = 8 ∨ i = 9 ∨ i = 10 ∨ i = 11 ∨ i = 12 ∨ i = 13 ∨ i = 14 ∨ i = 15 by omega) with rfl | rfl | rfl | rfl | rfl | rfl | rfl | rfl | rfl | rfl | rfl | rfl | rfl | rfl | rfl | rfl <;> rfl

/-- The room that the first lengths take; how many codes they are. -/
def roomTo (c : Nat → Nat) : Nat → Nat
  | 0 => 0
  | k + 1 => roomTo c k + c k * 2 ^ (15 - k)
def sumTo (c : Nat → Nat) : Nat → Nat
  | 0 => 0
  | k + 1 => sumTo c k + c k

theorem roomTo_le (c : Nat → Nat) (hc : ∀ i, c i ≤ 1024) : ∀ k, roomTo c k ≤ k * 33554432
  | 0 => by simp [roomTo]
  | k + 1 => by
    have h1 := roomTo_le c hc k
    have h2 : 2 ^ (15 - k) ≤ 2 ^ 15 := Nat.pow_le_pow_right (by decide) (by omega)
    have h3 : c k * 2 ^ (15 - k) ≤ 1024 * 2 ^ 15 := Nat.mul_le_mul (hc k) h2
    simp only [roomTo]
    omega
theorem sumTo_le (c : Nat → Nat) (hc : ∀ i, c i ≤ 1024) : ∀ k, sumTo c k ≤ k * 1024
  | 0 => by simp [sumTo]
  | k + 1 => by have := sumTo_le c hc k; have := hc k; simp only [sumTo]; omega

theorem room_step (c : Nat → Nat) (k : Nat) (hc : c k ≤ 1024) (hk : k < 16) (hr : roomTo c k ≤ k * 33554432) : wrap64 ((roomTo c k : Int) + wrap64 ((c k : Int) * 2 ^ (15 - k))) = ((roomTo c (k + 1) : Nat) : Int) := by
  have h2 : 2 ^ (15 - k) ≤ 2 ^ 15 := Nat.pow_le_pow_right (by decide) (by omega)
  have h3 : c k * 2 ^ (15 - k) ≤ 1024 * 2 ^ 15 := Nat.mul_le_mul hc h2
  have e : (c k : Int) * 2 ^ (15 - k) = ((c k * 2 ^ (15 - k) : Nat) : Int) := by simp
  rw [e]
  simp only [roomTo]
  unfold wrap64
  omega

def roomErr (c : Nat → Nat) : Nat :=
  if 32768 < roomTo c 16 then 6 else if roomTo c 16 = 32768 ∨ sumTo c 16 = 0 ∨ (sumTo c 16 = 1 ∧ c 1 = 1) then 0 else 7

set_option maxRecDepth 100000 in
set_option maxHeartbeats 4000000 in
theorem room_any (c : Nat → Nat) (w : World) (hc : ∀ i, c i ≤ 1024) :
    Calls Try.prog 70 #[.agg (cArr c)] w fun e w' => e = .returned (.int .i64 (roomErr c : Nat)) ∧ Touch (fun _ => False) w w' := by
  have HC := hid hc
  clear hc
  obtain ⟨r, hr⟩ : ∃ r, roomErr c = r := ⟨_, rfl⟩
  have HR := hid hr
  rw [hr]
  clear hr
  unfold cArr
  go_enter Try.func70, Try.ntmps70
  go_wp2_with fail
  rw [show #[Value.int IntKind.i64 (c 0), .int .i64 (c 1), .int .i64 (c 2), .int .i64 (c 3), .int .i64 (c 4), .int .i64 (c 5), .int .i64 (c 6), .int .i64 (c 7), .int .i64 (c 8), .int .i64 (c 9), .int .i64 (c 10), .int .i64 (c 11), .int .i64 (c 12), .int .i64 (c 13), .int .i64 (c 14), .int .i64 (c 15)] = cArr c from rfl]
  obtain ⟨w1, hw1⟩ : ∃ w1, w1 = w.alloc (.cells (cArr c) 143) := ⟨_, rfl⟩
  have hb : w1.heap[w.heap.size]? = some (.cells (cArr c) 143) := by rw [hw1]; show (w.heap.push _)[_]? = _; simp
  have h1 : w1.cell? ⟨w.heap.size, 1, none⟩ = some (.int .i64 (c 1)) := by simp [World.cell?, hb, cArr_get]
  have T1 : Hid (Touch (fun _ => False) w w1) := by rw [hw1]; exact (Touch.refl _ w).alloc _
  rw [← hw1]
  clear hw1 hb
  go_loop [3, 4, 8] (fun t n i => ∃ k : Nat, k ≤ 16 ∧ i = .int .i64 k ∧ t = .int .i64 (roomTo c k : Nat) ∧ n = .int .i64 (sumTo c k : Nat)) (fun _ _ i => 16 - (intOf i).toNat)
  case atStart => exact ⟨0, by decide, rfl, rfl, rfl⟩
  case round =>
    obtain ⟨k, hk, rfl, rfl, rfl⟩ := hrel
    have hrl := roomTo_le c HC.out k
    have hsl := sumTo_le c HC.out k
    by_cases hlt : k < 16
    · have hidx := run_index16 (cArr c) k (c k) w1 hlt (cArr_get c k hlt)
      have hck := HC.out k
      have h2 : 2 ^ (15 - k) ≤ 2 ^ 15 := Nat.pow_le_pow_right (by decide) (by omega)
      have h3 : c k * 2 ^ (15 - k) ≤ 1024 * 2 ^ 15 := Nat.mul_le_mul hck h2
      have hsh : (0 : Int) ≤ 15 - (k : Int) := by omega
      clear h2
      have hst := room_step c k hck hlt hrl
      have HST := hid hst
      clear hst h3
      go_wp2
      go_round
      case rel => exact ⟨k + 1, by omega, by go_num, by rw [HST.out], by simp only [sumTo]; go_num⟩
      case measure => simp [intOf]; omega
    · obtain rfl : k = 16 := by omega
      have RR := HR.out
      unfold roomErr at RR
      have HRR := hid RR
      clear RR hrl hsl
      generalize roomTo c 16 = rt at *
      generalize sumTo c 16 = st at *
      generalize c 1 = cc at *
      clear HC
      by_cases e1 : 32768 < rt
      · have E := hid e1
        go_wp2
        go_ret
        exact ⟨ret_int (by have := HRR.out; rw [if_pos E.out] at this; omega), T1.out⟩
      · have q1 : ¬ (32768 : Int) < (rt : Int) := by omega
        by_cases e2 : rt = 32768
        · have q2 : ((rt : Int) == 32768) = true := by simp; omega
          have E : Hid (r = 0) := by have := HRR.out; rw [if_neg e1, if_pos (.inl e2)] at this; exact this.symm
          clear e2 e1
          go_wp2
          go_ret
          exact ⟨ret_int (by have := E.out; omega), T1.out⟩
        · have q2 : ((rt : Int) == 32768) = false := by simp; omega
          by_cases e3 : st = 0
          · have q3 : ((st : Int) == 0) = true := by simp; omega
            have E : Hid (r = 0) := by have := HRR.out; rw [if_neg e1, if_pos (.inr (.inl e3))] at this; exact this.symm
            clear e1 e2 e3
            go_wp2
            go_ret
            exact ⟨ret_int (by have := E.out; omega), T1.out⟩
          · have q3 : ((st : Int) == 0) = false := by simp; omega
            by_cases e4 : st = 1
            · have q4 : ((st : Int) == 1) = true := by simp; omega
              by_cases e5 : cc = 1
              · have q5 : ((cc : Int) == 1) = true := by simp; omega
                have E : Hid (r = 0) := by have := HRR.out; rw [if_neg e1, if_pos (.inr (.inr ⟨e4, e5⟩))] at this; exact this.symm
                clear e1 e2 e3 e4 e5
                go_wp2
                go_ret
                exact ⟨ret_int (by have := E.out; omega), T1.out⟩
              · have q5 : ((cc : Int) == 1) = false := by simp; omega
                have E : Hid (r = 7) := by have := HRR.out; rw [if_neg e1, if_neg (by omega)] at this; exact this.symm
                clear e1 e2 e3 e4 e5
                go_wp2
                go_ret
                exact ⟨ret_int (by have := E.out; omega), T1.out⟩
            · have q4 : ((st : Int) == 1) = false := by simp; omega
              have E : Hid (r = 7) := by have := HRR.out; rw [if_neg e1, if_neg (by omega)] at this; exact this.symm
              clear e1 e2 e3 e4
              go_wp2
              go_ret
              exact ⟨ret_int (by have := E.out; omega), T1.out⟩
end Go.Proofs.Ythengfclijclmaa

/- codesOf: the codes of lengths; conditions: at most 1024 lengths, each from 0 to 15. -/
namespace Go.Proofs.Ythengfclijclmaa
open Go.RowKit

/-- A list of numbers in memory, as a walk is told of it. -/
def Ints (w : World) (a : Option Addr) (len : Nat) (f : Nat → Int) : Prop :=
  len = 0 ∨ ∃ b o, a = some ⟨b, o, none⟩ ∧ b < w.heap.size ∧ ∀ i, i < len → w.cell? ⟨b, o + i, none⟩ = some (.int .i64 (f i))

theorem Ints.new {w w' : World} {a : Option Addr} {len : Nat} {f : Nat → Int} (h : Ints w a len f) (t : Touch (fun _ => False) w w') : Ints w' a len f := by
  rcases h with h | ⟨b, o, rfl, hb, hc⟩
  · exact .inl h
  · exact .inr ⟨b, o, rfl, Nat.lt_of_lt_of_le hb t.size, fun i hi => by rw [t.cell (p := ⟨b, o + i, none⟩) hb id]; exact hc i hi⟩

theorem Ints.kept {w w' : World} {S : Nat → Prop} {a : Option Addr} {len : Nat} {f : Nat → Int} (h : Ints w a len f) (t : Touch S w w') (hs : ∀ k, k < w.heap.size → ¬ S k) : Ints w' a len f := by
  rcases h with h | ⟨b, o, rfl, hb, hc⟩
  · exact .inl h
  · exact .inr ⟨b, o, rfl, Nat.lt_of_lt_of_le hb t.size, fun i hi => by rw [t.cell (p := ⟨b, o + i, none⟩) hb (hs b hb)]; exact hc i hi⟩

/-- A block of sixteen numbers. -/
def Blk (w : World) (n : Nat) (f : Nat → Nat) : Prop := ∃ cs : Array Value, w.heap[n]? = some (.cells cs 143 (0, 0)) ∧ cs.size = 16 ∧ ∀ j, j < 16 → cs[j]? = some (.int .i64 (f j : Nat))

theorem Blk.cell {w : World} {n : Nat} {f : Nat → Nat} (h : Blk w n f) (j : Nat) (hj : j < 16) : w.cell? ⟨n, j, none⟩ = some (.int .i64 (f j : Nat)) := by
  obtain ⟨cs, hb, _, hc⟩ := h
  simp [World.cell?, hb, hc j hj]
theorem Blk.free {w : World} {n : Nat} {f : Nat → Nat} (h : Blk w n f) (j : Nat) : w.frozen? ⟨n, j, none⟩ = false := by
  obtain ⟨cs, hb, _⟩ := h
  simp [World.frozen?, hb]
theorem Blk.lt {w : World} {n : Nat} {f : Nat → Nat} (h : Blk w n f) : n < w.heap.size := by
  obtain ⟨cs, hb, _⟩ := h
  exact lt_of_block hb
theorem Blk.same {w w' : World} {n : Nat} {f : Nat → Nat} (h : Blk w n f) (e : w'.heap[n]? = w.heap[n]?) : Blk w' n f := by
  obtain ⟨cs, hb, r⟩ := h
  exact ⟨cs, e.trans hb, r⟩
theorem Blk.set {w : World} {n : Nat} {f : Nat → Nat} (h : Blk w n f) (k : Nat) (x : Nat) : Blk (w.setCell ⟨n, k, none⟩ (.int .i64 (x : Nat))) n (fun j => if j = k then x else f j) := by
  obtain ⟨cs, hb, hs, hc⟩ := h
  have hlt := lt_of_block hb
  have h' : w.heap[n] = .cells cs 143 (0, 0) := by simpa [Array.getElem?_eq_getElem hlt] using hb
  refine ⟨cs.set! k (.int .i64 (x : Nat)), ?_, by simpa using hs, fun j hj => ?_⟩
  · show (w.heap.modify n _)[n]? = _
    rw [Array.getElem?_eq_getElem (by simpa using hlt), Array.getElem_modify_self, h']
    rfl
  · simp only [Array.set!_eq_setIfInBounds]
    rw [Array.getElem?_setIfInBounds]
    by_cases e : k = j
    · subst e
      simp [hs, hj]
    · rw [if_neg e, if_neg (fun h => e h.symm)]
      exact hc j hj
theorem Blk.ext {w : World} {n : Nat} {f g : Nat → Nat} (h : Blk w n f) (e : ∀ j, j < 16 → f j = g j) : Blk w n g := by
  obtain ⟨cs, hb, hs, hc⟩ := h
  exact ⟨cs, hb, hs, fun j hj => by rw [hc j hj, e j hj]⟩

theorem blk_new (w : World) (c : Nat → Nat) : Blk (w.alloc (.cells (cArr c) 143)) w.heap.size c :=
  ⟨cArr c, by show (w.heap.push _)[_]? = _; simp, rfl, fun j hj => cArr_get c j hj⟩

/-- The first code of each length. -/
def firsts (c : Nat → Nat) : Nat → Nat
  | 0 => 0
  | n + 1 => (firsts c n + c n) * 2

theorem firsts_le (c : Nat → Nat) (hc : ∀ i, c i ≤ 1024) : ∀ n, firsts c n + 2048 ≤ 2048 * 2 ^ n
  | 0 => by simp [firsts]
  | n + 1 => by
    have := firsts_le c hc n
    have := hc n
    simp only [firsts, Nat.pow_succ]
    omega

/-- How many of the first k lengths are n. -/
def cntTo (f : Nat → Nat) (n : Nat) : Nat → Nat
  | 0 => 0
  | k + 1 => cntTo f n k + (if f k = n then 1 else 0)

theorem cntTo_le (f : Nat → Nat) (n : Nat) : ∀ k, cntTo f n k ≤ k
  | 0 => Nat.le_refl _
  | k + 1 => by have := cntTo_le f n k; simp only [cntTo]; split <;> omega

/-- The code of symbol i. -/
def codeOf (c f : Nat → Nat) (i : Nat) : Nat := if f i = 0 then 0 else firsts c (f i) + cntTo f (f i) i

end Go.Proofs.Ythengfclijclmaa

/- codesOf, its walk. -/
namespace Go.Proofs.Ythengfclijclmaa
open Go.RowKit

def natsV (l : List Nat) : List Value := l.map fun x : Nat => Value.int .i64 (x : Int)

theorem own3_set' {w : World} {base g n cap : Nat} {xs : List Value} (h : w.ownsRow base 3 1 (.slice (some ⟨g, 0, none⟩) n cap) n xs) (i : Nat) (x : Value) :
    (w.setCell ⟨g, i, none⟩ x).ownsRow base 3 1 (.slice (some ⟨g, 0, none⟩) n cap) n (xs.set i x) := by
  obtain ⟨h1, h2⟩ := h
  rcases h2 with ⟨h2, _⟩ | ⟨g', cap', cur, hv, hg, hh, hle, hm, hcs, htk⟩
  · simp at h2
  · simp at hv
    obtain ⟨rfl, rfl⟩ := hv
    refine ⟨by simpa using h1, .inr ⟨g, cap, cur.set! i x, rfl, hg, ?_, hle, hm, by simpa using hcs, ?_⟩⟩
    · have hlt := lt_of_block hh
      have h' : w.heap[g] = .cells cur 3 (0, 0) := by simpa [Array.getElem?_eq_getElem hlt] using hh
      show (w.heap.modify g _)[g]? = _
      rw [Array.getElem?_eq_getElem (by simpa using hlt), Array.getElem_modify_self, h']
      rfl
    · rw [← htk]
      simp [List.take_set]

/-- The next code of each length, behind the first k symbols. -/
def nexts (c f : Nat → Nat) (k j : Nat) : Nat := if j = 0 then 0 else firsts c j + cntTo f j k
def codesTo (c f : Nat → Nat) (len k : Nat) : List Nat := (List.range len).map fun i => if i < k then codeOf c f i else 0

theorem codesTo_zero (c f : Nat → Nat) (len : Nat) : natsV (codesTo c f len 0) = List.replicate len (.int .i64 0) := by
  apply List.ext_getElem
  · simp [natsV, codesTo]
  · intro i h1 h2
    simp [natsV, codesTo]
theorem codesTo_all (c f : Nat → Nat) (len : Nat) : codesTo c f len len = (List.range len).map (codeOf c f) := by
  apply List.map_congr_left
  intro i hi
  rw [if_pos (by simpa using hi)]
theorem codesTo_skip (c f : Nat → Nat) (len k : Nat) (h : f k = 0) : codesTo c f len (k + 1) = codesTo c f len k := by
  apply List.map_congr_left
  intro i hi
  by_cases e : i = k
  · subst e; simp [codeOf, h]
  · by_cases e2 : i < k
    · rw [if_pos e2, if_pos (by omega)]
    · rw [if_neg e2, if_neg (by omega)]
theorem codesTo_set (c f : Nat → Nat) (len k : Nat) : codesTo c f len (k + 1) = (codesTo c f len k).set k (codeOf c f k) := by
  apply List.ext_getElem
  · simp [codesTo]
  · intro i h1 h2
    simp only [codesTo, List.getElem_map, List.getElem_range, List.getElem_set]
    by_cases e : k = i
    · subst e; simp
    · rw [if_neg e]
      by_cases e2 : i < k
      · rw [if_pos e2, if_pos (by omega)]
      · rw [if_neg e2, if_neg (by omega)]

theorem nexts_skip (c f : Nat → Nat) (k j : Nat) (h : f k = 0) : nexts c f k j = nexts c f (k + 1) j := by
  unfold nexts
  by_cases e : j = 0
  · rw [if_pos e, if_pos e]
  · rw [if_neg e, if_neg e, cntTo, if_neg (by omega), Nat.add_zero]
theorem nexts_step (c f : Nat → Nat) (k j m : Nat) (h : f k = m) (h0 : ¬ m = 0) : (if j = m then nexts c f k m + 1 else nexts c f k j) = nexts c f (k + 1) j := by
  unfold nexts
  by_cases e : j = m
  · subst e
    rw [if_pos rfl, if_neg h0, if_neg h0, cntTo, if_pos h]
    omega
  · rw [if_neg e]
    by_cases e0 : j = 0
    · rw [if_pos e0, if_pos e0]
    · rw [if_neg e0, if_neg e0, cntTo, if_neg (by omega), Nat.add_zero]

theorem first_zero (c : Nat → Nat) (j : Nat) : (0 : Nat) = if j ≤ 0 then firsts c j else 0 := by
  by_cases h : j ≤ 0
  · obtain rfl : j = 0 := by omega
    rfl
  · rw [if_neg h]

set_option maxRecDepth 100000 in
set_option maxHeartbeats 4000000 in
theorem codes_any (a : Option Addr) (len cap : Nat) (f c : Nat → Nat) (w : World) (hl : len ≤ 1024) (hf : ∀ i, f i ≤ 15) (hc : ∀ i, c i ≤ 1024) (hi : Ints w a len (fun i => (f i : Nat))) :
    Calls Try.prog 71 #[.slice a len cap, .agg (cArr c)] w fun e w' => ∃ g, e = .returned (.slice (some ⟨g, 0, none⟩) len len) ∧
      w'.ownsRow w.heap.size 3 1 (.slice (some ⟨g, 0, none⟩) len len) len (natsV ((List.range len).map (codeOf c f))) ∧ Touch (fun _ => False) w w' := by
  obtain ⟨i0, hin, hz0, hz1, hz2⟩ := info_parts info3
  have HF := hid hf
  have HC := hid hc
  have HI := hid hi
  clear hf hc hi
  unfold cArr
  go_enter Try.func71, Try.ntmps71
  go_wp2_with fail
  rw [show #[Value.int IntKind.i64 (c 0), .int .i64 (c 1), .int .i64 (c 2), .int .i64 (c 3), .int .i64 (c 4), .int .i64 (c 5), .int .i64 (c 6), .int .i64 (c 7), .int .i64 (c 8), .int .i64 (c 9), .int .i64 (c 10), .int .i64 (c 11), .int .i64 (c 12), .int .i64 (c 13), .int .i64 (c 14), .int .i64 (c 15)] = cArr c from rfl]
  obtain ⟨w1, hw1⟩ : ∃ w1, w1 = (w.alloc (.cells (cArr c) 143)).alloc (.cells #[.int .i64 0, .int .i64 0, .int .i64 0, .int .i64 0, .int .i64 0, .int .i64 0, .int .i64 0, .int .i64 0, .int .i64 0, .int .i64 0, .int .i64 0, .int .i64 0, .int .i64 0, .int .i64 0, .int .i64 0, .int .i64 0] 143) := ⟨_, rfl⟩
  have hs1 : (w.alloc (.cells (cArr c) 143)).heap.size = w.heap.size + 1 := by simp
  have B0 : Hid (Blk w1 w.heap.size c) := by rw [hw1]; exact (blk_new w c).same (Below.heap_alloc _ _ _ (by omega))
  have B1 : Hid (Blk w1 (w.heap.size + 1) (fun _ => 0)) := by rw [hw1, ← hs1]; exact blk_new _ (fun _ => 0)
  have T1 : Hid (Touch (fun _ => False) w w1) := by rw [hw1]; exact ((Touch.refl _ w).alloc _).alloc _
  rw [← hw1]
  clear hw1 hs1
  go_loopw [6] (fun i wr => ∃ k : Nat, k ≤ 15 ∧ i = .int .i64 (k + 1) ∧ Blk wr w.heap.size c ∧ Blk wr (w.heap.size + 1) (fun j => if j ≤ k then firsts c j else 0) ∧ Touch (fun _ => False) w wr) (fun i _ => 16 - (intOf i).toNat)
  case atStart => exact ⟨0, by decide, rfl, B0.out, B1.out.ext (fun j _ => first_zero c j), T1.out⟩
  case round =>
    obtain ⟨k, hk, rfl, hb0, hb1, ht⟩ := hrel
    have Z0 := hid hb0
    have Z1 := hid hb1
    have TT := hid ht
    clear hb0 hb1 ht B0 B1 T1
    by_cases hlt : k < 15
    · have d0 := Z0.out.cell k (by omega)
      have d1 := Z1.out.cell k (by omega)
      have d2 := Z1.out.cell (k + 1) (by omega)
      have d3 := Z1.out.free (k + 1)
      simp only [Nat.le_refl, if_true] at d1
      rw [if_neg (by omega)] at d2
      have hfl := firsts_le c HC.out k
      have hp : 2 ^ k ≤ 2 ^ 15 := Nat.pow_le_pow_right (by decide) (by omega)
      have hfb : firsts c k ≤ 67108864 := by omega
      have hck := HC.out k
      clear hfl hp
      go_wp2
      go_region
      all_goals go_wp2
      all_goals go_roundw
      case rel =>
        refine ⟨k + 1, by omega, by go_num, ?_, ?_, ?_⟩
        · exact Z0.out.same (Below.heap_setCell _ _ _ _ (by simp))
        · have h := (Z1.out.set (k + 1) ((firsts c k + c k) * 2)).ext (g := fun j => if j ≤ k + 1 then firsts c j else 0) (fun j _ => by
            by_cases e : j = k + 1
            · subst e; simp [firsts]
            · by_cases e2 : j ≤ k
              · rw [if_neg e, if_pos e2, if_pos (by omega)]
              · rw [if_neg e, if_neg e2, if_neg (by omega)])
          have e : (((firsts c k + c k) * 2 : Nat) : Int) = ((firsts c k : Int) + (c k : Int)) * 2 := by simp
          rw [e] at h
          exact h
        · exact Touch.drew (TT.out.setCell (fun h => by simp at h; omega) _)
      case measure => simp [intOf]; omega
    · obtain rfl : k = 15 := by omega
      have Z1 : Hid (Blk wr (w.heap.size + 1) (nexts c f 0)) := Z1.out.ext (fun j hj => by rw [if_pos (by omega)]; cases j <;> simp [nexts, cntTo, firsts])
      have hz1' := Z1.out.lt
      go_wp2_with (first
        | (at_make; refine wpList_make_full _ rfl _ _ 58 rfl w.heap.size 3 i0 (.int .i64 0) 1 Try.underlying58 hin hz0 hz1 .i64 .i64 _ _ len rfl rfl rfl rfl (by rw [hz2]; omega) (by unfold maxLen; omega) (by have := TT.out.size; omega) ?_))
      intro w2 hown hgrow
      rw [toList_madeCells_one] at hown
      have TG : Touch (fun _ => False) wr w2 := (Touch.refl _ wr).grown hgrow (fun k e => by simp at e)
      have Z2 := hid (Z1.out.same (TG.block _ hz1' id))
      have T2 := hid (TT.out.trans TG (fun _ _ e => e))
      have O2 := hid hown
      have hne : w.heap.size + 1 ≠ wr.heap.size := by omega
      generalize wr.heap.size = g at *
      clear hgrow TG TT Z0 Z1 hown
      go_wp2_with fail
      go_loopw [31] (fun i wr => ∃ k : Nat, k ≤ len ∧ i = .int .i64 k ∧ Blk wr (w.heap.size + 1) (nexts c f k) ∧ wr.ownsRow w.heap.size 3 1 (.slice (some ⟨g, 0, none⟩) len len) len (natsV (codesTo c f len k)) ∧ Touch (fun _ => False) w wr) (fun i _ => len - (intOf i).toNat)
      case atStart => exact ⟨0, Nat.zero_le _, rfl, Z2.out, by rw [codesTo_zero]; exact O2.out, T2.out⟩
      case round =>
        obtain ⟨k, hk, rfl, hb1, ho, ht⟩ := hrel
        have Z3 := hid hb1
        have O3 := hid ho
        have I3 := hid (HI.out.new ht)
        have T3 := hid ht
        clear hb1 ho ht Z2 O2 T2
        by_cases hlt2 : k < len
        · rcases I3.out with h | ⟨b, o, ha, hb, hcell⟩
          · omega
          · subst ha
            have d0 : wr.cell? ⟨b, o + k, none⟩ = some (.int .i64 (f k : Nat)) := hcell k hlt2
            clear hcell
            by_cases h0 : f k = 0
            · rw [h0] at d0
              have H0 := hid h0
              clear h0
              go_wp2
              go_roundw
              case rel => exact ⟨k + 1, by omega, by go_num, Z3.out.ext (fun j _ => nexts_skip c f k j H0.out), by rw [codesTo_skip c f len k H0.out]; exact O3.out, T3.out⟩
              case measure => simp [intOf]; omega
            · have hfk := HF.out k
              obtain ⟨m, hm⟩ : ∃ m, f k = m := ⟨_, rfl⟩
              obtain ⟨x, hx⟩ : ∃ x, nexts c f k m = x := ⟨_, rfl⟩
              have d1 := Z3.out.cell m (by omega)
              have d2 := Z3.out.free m
              rw [hx] at d1
              rw [hm] at d0 hfk h0
              have hxb : x ≤ 67200000 := by
                have h1 := firsts_le c HC.out m
                have h2 := cntTo_le f m k
                have h3 : 2 ^ m ≤ 2 ^ 15 := Nat.pow_le_pow_right (by decide) (by omega)
                rw [← hx]
                unfold nexts
                split <;> omega
              have d3 : wr.cell? ⟨g, k, none⟩ = some (.int .i64 0) := by
                have := O3.out.cells (g := g) rfl k (.int .i64 0) (by simp [natsV, codesTo, hlt2])
                rwa [add_zero] at this
              have d4 : wr.frozen? ⟨g, k, none⟩ = false := by
                rcases O3.out.2 with ⟨h, _⟩ | ⟨g', cap', cur, h, _, hh, _⟩
                · simp at h
                · simp at h
                  obtain ⟨rfl, rfl⟩ := h
                  simp [World.frozen?, hh]
              have hgw : w.heap.size ≤ g := (O3.out.lt g rfl).1
              have hcode : codeOf c f k = x := by unfold codeOf; rw [hm, if_neg h0, ← hx, nexts, if_neg h0]
              have HM := hid hm
              have HX := hid hx
              have HCO := hid hcode
              have hmp : (0 : Int) < (m : Int) := by omega
              clear hm hx hcode
              go_wp2
              go_roundw
              case rel =>
                refine ⟨k + 1, by omega, by go_num, ?_, ?_, ?_⟩
                · have h := ((Z3.out.same (Below.heap_setCell wr ⟨g, k, none⟩ (.int .i64 (x : Nat)) (w.heap.size + 1) hne)).set m (x + 1)).ext (g := nexts c f (k + 1)) (fun j _ => by rw [← HX.out]; exact nexts_step c f k j m HM.out h0)
                  simpa using h
                · rw [codesTo_set c f len k, HCO.out]
                  refine ownsRow_setCell_other ?_ (by simp [Value.ownBlock]; omega) _
                  have h := own3_set' O3.out k (.int .i64 (x : Nat))
                  simpa [natsV, List.map_set] using h
                · exact Touch.setCell (T3.out.setCell (fun h => by simp at h; omega) _) (fun h => by simp at h; omega) _
              case measure => simp [intOf]; omega
        · obtain rfl : k = len := by omega
          go_wp2
          go_ret
          exact ⟨g, rfl, by rw [← codesTo_all]; exact O3.out, T3.out⟩
end Go.Proofs.Ythengfclijclmaa

/- A list copied, and two lists held against each other. -/
namespace Go.Proofs.Ythengfclijclmaa
open Go.RowKit

theorem own_ints {w : World} {base g n cap : Nat} {f : Nat → Int} (h : w.ownsRow base 3 1 (.slice (some ⟨g, 0, none⟩) n cap) n ((List.range n).map fun i => .int .i64 (f i))) : Ints w (some ⟨g, 0, none⟩) n f := by
  refine .inr ⟨g, 0, rfl, (h.lt g rfl).2, fun i hi => ?_⟩
  have := h.cells (g := g) rfl i (.int .i64 (f i)) (by simp [hi])
  rw [Nat.zero_add]
  rwa [add_zero] at this

theorem own_ints' {w : World} {base n : Nat} {v : Value} {f : Nat → Int} (h : w.ownsRow base 3 1 v n ((List.range n).map fun i => .int .i64 (f i))) : ∃ a c, v = .slice a n c ∧ Ints w a n f := by
  rcases h.2 with ⟨rfl, rfl⟩ | ⟨g, cap, cur, rfl, _⟩
  · exact ⟨none, 0, rfl, .inl rfl⟩
  · exact ⟨_, cap, rfl, own_ints h⟩

set_option maxHeartbeats 1000000 in
theorem clone_any (g len cap : Nat) (f : Nat → Int) (w : World) (hl : len ≤ 140737488351232) (hb : len * 8 ≤ 140737488351232) (hi : Ints w (some ⟨g, 0, none⟩) len f) :
    Calls Try.prog 73 #[.slice (some ⟨g, 0, none⟩) len cap] w fun e w' => ∃ v, e = .returned v ∧ w'.ownsRow w.heap.size 3 1 v len ((List.range len).map fun i => .int .i64 (f i)) ∧ Touch (fun _ => False) w w' := by
  obtain ⟨i0, hin, hz0, hz1, hz2⟩ := info_parts info3
  have c1 : ∀ (j : Nat) (u : Value), ((List.range len).map fun i => Value.int .i64 (f i))[j]? = some u → (w.alloc (.cells #[] 3)).cell? ((⟨g, 0, none⟩ : Addr).add j) = some u := by
    intro j u hj
    have hj' : j < len := by
      rcases Nat.lt_or_ge j len with h | h
      · exact h
      · rw [List.getElem?_eq_none (by simpa using h)] at hj; simp at hj
    rcases hi with h | ⟨b, o, ha, hb, hc⟩
    · omega
    · simp at ha
      obtain ⟨rfl, rfl⟩ := ha
      rw [add_zero, World.cell?_of_block (w := w) (Below.heap_alloc _ _ _ hb)]
      have := hc j hj'
      rw [Nat.zero_add] at this
      rw [this]
      simpa [hj'] using hj
  have O1 : (w.alloc (.cells #[] 3)).ownsRow w.heap.size 3 1 (.slice (some ⟨w.heap.size, 0, none⟩) 0 0) 0 [] :=
    World.ownsRow_made w #[] 0 (Nat.le_refl _) (by unfold maxLen; omega) rfl
  have C1 := hid c1
  have OO := hid O1
  clear c1 O1 hi
  have q37 : ∀ (w : World) (a : Option Addr) (n c n' c' : Nat), (binOp .eql 58 (.slice a n c) (.slice none n' c')).run Try.prog w = .ok (.bool a.isNone) w := fun w a n c n' c' => Lib.run_eql_slice_nil w _ _ a n c n' c' Try.underlying58
  go_enter Try.func73, Try.ntmps73
  go_wp2_with (first
    | (at_builtin; refine wpList_append_own _ rfl _ _ 58 rfl w.heap.size 3 i0 (.int .i64 0) 1 8 Try.underlying58 hin hz0 hz1 hz2 rfl (by decide) _ _ _ rfl OO.out ⟨g, 0, none⟩ len cap ((List.range len).map fun i => Value.int .i64 (f i)) rfl (by simp) C1.out (by intro u hu; simp at hu; obtain ⟨_, _, rfl⟩ := hu; rfl) (by unfold maxLen; omega) (by omega) (by simp) ?_)
    | go_in)
  intro v' w1 hown hgrow _
  have T1 := hid ((((Touch.refl (fun _ => False) w).alloc (.cells #[] 3)).grown hgrow (fun k e h => by simp [Value.ownBlock] at e; omega)))
  have O2 := hid hown
  clear hown hgrow C1 OO
  go_wp2
  go_ret
  exact ⟨v', rfl, by simpa using O2.out, T1.out⟩
end Go.Proofs.Ythengfclijclmaa
