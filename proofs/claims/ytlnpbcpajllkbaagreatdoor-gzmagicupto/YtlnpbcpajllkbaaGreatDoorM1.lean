/- Texts of this proof, one behind the other: what each says stands ahead of it. -/
import Derived.WalkKit
import Derived.Deep.QuietTactic
import Derived.Test.YtlnpbcpajllkbaaGreatDoorM0
import Derived.Test.YtlnpbcpajllkbaaGreatDoorChecked
import Derived.WalkSpells
import Derived.WalkLawsBesides
import Derived.BigRegion
import Derived.Maps.AppendAt
import Derived.BigQuiet
/- What a writer of bits and a reader of bits are in memory, and what a call that uses one leaves alone; no condition. -/
namespace Go.Proofs.YtlnpbcpajllkbaaGreatDoor
open Go.RowKit

/-- Of the blocks that were there, those outside S are as they were. -/
structure Touch (S : Nat → Prop) (w w' : World) : Prop where
  os : w'.os = w.os
  tape : w'.tape = w.tape
  output : w'.output = w.output
  size : w.heap.size ≤ w'.heap.size
  block : ∀ k, k < w.heap.size → ¬ S k → w'.heap[k]? = w.heap[k]?

theorem Touch.refl (S : Nat → Prop) (w : World) : Touch S w w := ⟨rfl, rfl, rfl, Nat.le_refl _, fun _ _ _ => rfl⟩

theorem Touch.trans {S S' : Nat → Prop} {a b c : World} (h : Touch S a b) (k : Touch S' b c) (hs : ∀ i, i < a.heap.size → S' i → S i) : Touch S a c :=
  ⟨k.os.trans h.os, k.tape.trans h.tape, k.output.trans h.output, Nat.le_trans h.size k.size,
    fun i hi hn => (k.block i (Nat.lt_of_lt_of_le hi h.size) (fun e => hn (hs i hi e))).trans (h.block i hi hn)⟩

theorem Touch.mono {S S' : Nat → Prop} {a b : World} (h : Touch S a b) (hs : ∀ i, i < a.heap.size → S i → S' i) : Touch S' a b :=
  ⟨h.os, h.tape, h.output, h.size, fun i hi hn => h.block i hi (fun e => hn (hs i hi e))⟩

theorem Touch.below {S : Nat → Prop} {a b : World} (h : Touch S a b) (B : Nat) (hB : B ≤ a.heap.size) (hs : ∀ i, S i → B ≤ i) : Below B a b :=
  ⟨h.os, h.tape, h.output, h.size, fun i hi => h.block i (by omega) (fun e => by have := hs i e; omega)⟩

theorem Touch.drew {S : Nat → Prop} {a w : World} (h : Touch S a w) : Touch S a w.drew := ⟨h.os, h.tape, h.output, h.size, h.block⟩

theorem Touch.drewN {S : Nat → Prop} {a w : World} (h : Touch S a w) (n : Nat) : Touch S a (w.drewN n) := ⟨h.os, h.tape, h.output, h.size, h.block⟩

theorem Touch.alloc {S : Nat → Prop} {a w : World} (h : Touch S a w) (o : Obj) : Touch S a (w.alloc o) :=
  h.trans (S' := fun _ => False) ⟨rfl, rfl, rfl, by simp, fun k hk _ => Below.heap_alloc _ _ _ hk⟩ (fun _ _ e => e.elim)

theorem Touch.setCell {S : Nat → Prop} {a w : World} (h : Touch S a w) {p : Addr} (hp : p.block < a.heap.size → S p.block) (u : Value) : Touch S a (w.setCell p u) :=
  h.trans (S' := fun k => k = p.block) ⟨rfl, rfl, rfl, by simp [World.setCell], fun k _ hk => Below.heap_setCell _ _ _ _ hk⟩ (fun i hi e => by subst e; exact hp hi)

theorem Touch.grown {S : Nat → Prop} {a w w' : World} {row : Option Nat} (h : Touch S a w) (hg : w.grownBy w' row) (hr : ∀ k, row = some k → k < a.heap.size → S k) : Touch S a w' :=
  h.trans (S' := fun k => row = some k) ⟨hg.os, hg.tape, hg.output, hg.size, fun k hk hn => hg.block k hk (fun e => hn e.symm)⟩ (fun i hi e => hr i e hi)

theorem Touch.cell {S : Nat → Prop} {w w' : World} (h : Touch S w w') {p : Addr} (hp : p.block < w.heap.size) (hn : ¬ S p.block) : w'.cell? p = w.cell? p := World.cell?_of_block (w := w) (h.block p.block hp hn)

theorem touch_of_below {B : Nat} {w w' : World} (h : Below B w w') : Touch (fun k => B ≤ k) w w' :=
  ⟨h.os, h.tape, h.output, h.size, fun k _ hn => h.block k (by omega)⟩

/-! ### A block of two cells -/
theorem cell_two0 {w : World} {b : Nat} {v u : Value} {t : TypeId} (h : w.heap[b]? = some (.cells #[v, u] t (0, 0))) : w.cell? ⟨b, 0, none⟩ = some v := by simp [World.cell?, h]
theorem cell_two1 {w : World} {b : Nat} {v u : Value} {t : TypeId} (h : w.heap[b]? = some (.cells #[v, u] t (0, 0))) : w.cell? ⟨b, 1, none⟩ = some u := by simp [World.cell?, h]
theorem free_two {w : World} {b i : Nat} {v u : Value} {t : TypeId} (h : w.heap[b]? = some (.cells #[v, u] t (0, 0))) : w.frozen? ⟨b, i, none⟩ = false := by simp [World.frozen?, h]
theorem two_set0 {w : World} {b : Nat} {v u x : Value} {t : TypeId} (h : w.heap[b]? = some (.cells #[v, u] t (0, 0))) : (w.setCell ⟨b, 0, none⟩ x).heap[b]? = some (.cells #[x, u] t (0, 0)) := by
  have hlt := lt_of_block h
  have h' : w.heap[b] = .cells #[v, u] t (0, 0) := by simpa [Array.getElem?_eq_getElem hlt] using h
  show (w.heap.modify b _)[b]? = _
  rw [Array.getElem?_eq_getElem (by simpa using hlt), Array.getElem_modify_self, h']
  rfl
theorem two_set1 {w : World} {b : Nat} {v u x : Value} {t : TypeId} (h : w.heap[b]? = some (.cells #[v, u] t (0, 0))) : (w.setCell ⟨b, 1, none⟩ x).heap[b]? = some (.cells #[v, x] t (0, 0)) := by
  have hlt := lt_of_block h
  have h' : w.heap[b] = .cells #[v, u] t (0, 0) := by simpa [Array.getElem?_eq_getElem hlt] using h
  show (w.heap.modify b _)[b]? = _
  rw [Array.getElem?_eq_getElem (by simpa using hlt), Array.getElem_modify_self, h']
  rfl

/-! ### The writer -/
def bytesV (l : List Nat) : List Value := l.map fun x : Nat => Value.int .u8 (x : Int)

def Wr (w : World) (b : Nat) (bs : List Bool) : Prop :=
  ∃ v, w.heap[b]? = some (.cells #[v, .int .i64 bs.length] 30 (0, 0)) ∧ w.ownsRow 0 5 1 v ((bs.length + 7) / 8) (bytesV (Bt.pack bs))

/-- The blocks that the writer at b uses. -/
def Fp (w : World) (b k : Nat) : Prop := k = b ∨ ∃ v c, w.heap[b]? = some (.cells #[v, c] 30 (0, 0)) ∧ v.ownBlock = some k

structure WStep (w w' : World) (b : Nat) (bs : List Bool) : Prop where
  wr : Wr w' b bs
  touch : Touch (Fp w b) w w'
  fp : ∀ k, Fp w' b k → Fp w b k ∨ w.heap.size ≤ k

theorem WStep.refl {w : World} {b : Nat} {bs : List Bool} (h : Wr w b bs) : WStep w w b bs := ⟨h, Touch.refl _ _, fun _ h => .inl h⟩

theorem WStep.trans {a w c : World} {b : Nat} {bs bs' : List Bool} (h : WStep a w b bs) (k : WStep w c b bs') : WStep a c b bs' :=
  ⟨k.wr, h.touch.trans k.touch (fun i hi e => (h.fp i e).elim id (fun g => by omega)),
    fun i e => (k.fp i e).elim (fun e => h.fp i e) (fun e => .inr (Nat.le_trans h.touch.size e))⟩

theorem WStep.drew {w w' : World} {b : Nat} {bs : List Bool} (h : WStep w w' b bs) : WStep w w'.drew b bs := ⟨h.wr, h.touch.drew, h.fp⟩

theorem Fp.self (w : World) (b : Nat) : Fp w b b := .inl rfl

theorem Wr.lt {w : World} {b : Nat} {bs : List Bool} (h : Wr w b bs) : b < w.heap.size := by
  obtain ⟨v, h, _⟩ := h
  exact lt_of_block h

theorem Wr.fp_lt {w : World} {b : Nat} {bs : List Bool} (h : Wr w b bs) {k : Nat} (hk : Fp w b k) : k < w.heap.size := by
  rcases hk with rfl | ⟨v, c, hb, ho⟩
  · exact h.lt
  · obtain ⟨v', hb', hown⟩ := h
    rw [hb] at hb'
    simp at hb'
    obtain ⟨rfl, rfl⟩ := hb'
    exact (hown.lt k ho).2

/-- What the writer uses is as it was: it is the writer that it was. -/
theorem Wr.kept {w w' : World} {b : Nat} {bs : List Bool} (h : Wr w b bs) (hk : ∀ k, Fp w b k → w'.heap[k]? = w.heap[k]?) : Wr w' b bs := by
  obtain ⟨v, hb, hown⟩ := h
  refine ⟨v, (hk b (.inl rfl)).trans hb, hown.1, ?_⟩
  rcases hown.2 with h2 | ⟨g, cap, cur, hv, hg, hh, r⟩
  · exact .inl h2
  · exact .inr ⟨g, cap, cur, hv, hg, (hk g (.inr ⟨v, _, hb, by rw [hv]; rfl⟩)).trans hh, r⟩

theorem Fp.of_same {w w' : World} {b k : Nat} (hb : w'.heap[b]? = w.heap[b]?) (h : Fp w' b k) : Fp w b k := by
  rcases h with h | ⟨v, c, h, ho⟩
  · exact .inl h
  · exact .inr ⟨v, c, by rw [← hb]; exact h, ho⟩

/-- A new writer. -/
theorem wr_new {w : World} : Wr (w.alloc (.cells #[.slice none 0 0, .int .i64 0] 30)) w.heap.size [] :=
  ⟨.slice none 0 0, by show (w.heap.push _)[_]? = _; simp, by simpa [bytesV, Bt.pack_nil] using World.ownsRow_nil _ _ _ _⟩

theorem fp_new {w : World} {k : Nat} (h : Fp (w.alloc (.cells #[.slice none 0 0, .int .i64 0] 30)) w.heap.size k) : k = w.heap.size := by
  rcases h with h | ⟨v, c, h, ho⟩
  · exact h
  · rw [show (w.alloc (.cells #[.slice none 0 0, .int .i64 0] 30)).heap[w.heap.size]? = some (.cells #[.slice none 0 0, .int .i64 0] 30) by show (w.heap.push _)[_]? = _; simp] at h
    simp at h
    obtain ⟨rfl, rfl⟩ := h
    simp [Value.ownBlock] at ho

end Go.Proofs.YtlnpbcpajllkbaaGreatDoor

/- The writer's inner function: one bit more; condition: fewer than two to the fiftieth bits were put. -/
namespace Go.Proofs.YtlnpbcpajllkbaaGreatDoor
open Go.RowKit
theorem Tryz.info5 : (Tryz.prog.info? 5).map (fun i => (i.zero, i.size, i.bytes)) = some (some (.int .u8 0), 1, 1) := by kernel_rfl

theorem add_zero (g j : Nat) : (⟨g, 0, none⟩ : Addr).add j = ⟨g, j, none⟩ := by
  unfold Addr.add
  split <;> simp_all

/-! ### What the model reckons -/
theorem or_bit (x m : Nat) (c : Int) (hm : m < 8) (hx : x < 2 ^ m) (hc0 : 0 ≤ c) (hc1 : c ≤ 1) :
    bits .or .u8 (x : Int) (wrap64 (c * 2 ^ m) % 256) = ((x + (c == 1).toNat * 2 ^ m : Nat) : Int) := by
  have hp : (2 : Int) ^ m ≤ 128 := by
    rcases (show m = 0 ∨ m = 1 ∨ m = 2 ∨ m = 3 ∨ m = 4 ∨ m = 5 ∨ m = 6 ∨ m = 7 by omega) with rfl | rfl | rfl | rfl | rfl | rfl | rfl | rfl <;> decide
  have hpn : 2 ^ m ≤ 128 := by
    rcases (show m = 0 ∨ m = 1 ∨ m = 2 ∨ m = 3 ∨ m = 4 ∨ m = 5 ∨ m = 6 ∨ m = 7 by omega) with rfl | rfl | rfl | rfl | rfl | rfl | rfl | rfl <;> decide
  rcases (show c = 0 ∨ c = 1 by omega) with rfl | rfl
  · have e : (wrap64 (0 * 2 ^ m) % 256 : Int) = ((0 : Nat) : Int) := by simp [wrap64]
    rw [e, u8_or_nat x 0 (by omega) (by decide)]
    simp
  · have e : (wrap64 (1 * 2 ^ m) % 256 : Int) = ((2 ^ m : Nat) : Int) := by
      have : ((2 ^ m : Nat) : Int) = (2 : Int) ^ m := by simp
      rw [Int.one_mul, this]
      unfold wrap64
      have : (0 : Int) < 2 ^ m := by rw [← this]; exact_mod_cast Nat.pow_pos (by decide)
      omega
    rw [e, u8_or_nat x (2 ^ m) (by omega) (by omega), Nat.or_comm, nat_join m (2 ^ m) x (by simp) hx]
    simp [Nat.add_comm]

end Go.Proofs.YtlnpbcpajllkbaaGreatDoor

/- One bit more: the writer that holds a row of bits then holds that row and the bit; condition: fewer than two to the fiftieth bits were put. -/
namespace Go.Proofs.YtlnpbcpajllkbaaGreatDoor
open Go.RowKit

theorem ownsRow_set {w : World} {g n cap : Nat} {xs : List Value} (h : w.ownsRow 0 5 1 (.slice (some ⟨g, 0, none⟩) n cap) n xs) (i : Nat) (x : Value) :
    (w.setCell ⟨g, i, none⟩ x).ownsRow 0 5 1 (.slice (some ⟨g, 0, none⟩) n cap) n (xs.set i x) := by
  obtain ⟨h1, h2⟩ := h
  rcases h2 with ⟨h2, _⟩ | ⟨g', cap', cur, hv, hg, hh, hle, hm, hcs, htk⟩
  · simp at h2
  · simp at hv
    obtain ⟨rfl, rfl⟩ := hv
    refine ⟨by simpa using h1, .inr ⟨g, cap, cur.set! i x, rfl, hg, ?_, hle, hm, by simpa using hcs, ?_⟩⟩
    · have hlt := lt_of_block hh
      have h' : w.heap[g] = .cells cur 5 (0, 0) := by simpa [Array.getElem?_eq_getElem hlt] using hh
      show (w.heap.modify g _)[g]? = _
      rw [Array.getElem?_eq_getElem (by simpa using hlt), Array.getElem_modify_self, h']
      rfl
    · rw [← htk]
      simp [List.take_set]

end Go.Proofs.YtlnpbcpajllkbaaGreatDoor

/- Put and Code of a writer. -/
namespace Go.Proofs.YtlnpbcpajllkbaaGreatDoor
open Go.RowKit

def fitsB (n : Int) : Bool := decide (0 ≤ n) && decide (n ≤ 32)

theorem fits_yes (n : Int) (w : World) (h0 : 0 ≤ n) (h1 : n ≤ 32) :
    Calls Tryz.prog 43 #[.int .i64 n] w fun e w' => e = .returned (.bool true) ∧ w' = w := by
  go_enter Tryz.func43, Tryz.ntmps43
  go_wp2
  go_ret
  exact ⟨rfl, rfl⟩

theorem fits_no (n : Int) (w : World) (h : n < 0 ∨ 32 < n) :
    Calls Tryz.prog 43 #[.int .i64 n] w fun e w' => e = .returned (.bool false) ∧ w' = w := by
  rcases h with h | h
  · go_enter Tryz.func43, Tryz.ntmps43
    go_wp2
    go_ret
    exact ⟨rfl, rfl⟩
  · have h' : 0 ≤ n := by omega
    have hd : decide (n ≤ 32) = false := by simp; omega
    go_enter Tryz.func43, Tryz.ntmps43
    go_wp2
    go_ret
    exact ⟨by rw [← hd]; rfl, rfl⟩

theorem i64_and_mask (n : Int) (m : Nat) (hm : m ≤ 62) : bits .and .i64 n (2 ^ m - 1) = n % 2 ^ m := by
  have hp : (2 ^ m : Nat) ≤ 2 ^ 62 := Nat.pow_le_pow_right (by decide) hm
  have hp0 : 0 < (2 ^ m : Nat) := Nat.pow_pos (by decide)
  have hc : (2 : Int) ^ m = ((2 ^ m : Nat) : Int) := by simp
  have hd : (2 ^ m : Nat) ∣ 2 ^ 64 := Nat.pow_dvd_pow 2 (by omega)
  rw [hc]
  have h1 : (BitVec.ofInt 64 (((2 ^ m : Nat) : Int) - 1)).toNat = 2 ^ m - 1 := by
    rw [BitVec.toNat_ofInt]
    omega
  have key : (BitVec.ofInt 64 n &&& BitVec.ofInt 64 (((2 ^ m : Nat) : Int) - 1)).toNat = (n % ((2 ^ 64 : Nat) : Int)).toNat % 2 ^ m := by
    rw [BitVec.toNat_and, BitVec.toNat_ofInt, h1, Nat.and_two_pow_sub_one_eq_mod]
  show IntKind.i64.wrap ((BitVec.ofInt 64 n &&& BitVec.ofInt 64 (((2 ^ m : Nat) : Int) - 1)).toNat : Nat) = _
  have hlt : (n % ((2 ^ 64 : Nat) : Int)).toNat % 2 ^ m < 2 ^ m := Nat.mod_lt _ hp0
  have e1 : (((n % ((2 ^ 64 : Nat) : Int)).toNat % 2 ^ m : Nat) : Int) = n % ((2 ^ m : Nat) : Int) := by
    rw [Int.natCast_emod, Int.toNat_of_nonneg (Int.emod_nonneg _ (by decide)), Int.emod_emod_of_dvd _ (by exact_mod_cast hd)]
  rw [key, e1, IntKind.wrap_i64]
  have h2 := Int.emod_nonneg n (b := ((2 ^ m : Nat) : Int)) (by omega)
  have h3 := Int.emod_lt_of_pos n (b := ((2 ^ m : Nat) : Int)) (by omega)
  omega

theorem i64_and1 (n : Int) : bits .and .i64 n 1 = n % 2 := i64_and_mask n 1 (by decide)

end Go.Proofs.YtlnpbcpajllkbaaGreatDoor

/- A reader of bits: Open, Taken, Left. -/
namespace Go.Proofs.YtlnpbcpajllkbaaGreatDoor
open Go.RowKit

def Rd (w : World) (b : Nat) (s : ByteArray) (t : Nat) : Prop := w.heap[b]? = some (.cells #[.string s, .int .i64 t] 161 (0, 0))

/-- Nothing but draws. -/
structure Still (w w' : World) : Prop where
  heap : w'.heap = w.heap
  os : w'.os = w.os
  tape : w'.tape = w.tape
  output : w'.output = w.output

theorem Still.refl (w : World) : Still w w := ⟨rfl, rfl, rfl, rfl⟩
theorem Still.trans {a b c : World} (h : Still a b) (k : Still b c) : Still a c := ⟨k.heap.trans h.heap, k.os.trans h.os, k.tape.trans h.tape, k.output.trans h.output⟩
theorem Still.drew {w w' : World} (h : Still w w') : Still w w'.drew := ⟨h.heap, h.os, h.tape, h.output⟩
theorem Still.drewN {w w' : World} (h : Still w w') (n : Nat) : Still w (w'.drewN n) := ⟨h.heap, h.os, h.tape, h.output⟩
theorem Still.touch {w w' : World} (h : Still w w') (S : Nat → Prop) : Touch S w w' := ⟨h.os, h.tape, h.output, by rw [h.heap]; exact Nat.le_refl _, fun k _ _ => by rw [h.heap]⟩
theorem Still.rd {w w' : World} {b : Nat} {s : ByteArray} {t : Nat} (h : Still w w') (r : Rd w b s t) : Rd w' b s t := by unfold Rd; rw [h.heap]; exact r
theorem Still.size {w w' : World} (h : Still w w') : w'.heap.size = w.heap.size := by rw [h.heap]

theorem Rd.lt {w : World} {b : Nat} {s : ByteArray} {t : Nat} (r : Rd w b s t) : b < w.heap.size := lt_of_block r
theorem Rd.c0 {w : World} {b : Nat} {s : ByteArray} {t : Nat} (r : Rd w b s t) : w.cell? ⟨b, 0, none⟩ = some (.string s) := cell_two0 r
theorem Rd.c1 {w : World} {b : Nat} {s : ByteArray} {t : Nat} (r : Rd w b s t) : w.cell? ⟨b, 1, none⟩ = some (.int .i64 t) := cell_two1 r
theorem Rd.f1 {w : World} {b : Nat} {s : ByteArray} {t : Nat} (r : Rd w b s t) : w.frozen? ⟨b, 1, none⟩ = false := free_two r
theorem Rd.set {w : World} {b : Nat} {s : ByteArray} {t t' : Nat} (r : Rd w b s t) : Rd (w.setCell ⟨b, 1, none⟩ (.int .i64 t')) b s t' := two_set1 r

theorem open_any (s : ByteArray) (w : World) :
    Calls Tryz.prog 69 #[.string s] w fun e w' => e = .returned (.pointer (some ⟨w.heap.size, 0, none⟩)) ∧ w' = w.alloc (.cells #[.string s, .int .i64 0] 161) := by
  go_enter Tryz.func69, Tryz.ntmps69
  go_wp2
  go_ret
  exact ⟨rfl, rfl⟩

theorem rd_new (w : World) (s : ByteArray) : Rd (w.alloc (.cells #[.string s, .int .i64 0] 161)) w.heap.size s 0 := by
  show (w.heap.push _)[_]? = _
  simp

theorem taken_any (b : Nat) (s : ByteArray) (t : Nat) (w : World) (r : Rd w b s t) :
    Calls Tryz.prog 71 #[.pointer (some ⟨b, 0, none⟩)] w fun e w' => e = .returned (.int .i64 t) ∧ w' = w := by
  have c1 := r.c1
  go_enter Tryz.func71, Tryz.ntmps71
  go_wp2
  go_ret
  exact ⟨rfl, rfl⟩

set_option maxHeartbeats 400000 in
theorem left_any (b : Nat) (s : ByteArray) (t : Nat) (w : World) (r : Rd w b s t) (hs : s.size ≤ 140737488355328) (ht : t ≤ 8 * s.size) :
    Calls Tryz.prog 94 #[.pointer (some ⟨b, 0, none⟩)] w fun e w' => e = .returned (.int .i64 (8 * s.size - t)) ∧ Still w w' := by
  have c0 := r.c0
  have c1 := r.c1
  go_enter Tryz.func94, Tryz.ntmps94
  go_wp2
  go_region
  all_goals go_wp2
  all_goals go_ret
  all_goals exact ⟨rfl, (Still.refl _).drew⟩

theorem whole_any (n : Int) (w : World) (h0 : 0 ≤ n) (h1 : n ≤ 1125899906842632) :
    Calls Tryz.prog 95 #[.int .i64 n] w fun e w' => e = .returned (.int .i64 ((n + 7) / 8)) ∧ w' = w := by
  go_enter Tryz.func95, Tryz.ntmps95
  go_wp2
  go_ret
  exact ⟨rfl, rfl⟩
end Go.Proofs.YtlnpbcpajllkbaaGreatDoor

/- Peek of a reader. -/
namespace Go.Proofs.YtlnpbcpajllkbaaGreatDoor
open Go.RowKit

theorem ret_two {i j : IntKind} {a b c d : Int} (h : a = c) (k : b = d) : Ending.returned (.tuple #[.int i a, .int j b]) = .returned (.tuple #[.int i c, .int j d]) := by rw [h, k]

theorem wraps_i64 (n : Int) (h₀ : 0 ≤ n) (h₁ : n < 2 ^ 62) : IntKind.i64.wrap n = n := by rw [IntKind.wrap_i64]; omega

theorem i64_or_nat (a b : Nat) (ha : a < 2 ^ 62) (hb : b < 2 ^ 62) : bits .or .i64 (a : Int) (b : Int) = ((a ||| b : Nat) : Int) :=
  (bits_nat .i64 62 (by decide) wraps_i64 a b ha hb).2

theorem byte_get (s : ByteArray) (i : Nat) (h : i < s.size) : s[i].toNat = Bt.byteN s i := by
  unfold Bt.byteN
  have : i < s.data.size := h
  unfold Array.getD
  rw [dif_pos this]
  rfl

theorem peek_or (s : ByteArray) (f k : Nat) (hk : k ≤ 4) (h : f + k < s.size) :
    bits .or .i64 (Bt.rval s (8 * f) (8 * k) : Nat) (wrap64 (wrap64 ((s[f + k].toNat : Nat) : Int) * 2 ^ (8 * k))) = ((Bt.rval s (8 * f) (8 * (k + 1)) : Nat) : Int) := by
  have hv := Bt.rval_lt s (8 * f) (8 * k)
  have hb := Bt.byteN_lt s (f + k)
  have hp : 2 ^ (8 * k) ≤ 2 ^ 32 := Nat.pow_le_pow_right (by decide) (by omega)
  have hm : Bt.byteN s (f + k) * 2 ^ (8 * k) < 2 ^ 40 := by
    calc Bt.byteN s (f + k) * 2 ^ (8 * k) ≤ 255 * 2 ^ 32 := Nat.mul_le_mul (by omega) hp
      _ < 2 ^ 40 := by decide
  rw [byte_get s _ h]
  have e1 : wrap64 ((Bt.byteN s (f + k) : Nat) : Int) = ((Bt.byteN s (f + k) : Nat) : Int) := by unfold wrap64; omega
  have e2 : wrap64 (((Bt.byteN s (f + k) : Nat) : Int) * 2 ^ (8 * k)) = ((Bt.byteN s (f + k) * 2 ^ (8 * k) : Nat) : Int) := by
    have : ((Bt.byteN s (f + k) * 2 ^ (8 * k) : Nat) : Int) = ((Bt.byteN s (f + k) : Nat) : Int) * 2 ^ (8 * k) := by simp
    rw [← this]
    unfold wrap64
    omega
  rw [e1, e2, i64_or_nat _ _ (by omega) (by omega), Nat.or_comm, nat_join (8 * k) _ _ (by simp) hv]
  rw [show 8 * (k + 1) = 8 * k + 8 by omega, Bt.rval_add, show 8 * f + 8 * k = 8 * (f + k) by omega, Bt.rval_byte, Nat.mul_comm, Nat.add_comm]

theorem peek_and (v d m : Nat) (hm : m ≤ 32) : bits .and .i64 (((v : Nat) : Int) / 2 ^ d) (wrap64 (wrap64 (2 ^ m) - 1)) = ((v / 2 ^ d % 2 ^ m : Nat) : Int) := by
  have hp : 2 ^ m ≤ 2 ^ 32 := Nat.pow_le_pow_right (by decide) hm
  have hp0 : 0 < 2 ^ m := Nat.pow_pos (by decide)
  have hc : (2 : Int) ^ m = ((2 ^ m : Nat) : Int) := by simp
  have e : wrap64 (wrap64 (2 ^ m) - 1) = 2 ^ m - 1 := by rw [hc]; unfold wrap64; omega
  rw [e, i64_and_mask _ m (by omega)]
  simp

set_option maxHeartbeats 1000000 in
theorem peek_yes (b : Nat) (s : ByteArray) (t n : Nat) (w : World) (r : Rd w b s t) (hs : s.size ≤ 140737488355328) (ht : t ≤ 8 * s.size) (hn : n ≤ 32) :
    Calls Tryz.prog 89 #[.pointer (some ⟨b, 0, none⟩), .int .i64 n] w fun e w' => e = .returned (.tuple #[.int .i64 (Bt.rval s t (min n (8 * s.size - t))), .int .i64 (min n (8 * s.size - t) : Nat)]) ∧ Still w w' := by
  obtain ⟨m, hm⟩ : ∃ m, min n (8 * s.size - t) = m := ⟨_, rfl⟩
  have hml : m ≤ 32 ∧ m ≤ 8 * s.size - t := by omega
  have HM : Hid _ := hm
  rw [hm]
  clear hm
  go_enter Tryz.func89, Tryz.ntmps89
  go_wp2_with (first | (go_at_call 43; refine (fits_yes _ _ (by omega) (by omega)).mono ?_; rintro e w ⟨rfl, rfl⟩))
  refine (left_any b s t _ r hs ht).mono ?_
  rintro e w1 ⟨rfl, hw1⟩
  have HS : Hid _ := hw1
  have r1 := hw1.rd r
  have c0 := r1.c0
  have c1 := r1.c1
  clear r r1 hw1
  by_cases hle : (n : Int) ≤ 8 * (s.size : Int) - t
  all_goals
    go_wp2_with fail
    first
      | (have hmn : m = n := by have := HM.out; omega
         subst hmn)
      | rw [show 8 * (s.size : Int) - (t : Int) = (m : Int) by have := HM.out; omega]
    clear hle
    go_region
    all_goals go_wp2_with fail
    refine (whole_any _ _ (by omega) (by omega)).mono ?_
    rintro e w2 ⟨rfl, rfl⟩
    obtain ⟨c, hc⟩ : ∃ c : Nat, (t % 8 + m + 7) / 8 = c := ⟨_, rfl⟩
    rw [show ((t : Int) % 8 + (m : Int) + 7) / 8 = (c : Int) by omega]
    have HC : Hid _ := hc
    have hcs : t / 8 + c ≤ s.size := by omega
    have hc5 : c ≤ 5 := by omega
    clear hc
    go_wp2_with fail
    go_loop [9, 36] (fun v i => ∃ k : Nat, k ≤ c ∧ i = .int .i64 k ∧ v = .int .i64 (Bt.rval s (8 * (t / 8)) (8 * k))) (fun _ i => c - (intOf i).toNat)
    case atStart => exact ⟨0, Nat.zero_le _, rfl, rfl⟩
    case round =>
      obtain ⟨k, hk, rfl, rfl⟩ := hrel
      by_cases hlt : k < c
      · have hix : t / 8 + k < s.size := by omega
        go_wp2
        go_round
        case rel => exact ⟨k + 1, by omega, by go_num, by rw [peek_or s (t / 8) k (by omega) hix]⟩
        case measure => simp [intOf]; omega
      · obtain rfl : k = c := by omega
        go_wp2
        go_region
        all_goals go_wp2
        all_goals go_ret2
        all_goals exact ⟨ret_two (by rw [peek_and _ _ _ hml.1, Bt.rval_peek s t m k (by have := HC.out; omega)]) rfl, HS.out.drew.drew⟩
end Go.Proofs.YtlnpbcpajllkbaaGreatDoor
