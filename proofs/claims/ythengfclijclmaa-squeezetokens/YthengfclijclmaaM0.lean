/- Texts of this proof, one behind the other: what each says stands ahead of it. -/
import Derived.WalkKit
import Derived.Deep.QuietTactic
import Derived.Test.YthengfclijclmaaChecked
import Derived.WalkSpells
import Derived.WalkLawsBesides
import Derived.BigRegion
import Derived.Maps.AppendAt
import Derived.BigQuiet
/- Plain facts on rows of bits: their value as a number, and how they are packed into bytes, eight a byte, the lowest first; no condition. -/
namespace Go.Proofs.Ythengfclijclmaa

def strOf (l : List Nat) : ByteArray := ⟨(l.map UInt8.ofNat).toArray⟩

theorem size_strOf (l : List Nat) : (strOf l).size = l.length := by simp [strOf, ByteArray.size]

def ibit (v : Int) (i : Nat) : Bool := v / 2 ^ i % 2 == 1

namespace Bt

def val : List Bool → Nat
  | [] => 0
  | c :: cs => c.toNat + 2 * val cs

theorem val_lt (l : List Bool) : val l < 2 ^ l.length := by
  induction l with
  | nil => simp [val]
  | cons c cs ih =>
    simp only [val, List.length_cons, Nat.pow_succ]
    have := Bool.toNat_le c
    omega

theorem val_append (l m : List Bool) : val (l ++ m) = val l + 2 ^ l.length * val m := by
  induction l with
  | nil => simp [val]
  | cons c cs ih =>
    simp only [List.cons_append, val, List.length_cons, Nat.pow_succ, ih]
    rw [Nat.mul_add, Nat.mul_comm (2 ^ cs.length) 2, Nat.mul_assoc]
    omega

theorem val_single (c : Bool) : val [c] = c.toNat := by simp [val]

theorem val_zeros (n : Nat) : val (List.replicate n false) = 0 := by
  induction n with
  | zero => rfl
  | succ n ih => simp [List.replicate_succ, val, ih]

def byteAt (bs : List Bool) (i : Nat) : Nat := val ((bs.drop (8 * i)).take 8)
def pack (bs : List Bool) : List Nat := (List.range ((bs.length + 7) / 8)).map (byteAt bs)

theorem byteAt_lt (bs : List Bool) (i : Nat) : byteAt bs i < 256 := by
  have h := val_lt ((bs.drop (8 * i)).take 8)
  have h2 : ((bs.drop (8 * i)).take 8).length ≤ 8 := by simp; omega
  have h3 : 2 ^ ((bs.drop (8 * i)).take 8).length ≤ 2 ^ 8 := Nat.pow_le_pow_right (by decide) h2
  unfold byteAt
  omega

theorem byteAt_last_lt (bs : List Bool) : byteAt bs (bs.length / 8) < 2 ^ (bs.length % 8) := by
  have h := val_lt ((bs.drop (8 * (bs.length / 8))).take 8)
  have h2 : ((bs.drop (8 * (bs.length / 8))).take 8).length = bs.length % 8 := by simp; omega
  rw [h2] at h
  exact h

theorem byteAt_snoc_low (bs : List Bool) (c : Bool) (i : Nat) (h : i < bs.length / 8) : byteAt (bs ++ [c]) i = byteAt bs i := by
  unfold byteAt
  rw [List.drop_append_of_le_length (by omega), List.take_append_of_le_length (by simp; omega)]

theorem byteAt_snoc_last (bs : List Bool) (c : Bool) : byteAt (bs ++ [c]) (bs.length / 8) = byteAt bs (bs.length / 8) + c.toNat * 2 ^ (bs.length % 8) := by
  unfold byteAt
  have hd : (bs.drop (8 * (bs.length / 8))).length = bs.length % 8 := by simp; omega
  rw [List.drop_append_of_le_length (by omega), List.take_of_length_le (by simp; omega), List.take_of_length_le (by omega), val_append, hd, val_single, Nat.mul_comm c.toNat]

theorem length_pack (bs : List Bool) : (pack bs).length = (bs.length + 7) / 8 := by simp [pack]

theorem pack_new (bs : List Bool) (c : Bool) (h : bs.length % 8 = 0) : pack (bs ++ [c]) = pack bs ++ [c.toNat] := by
  have e1 : (bs.length + 7) / 8 = bs.length / 8 := by omega
  have e2 : (bs.length + 1 + 7) / 8 = bs.length / 8 + 1 := by omega
  have hl := byteAt_snoc_last bs c
  have hz := byteAt_last_lt bs
  rw [h] at hl hz
  unfold pack
  simp only [List.length_append, List.length_cons, List.length_nil, Nat.zero_add, e1, e2, List.range_succ, List.map_append, List.map_cons, List.map_nil]
  rw [hl]
  congr 1
  · apply List.map_congr_left
    intro i hi
    exact byteAt_snoc_low bs c i (by simpa using hi)
  · simp only [List.cons.injEq, and_true]
    simp at hz ⊢
    omega

theorem pack_mid (bs : List Bool) (c : Bool) (h : bs.length % 8 ≠ 0) : pack (bs ++ [c]) = (pack bs).set (bs.length / 8) (byteAt bs (bs.length / 8) + c.toNat * 2 ^ (bs.length % 8)) := by
  have e1 : (bs.length + 7) / 8 = bs.length / 8 + 1 := by omega
  have e2 : (bs.length + 1 + 7) / 8 = bs.length / 8 + 1 := by omega
  have hl := byteAt_snoc_last bs c
  unfold pack
  simp only [List.length_append, List.length_cons, List.length_nil, Nat.zero_add, e1, e2, List.range_succ, List.map_append, List.map_cons, List.map_nil]
  rw [List.set_append_right _ _ (by simp), hl]
  congr 1
  · apply List.map_congr_left
    intro i hi
    exact byteAt_snoc_low bs c i (by simpa using hi)
  · simp

theorem pack_getD (bs : List Bool) (i : Nat) (h : i < (bs.length + 7) / 8) : (pack bs).getD i 0 = byteAt bs i := by
  simp [pack, h]

theorem pack_lt (bs : List Bool) : ∀ x ∈ pack bs, x < 256 := by
  intro x hx
  simp only [pack, List.mem_map] at hx
  obtain ⟨i, _, rfl⟩ := hx
  exact byteAt_lt bs i

theorem pack_nil : pack [] = [] := by simp [pack]

end Bt
end Go.Proofs.Ythengfclijclmaa

/- What a writer of bits and a reader of bits are in memory, and what a call that uses one leaves alone; no condition. -/
namespace Go.Proofs.Ythengfclijclmaa
open Go.RowKit

/-- Of the blocks that were there, those outside S are as they were. -/
structure Touch (S : Nat → Prop) (w w' : World) : Prop where
  os : w'.os = w.os
  tape : w'.tape = w.tape
  output : w'.output = w.output
  size : w.heap.size ≤ w'.heap.size
  block : ∀ k, k < w.heap.size → ¬ S k → w'.heap[k]? = w.heap[k]?

theorem Touch.refl (S : Nat → Prop) (w : World) : Touch S w w := ⟨rfl, rfl, rfl, Nat.le_refl _, fun _ _ _ => rfl⟩

theorem Touch.trans {S S' : Nat → Prop} {a b c : World} (h : Touch S a b) (k : Touch S' b c) (hs : ∀ i, i < a.heap.size → S' i → S i) : Touch S a c :=
  ⟨k.os.trans h.os, k.tape.trans h.tape, k.output.trans h.output, Nat.le_trans h.size k.size,
    fun i hi hn => (k.block i (Nat.lt_of_lt_of_le hi h.size) (fun e => hn (hs i hi e))).trans (h.block i hi hn)⟩

theorem Touch.mono {S S' : Nat → Prop} {a b : World} (h : Touch S a b) (hs : ∀ i, i < a.heap.size → S i → S' i) : Touch S' a b :=
  ⟨h.os, h.tape, h.output, h.size, fun i hi hn => h.block i hi (fun e => hn (hs i hi e))⟩

theorem Touch.below {S : Nat → Prop} {a b : World} (h : Touch S a b) (B : Nat) (hB : B ≤ a.heap.size) (hs : ∀ i, S i → B ≤ i) : Below B a b :=
  ⟨h.os, h.tape, h.output, h.size, fun i hi => h.block i (by omega) (fun e => by have := hs i e; omega)⟩

theorem Touch.drew {S : Nat → Prop} {a w : World} (h : Touch S a w) : Touch S a w.drew := ⟨h.os, h.tape, h.output, h.size, h.block⟩

theorem Touch.drewN {S : Nat → Prop} {a w : World} (h : Touch S a w) (n : Nat) : Touch S a (w.drewN n) := ⟨h.os, h.tape, h.output, h.size, h.block⟩

theorem Touch.alloc {S : Nat → Prop} {a w : World} (h : Touch S a w) (o : Obj) : Touch S a (w.alloc o) :=
  h.trans (S' := fun _ => False) ⟨rfl, rfl, rfl, by simp, fun k hk _ => Below.heap_alloc _ _ _ hk⟩ (fun _ _ e => e.elim)

theorem Touch.setCell {S : Nat → Prop} {a w : World} (h : Touch S a w) {p : Addr} (hp : p.block < a.heap.size → S p.block) (u : Value) : Touch S a (w.setCell p u) :=
  h.trans (S' := fun k => k = p.block) ⟨rfl, rfl, rfl, by simp [World.setCell], fun k _ hk => Below.heap_setCell _ _ _ _ hk⟩ (fun i hi e => by subst e; exact hp hi)

theorem Touch.grown {S : Nat → Prop} {a w w' : World} {row : Option Nat} (h : Touch S a w) (hg : w.grownBy w' row) (hr : ∀ k, row = some k → k < a.heap.size → S k) : Touch S a w' :=
  h.trans (S' := fun k => row = some k) ⟨hg.os, hg.tape, hg.output, hg.size, fun k hk hn => hg.block k hk (fun e => hn e.symm)⟩ (fun i hi e => hr i e hi)

theorem Touch.cell {S : Nat → Prop} {w w' : World} (h : Touch S w w') {p : Addr} (hp : p.block < w.heap.size) (hn : ¬ S p.block) : w'.cell? p = w.cell? p := World.cell?_of_block (w := w) (h.block p.block hp hn)

theorem touch_of_below {B : Nat} {w w' : World} (h : Below B w w') : Touch (fun k => B ≤ k) w w' :=
  ⟨h.os, h.tape, h.output, h.size, fun k _ hn => h.block k (by omega)⟩

/-! ### A block of two cells -/
theorem cell_two0 {w : World} {b : Nat} {v u : Value} {t : TypeId} (h : w.heap[b]? = some (.cells #[v, u] t (0, 0))) : w.cell? ⟨b, 0, none⟩ = some v := by simp [World.cell?, h]
theorem cell_two1 {w : World} {b : Nat} {v u : Value} {t : TypeId} (h : w.heap[b]? = some (.cells #[v, u] t (0, 0))) : w.cell? ⟨b, 1, none⟩ = some u := by simp [World.cell?, h]
theorem free_two {w : World} {b i : Nat} {v u : Value} {t : TypeId} (h : w.heap[b]? = some (.cells #[v, u] t (0, 0))) : w.frozen? ⟨b, i, none⟩ = false := by simp [World.frozen?, h]
theorem two_set0 {w : World} {b : Nat} {v u x : Value} {t : TypeId} (h : w.heap[b]? = some (.cells #[v, u] t (0, 0))) : (w.setCell ⟨b, 0, none⟩ x).heap[b]? = some (.cells #[x, u] t (0, 0)) := by
  have hlt := lt_of_block h
  have h' : w.heap[b] = .cells #[v, u] t (0, 0) := by simpa [Array.getElem?_eq_getElem hlt] using h
  show (w.heap.modify b _)[b]? = _
  rw [Array.getElem?_eq_getElem (by simpa using hlt), Array.getElem_modify_self, h']
  rfl
theorem two_set1 {w : World} {b : Nat} {v u x : Value} {t : TypeId} (h : w.heap[b]? = some (.cells #[v, u] t (0, 0))) : (w.setCell ⟨b, 1, none⟩ x).heap[b]? = some (.cells #[v, x] t (0, 0)) := by
  have hlt := lt_of_block h
  have h' : w.heap[b] = .cells #[v, u] t (0, 0) := by simpa [Array.getElem?_eq_getElem hlt] using h
  show (w.heap.modify b _)[b]? = _
  rw [Array.getElem?_eq_getElem (by simpa using hlt), Array.getElem_modify_self, h']
  rfl

/-! ### The writer -/
def bytesV (l : List Nat) : List Value := l.map fun x : Nat => Value.int .u8 (x : Int)

def Wr (w : World) (b : Nat) (bs : List Bool) : Prop :=
  ∃ v, w.heap[b]? = some (.cells #[v, .int .i64 bs.length] 65 (0, 0)) ∧ w.ownsRow 0 5 1 v ((bs.length + 7) / 8) (bytesV (Bt.pack bs))

/-- The blocks that the writer at b uses. -/
def Fp (w : World) (b k : Nat) : Prop := k = b ∨ ∃ v c, w.heap[b]? = some (.cells #[v, c] 65 (0, 0)) ∧ v.ownBlock = some k

structure WStep (w w' : World) (b : Nat) (bs : List Bool) : Prop where
  wr : Wr w' b bs
  touch : Touch (Fp w b) w w'
  fp : ∀ k, Fp w' b k → Fp w b k ∨ w.heap.size ≤ k

theorem WStep.refl {w : World} {b : Nat} {bs : List Bool} (h : Wr w b bs) : WStep w w b bs := ⟨h, Touch.refl _ _, fun _ h => .inl h⟩

theorem WStep.trans {a w c : World} {b : Nat} {bs bs' : List Bool} (h : WStep a w b bs) (k : WStep w c b bs') : WStep a c b bs' :=
  ⟨k.wr, h.touch.trans k.touch (fun i hi e => (h.fp i e).elim id (fun g => by omega)),
    fun i e => (k.fp i e).elim (fun e => h.fp i e) (fun e => .inr (Nat.le_trans h.touch.size e))⟩

theorem WStep.drew {w w' : World} {b : Nat} {bs : List Bool} (h : WStep w w' b bs) : WStep w w'.drew b bs := ⟨h.wr, h.touch.drew, h.fp⟩

theorem Fp.self (w : World) (b : Nat) : Fp w b b := .inl rfl

theorem Wr.lt {w : World} {b : Nat} {bs : List Bool} (h : Wr w b bs) : b < w.heap.size := by
  obtain ⟨v, h, _⟩ := h
  exact lt_of_block h

theorem Wr.fp_lt {w : World} {b : Nat} {bs : List Bool} (h : Wr w b bs) {k : Nat} (hk : Fp w b k) : k < w.heap.size := by
  rcases hk with rfl | ⟨v, c, hb, ho⟩
  · exact h.lt
  · obtain ⟨v', hb', hown⟩ := h
    rw [hb] at hb'
    simp at hb'
    obtain ⟨rfl, rfl⟩ := hb'
    exact (hown.lt k ho).2

/-- What the writer uses is as it was: it is the writer that it was. -/
theorem Wr.kept {w w' : World} {b : Nat} {bs : List Bool} (h : Wr w b bs) (hk : ∀ k, Fp w b k → w'.heap[k]? = w.heap[k]?) : Wr w' b bs := by
  obtain ⟨v, hb, hown⟩ := h
  refine ⟨v, (hk b (.inl rfl)).trans hb, hown.1, ?_⟩
  rcases hown.2 with h2 | ⟨g, cap, cur, hv, hg, hh, r⟩
  · exact .inl h2
  · exact .inr ⟨g, cap, cur, hv, hg, (hk g (.inr ⟨v, _, hb, by rw [hv]; rfl⟩)).trans hh, r⟩

theorem Fp.of_same {w w' : World} {b k : Nat} (hb : w'.heap[b]? = w.heap[b]?) (h : Fp w' b k) : Fp w b k := by
  rcases h with h | ⟨v, c, h, ho⟩
  · exact .inl h
  · exact .inr ⟨v, c, by rw [← hb]; exact h, ho⟩

/-- A new writer. -/
theorem wr_new {w : World} : Wr (w.alloc (.cells #[.slice none 0 0, .int .i64 0] 65)) w.heap.size [] :=
  ⟨.slice none 0 0, by show (w.heap.push _)[_]? = _; simp, by simpa [bytesV, Bt.pack_nil] using World.ownsRow_nil _ _ _ _⟩

theorem fp_new {w : World} {k : Nat} (h : Fp (w.alloc (.cells #[.slice none 0 0, .int .i64 0] 65)) w.heap.size k) : k = w.heap.size := by
  rcases h with h | ⟨v, c, h, ho⟩
  · exact h
  · rw [show (w.alloc (.cells #[.slice none 0 0, .int .i64 0] 65)).heap[w.heap.size]? = some (.cells #[.slice none 0 0, .int .i64 0] 65) by show (w.heap.push _)[_]? = _; simp] at h
    simp at h
    obtain ⟨rfl, rfl⟩ := h
    simp [Value.ownBlock] at ho

end Go.Proofs.Ythengfclijclmaa

/- The writer's inner function: one bit more; condition: fewer than two to the fiftieth bits were put. -/
namespace Go.Proofs.Ythengfclijclmaa
open Go.RowKit
theorem Try.info5 : (Try.prog.info? 5).map (fun i => (i.zero, i.size, i.bytes)) = some (some (.int .u8 0), 1, 1) := by kernel_rfl

theorem add_zero (g j : Nat) : (⟨g, 0, none⟩ : Addr).add j = ⟨g, j, none⟩ := by
  unfold Addr.add
  split <;> simp_all

/-! ### What the model reckons -/
theorem or_bit (x m : Nat) (c : Int) (hm : m < 8) (hx : x < 2 ^ m) (hc0 : 0 ≤ c) (hc1 : c ≤ 1) :
    bits .or .u8 (x : Int) (wrap64 (c * 2 ^ m) % 256) = ((x + (c == 1).toNat * 2 ^ m : Nat) : Int) := by
  have hp : (2 : Int) ^ m ≤ 128 := by
    rcases (show m = 0 ∨ m = 1 ∨ m = 2 ∨ m = 3 ∨ m = 4 ∨ m = 5 ∨ m = 6 ∨ m = 7 by omega) with rfl | rfl | rfl | rfl | rfl | rfl | rfl | rfl <;> decide
  have hpn : 2 ^ m ≤ 128 := by
    rcases (show m = 0 ∨ m = 1 ∨ m = 2 ∨ m = 3 ∨ m = 4 ∨ m = 5 ∨ m = 6 ∨ m = 7 by omega) with rfl | rfl | rfl | rfl | rfl | rfl | rfl | rfl <;> decide
  rcases (show c = 0 ∨ c = 1 by omega) with rfl | rfl
  · have e : (wrap64 (0 * 2 ^ m) % 256 : Int) = ((0 : Nat) : Int) := by simp [wrap64]
    rw [e, u8_or_nat x 0 (by omega) (by decide)]
    simp
  · have e : (wrap64 (1 * 2 ^ m) % 256 : Int) = ((2 ^ m : Nat) : Int) := by
      have : ((2 ^ m : Nat) : Int) = (2 : Int) ^ m := by simp
      rw [Int.one_mul, this]
      unfold wrap64
      have : (0 : Int) < 2 ^ m := by rw [← this]; exact_mod_cast Nat.pow_pos (by decide)
      omega
    rw [e, u8_or_nat x (2 ^ m) (by omega) (by omega), Nat.or_comm, nat_join m (2 ^ m) x (by simp) hx]
    simp [Nat.add_comm]

set_option maxHeartbeats 400000 in
theorem bit_mid (b g n len cap : Nat) (x : Nat) (c : Int) (w : World)
    (h0 : w.cell? ⟨b, 0, none⟩ = some (.slice (some ⟨g, 0, none⟩) len cap))
    (h1 : w.cell? ⟨b, 1, none⟩ = some (.int .i64 n)) (hf1 : w.frozen? ⟨b, 1, none⟩ = false)
    (hx : w.cell? ⟨g, n / 8, none⟩ = some (.int .u8 x)) (hfx : w.frozen? ⟨g, n / 8, none⟩ = false)
    (hbg : b ≠ g) (hn : n / 8 < len) (hlen : n < 1125899906842624) (hmod : ((n : Int) % 8 == 0) = false) :
    Calls Try.prog 36 #[.pointer (some ⟨b, 0, none⟩), .int .i64 c] w fun e w' => e = .returned (.tuple #[]) ∧
      w' = ((w.setCell ⟨g, n / 8, none⟩ (.int .u8 (bits .or .u8 (x : Int) (wrap64 (c * 2 ^ (n % 8)) % 256)))).setCell ⟨b, 1, none⟩ (.int .i64 (n + 1))).drew := by
  go_enter Try.func36, Try.ntmps36
  go_wp2
  go_region
  all_goals go_wp2
  all_goals go_end0
  all_goals exact ⟨rfl, rfl⟩

set_option maxHeartbeats 400000 in
theorem bit_new (b n : Nat) (v : Value) (xs : List Value) (c : Int) (w : World) (hv : (∃ g cap, v = .slice (some ⟨g, 0, none⟩) (n / 8) cap) ∨ v = .slice none 0 0)
    (hown : w.ownsRow 0 5 1 v (n / 8) xs)
    (hb : w.heap[b]? = some (.cells #[v, .int .i64 n] 65 (0, 0)))
    (hlen : n < 1125899906842624) (hmod : ((n : Int) % 8 == 0) = true) :
    Calls Try.prog 36 #[.pointer (some ⟨b, 0, none⟩), .int .i64 c] w fun e w' => e = .returned (.tuple #[]) ∧
      ∃ w1 g cap, w1.ownsRow 0 5 1 (.slice (some ⟨g, 0, none⟩) (n / 8 + 1) cap) (n / 8 + 1) (xs ++ [.int .u8 0]) ∧ (w.alloc (.cells #[.int .u8 0] 5)).grownBy w1 v.ownBlock ∧ (v.ownBlock = some g ∨ g = w.heap.size + 1) ∧
      w' = (((w1.setCell ⟨b, 0, none⟩ (.slice (some ⟨g, 0, none⟩) (n / 8 + 1) cap)).setCell ⟨g, n / 8, none⟩ (.int .u8 (bits .or .u8 0 (wrap64 (c * 2 ^ (n % 8)) % 256)))).setCell ⟨b, 1, none⟩ (.int .i64 (n + 1))).drew := by
  obtain ⟨i0, hi, hz0, hz1, hz2⟩ := info_parts Try.info5
  have hblt : b < w.heap.size := lt_of_block hb
  have hbv : v.ownBlock ≠ some b := by
    intro e
    rcases hown.2 with ⟨rfl, _⟩ | ⟨g, cap, cur, rfl, _, hh, _⟩
    · simp [Value.ownBlock] at e
    · simp [Value.ownBlock] at e
      subst e
      rw [hb] at hh
      simp at hh
  have h0 := cell_two0 hb
  have h1 := cell_two1 hb
  have key : ∀ (v' : Value) (w1 : World), w1.ownsRow 0 5 1 v' (n / 8 + 1) (xs ++ [.int .u8 0]) → (w.alloc (.cells #[.int .u8 0] 5)).grownBy w1 v.ownBlock →
      ∃ g cap, v' = .slice (some ⟨g, 0, none⟩) (n / 8 + 1) cap ∧ g ≠ b ∧ w1.heap[b]? = some (.cells #[v, .int .i64 n] 65 (0, 0)) ∧ w1.cell? ⟨g, n / 8, none⟩ = some (.int .u8 0) ∧ w1.frozen? ⟨g, n / 8, none⟩ = false := by
    intro v' w1 hown' hgrow
    have hb1 : w1.heap[b]? = some (.cells #[v, .int .i64 n] 65 (0, 0)) := by
      rw [hgrow.block b (by simp; omega) (fun e => hbv e.symm), Below.heap_alloc _ _ _ hblt]; exact hb
    have hxl : xs.length = n / 8 := by have := hown.1; omega
    rcases hown'.2 with ⟨_, h⟩ | ⟨g, cap, cur, rfl, _, hh, hle, _, hcs, htk⟩
    · omega
    · refine ⟨g, cap, rfl, ?_, hb1, ?_, by simp [World.frozen?, hh]⟩
      · rintro rfl
        rw [hb1] at hh
        simp at hh
      · have := hown'.cells (g := g) rfl (n / 8) (.int .u8 0) (by rw [List.getElem?_append_right (by omega)]; simp [hxl])
        rwa [add_zero] at this
  clear hb hbv hblt
  have c1 : ∀ (j : Nat) (u : Value), [Value.int IntKind.u8 0][j]? = some u → (w.alloc (Obj.cells #[Value.int IntKind.u8 0] 5)).cell? ((⟨w.heap.size, 0, none⟩ : Addr).add j) = some u := by
    intro j u hj
    match j, hj with
    | 0, hj => simp at hj; subst hj; simp [Addr.add]
  rcases hv with ⟨g, cap, rfl⟩ | rfl
  all_goals
    have KEY : Hid _ := key
    clear key
    go_enter Try.func36, Try.ntmps36
    go_wp2_with (first
      | (at_builtin; refine wpList_append_own_at _ rfl _ _ 25 rfl 0 5 i0 (.int .u8 0) 1 1 Try.underlying25 hi hz0 hz1 hz2 rfl (by decide) _ _ _ rfl (hown.alloc _) ⟨w.heap.size, 0, none⟩ 1 1 [.int .u8 0] rfl rfl c1 (by intro u hu; simp at hu; subst hu; rfl) (by unfold maxLen; omega) (by omega) (Nat.zero_le _) ?_)
      | go_in)
    intro v' w1 hown' hgrow _ hwhere
    obtain ⟨g1, cap1, hv', hg1, hb1, hx1, hfx1⟩ := KEY.out v' w1 hown' hgrow
    rw [hv'] at hown' hwhere ⊢
    have H3 : Hid _ := hwhere
    clear hwhere
    clear KEY c1 hown h0 h1
    have k0 := cell_two0 hb1
    have k1 := cell_two1 hb1
    have kf0 := free_two (i := 0) hb1
    have kf1 := free_two (i := 1) hb1
    have hn : n / 8 < n / 8 + 1 := by omega
    have H1 : Hid _ := hown'
    have H2 : Hid _ := hgrow
    clear hown' hgrow hv'
    go_wp2
    go_region
    all_goals go_wp2
    all_goals go_end0
    all_goals exact ⟨rfl, w1, g1, cap1, H1.out, H2.out, by have := H3.out; simp [Value.ownBlock] at this ⊢; omega, rfl⟩

end Go.Proofs.Ythengfclijclmaa

/- One bit more: the writer that holds a row of bits then holds that row and the bit; condition: fewer than two to the fiftieth bits were put. -/
namespace Go.Proofs.Ythengfclijclmaa
open Go.RowKit

theorem ownsRow_set {w : World} {g n cap : Nat} {xs : List Value} (h : w.ownsRow 0 5 1 (.slice (some ⟨g, 0, none⟩) n cap) n xs) (i : Nat) (x : Value) :
    (w.setCell ⟨g, i, none⟩ x).ownsRow 0 5 1 (.slice (some ⟨g, 0, none⟩) n cap) n (xs.set i x) := by
  obtain ⟨h1, h2⟩ := h
  rcases h2 with ⟨h2, _⟩ | ⟨g', cap', cur, hv, hg, hh, hle, hm, hcs, htk⟩
  · simp at h2
  · simp at hv
    obtain ⟨rfl, rfl⟩ := hv
    refine ⟨by simpa using h1, .inr ⟨g, cap, cur.set! i x, rfl, hg, ?_, hle, hm, by simpa using hcs, ?_⟩⟩
    · have hlt := lt_of_block hh
      have h' : w.heap[g] = .cells cur 5 (0, 0) := by simpa [Array.getElem?_eq_getElem hlt] using hh
      show (w.heap.modify g _)[g]? = _
      rw [Array.getElem?_eq_getElem (by simpa using hlt), Array.getElem_modify_self, h']
      rfl
    · rw [← htk]
      simp [List.take_set]

theorem bit_any (b : Nat) (bs : List Bool) (c : Int) (w : World) (h : Wr w b bs) (hlen : bs.length < 1125899906842624) (hc0 : 0 ≤ c) (hc1 : c ≤ 1) :
    Calls Try.prog 36 #[.pointer (some ⟨b, 0, none⟩), .int .i64 c] w fun e w' => e = .returned (.tuple #[]) ∧ WStep w w' b (bs ++ [c == 1]) := by
  obtain ⟨v, hb, hown⟩ := h
  by_cases hm : bs.length % 8 = 0
  · have e8 : (bs.length + 7) / 8 = bs.length / 8 := by omega
    rw [e8] at hown
    refine (bit_new b bs.length v (bytesV (Bt.pack bs)) c w ?_ hown hb hlen (by simp; omega)).mono ?_
    · rcases hown.2 with ⟨h, _⟩ | ⟨g, cap, cur, h, _⟩
      · exact .inr h
      · exact .inl ⟨g, cap, h⟩
    · rintro e w' ⟨rfl, w1, g, cap, hown1, hgrow, hwh, rfl⟩
      have hbv : v.ownBlock ≠ some b := by
        intro e
        rcases hown.2 with ⟨rfl, _⟩ | ⟨g, cap, cur, rfl, _, hh, _⟩
        · simp [Value.ownBlock] at e
        · simp [Value.ownBlock] at e
          subst e
          rw [hb] at hh
          simp at hh
      have hblt := lt_of_block hb
      have hb1 : w1.heap[b]? = some (.cells #[v, .int .i64 bs.length] 65 (0, 0)) := by
        rw [hgrow.block b (by simp; omega) (fun e => hbv e.symm), Below.heap_alloc _ _ _ hblt]; exact hb
      have hgb : g ≠ b := by
        rintro rfl
        rcases hown1.2 with ⟨h, _⟩ | ⟨g', cap', cur, h, _, hh, _⟩
        · simp at h
        · simp at h
          obtain ⟨rfl, rfl⟩ := h
          rw [hb1] at hh
          simp at hh
      have hfb : Fp w b b := Fp.self w b
      have hfv : ∀ k, v.ownBlock = some k → Fp w b k := fun k hk => .inr ⟨v, _, hb, hk⟩
      have hl1 : (bytesV (Bt.pack bs)).length = bs.length / 8 := by simp [bytesV, Bt.length_pack, e8]
      have kb : (((w1.setCell ⟨b, 0, none⟩ (.slice (some ⟨g, 0, none⟩) (bs.length / 8 + 1) cap)).setCell ⟨g, bs.length / 8, none⟩ (.int .u8 (bits .or .u8 0 (wrap64 (c * 2 ^ (bs.length % 8)) % 256)))).setCell ⟨b, 1, none⟩ (.int .i64 (bs.length + 1))).drew.heap[b]? = some (.cells #[.slice (some ⟨g, 0, none⟩) (bs.length / 8 + 1) cap, .int .i64 (bs ++ [c == 1]).length] 65 (0, 0)) := by
          have k1 := two_set0 (x := .slice (some ⟨g, 0, none⟩) (bs.length / 8 + 1) cap) hb1
          rw [← Below.heap_setCell _ ⟨g, bs.length / 8, none⟩ (.int .u8 (bits .or .u8 0 (wrap64 (c * 2 ^ (bs.length % 8)) % 256))) b (fun e => hgb e.symm)] at k1
          have k2 := two_set1 (x := .int .i64 (bs.length + 1)) k1
          have e : ((bs ++ [c == 1]).length : Int) = (bs.length : Int) + 1 := by simp
          rw [e]
          exact k2
      refine ⟨rfl, ?_, ?_, ?_⟩
      · refine ⟨.slice (some ⟨g, 0, none⟩) (bs.length / 8 + 1) cap, kb, ?_⟩
        · have e9 : ((bs ++ [c == 1]).length + 7) / 8 = bs.length / 8 + 1 := by simp; omega
          rw [e9, Bt.pack_new _ _ hm]
          refine World.ownsRow.drew ?_
          refine ownsRow_setCell_other ?_ (by simp [Value.ownBlock, hgb]) _
          have k3 := ownsRow_set (ownsRow_setCell_other hown1 (a := ⟨b, 0, none⟩) (by simp [Value.ownBlock, hgb]) (.slice (some ⟨g, 0, none⟩) (bs.length / 8 + 1) cap)) (bs.length / 8) (.int .u8 (bits .or .u8 0 (wrap64 (c * 2 ^ (bs.length % 8)) % 256)))
          have ho := or_bit 0 (bs.length % 8) c (by omega) (Nat.pow_pos (by decide)) hc0 hc1
          rw [hm] at ho
          rw [List.set_append_right _ _ (by omega), hl1, Nat.sub_self, List.set_cons_zero] at k3
          simp only [bytesV, List.map_append, List.map_cons, List.map_nil] at k3 ⊢
          rw [hm] at k3 ⊢
          rw [show (bits BinOp.or IntKind.u8 0 (wrap64 (c * 2 ^ 0) % 256)) = (((c == 1).toNat : Nat) : Int) by simpa using ho] at k3 ⊢
          exact k3
      · refine Touch.drew (Touch.setCell (Touch.setCell (Touch.setCell ?_ (fun _ => hfb) _) (fun hlt => ?_) _) (fun _ => hfb) _)
        · exact ((Touch.refl _ w).alloc _).grown hgrow (fun k hk _ => hfv k hk)
        · rcases hwh with h | h
          · exact hfv g h
          · simp only at hlt; omega
      · intro k hk
        rcases hk with hk | ⟨v2, c2, hk, ho⟩
        · exact .inl (.inl hk)
        · rw [kb] at hk
          simp at hk
          obtain ⟨rfl, rfl⟩ := hk
          simp [Value.ownBlock] at ho
          subst ho
          rcases hwh with h | h
          · exact .inl (hfv g h)
          · exact .inr (by omega)
  · have e8 : (bs.length + 7) / 8 = bs.length / 8 + 1 := by omega
    rcases hown.2 with ⟨h, hz⟩ | ⟨g, cap, cur, rfl, _, hh, hle, _⟩
    · omega
    · have hgb : b ≠ g := by
        rintro rfl
        rw [hb] at hh
        simp at hh
      have hx : w.cell? ⟨g, bs.length / 8, none⟩ = some (.int .u8 (Bt.byteAt bs (bs.length / 8) : Nat)) := by
        have := hown.cells (g := g) rfl (bs.length / 8) (.int .u8 (Bt.byteAt bs (bs.length / 8) : Nat)) (by simp [bytesV, Bt.pack, e8])
        rwa [add_zero] at this
      refine (bit_mid b g bs.length _ cap (Bt.byteAt bs (bs.length / 8)) c w (cell_two0 hb) (cell_two1 hb) (free_two hb) hx (by simp [World.frozen?, hh]) hgb (by omega) hlen (by simp; omega)).mono ?_
      rintro e w' ⟨rfl, rfl⟩
      rw [or_bit _ _ c (by omega) (Bt.byteAt_last_lt bs) hc0 hc1]
      have kb : ((w.setCell ⟨g, bs.length / 8, none⟩ (.int .u8 ((Bt.byteAt bs (bs.length / 8) + (c == 1).toNat * 2 ^ (bs.length % 8) : Nat) : Int))).setCell ⟨b, 1, none⟩ (.int .i64 (bs.length + 1))).drew.heap[b]? = some (.cells #[.slice (some ⟨g, 0, none⟩) ((bs.length + 7) / 8) cap, .int .i64 (bs ++ [c == 1]).length] 65 (0, 0)) := by
        have k1 := hb
        rw [← Below.heap_setCell w ⟨g, bs.length / 8, none⟩ (.int .u8 ((Bt.byteAt bs (bs.length / 8) + (c == 1).toNat * 2 ^ (bs.length % 8) : Nat) : Int)) b hgb] at k1
        have k2 := two_set1 (x := .int .i64 (bs.length + 1)) k1
        have e : ((bs ++ [c == 1]).length : Int) = (bs.length : Int) + 1 := by simp
        rw [e]
        exact k2
      have hfb : Fp w b b := Fp.self w b
      have hfg : Fp w b g := .inr ⟨_, _, hb, rfl⟩
      refine ⟨rfl, ⟨_, kb, ?_⟩, ?_, ?_⟩
      · have e9 : ((bs ++ [c == 1]).length + 7) / 8 = (bs.length + 7) / 8 := by simp; omega
        rw [e9, Bt.pack_mid _ _ hm]
        refine World.ownsRow.drew ?_
        refine ownsRow_setCell_other ?_ (by simp [Value.ownBlock]; omega) _
        have k3 := ownsRow_set hown (bs.length / 8) (.int .u8 ((Bt.byteAt bs (bs.length / 8) + (c == 1).toNat * 2 ^ (bs.length % 8) : Nat) : Int))
        simpa [bytesV, List.map_set] using k3
      · exact Touch.drew (Touch.setCell (Touch.setCell (Touch.refl _ _) (fun _ => hfg) _) (fun _ => hfb) _)
      · intro k hk
        rcases hk with hk | ⟨v2, c2, hk, ho⟩
        · exact .inl (.inl hk)
        · rw [kb] at hk
          simp at hk
          obtain ⟨rfl, rfl⟩ := hk
          simp [Value.ownBlock] at ho
          subst ho
          exact .inl hfg
end Go.Proofs.Ythengfclijclmaa

/- Put and Code of a writer. -/
namespace Go.Proofs.Ythengfclijclmaa
open Go.RowKit

def fitsB (n : Int) : Bool := decide (0 ≤ n) && decide (n ≤ 32)

theorem fits_yes (n : Int) (w : World) (h0 : 0 ≤ n) (h1 : n ≤ 32) :
    Calls Try.prog 35 #[.int .i64 n] w fun e w' => e = .returned (.bool true) ∧ w' = w := by
  go_enter Try.func35, Try.ntmps35
  go_wp2
  go_ret
  exact ⟨rfl, rfl⟩

theorem fits_no (n : Int) (w : World) (h : n < 0 ∨ 32 < n) :
    Calls Try.prog 35 #[.int .i64 n] w fun e w' => e = .returned (.bool false) ∧ w' = w := by
  rcases h with h | h
  · go_enter Try.func35, Try.ntmps35
    go_wp2
    go_ret
    exact ⟨rfl, rfl⟩
  · have h' : 0 ≤ n := by omega
    have hd : decide (n ≤ 32) = false := by simp; omega
    go_enter Try.func35, Try.ntmps35
    go_wp2
    go_ret
    exact ⟨by rw [← hd]; rfl, rfl⟩

theorem i64_and_mask (n : Int) (m : Nat) (hm : m ≤ 62) : bits .and .i64 n (2 ^ m - 1) = n % 2 ^ m := by
  have hp : (2 ^ m : Nat) ≤ 2 ^ 62 := Nat.pow_le_pow_right (by decide) hm
  have hp0 : 0 < (2 ^ m : Nat) := Nat.pow_pos (by decide)
  have hc : (2 : Int) ^ m = ((2 ^ m : Nat) : Int) := by simp
  have hd : (2 ^ m : Nat) ∣ 2 ^ 64 := Nat.pow_dvd_pow 2 (by omega)
  rw [hc]
  have h1 : (BitVec.ofInt 64 (((2 ^ m : Nat) : Int) - 1)).toNat = 2 ^ m - 1 := by
    rw [BitVec.toNat_ofInt]
    omega
  have key : (BitVec.ofInt 64 n &&& BitVec.ofInt 64 (((2 ^ m : Nat) : Int) - 1)).toNat = (n % ((2 ^ 64 : Nat) : Int)).toNat % 2 ^ m := by
    rw [BitVec.toNat_and, BitVec.toNat_ofInt, h1, Nat.and_two_pow_sub_one_eq_mod]
  show IntKind.i64.wrap ((BitVec.ofInt 64 n &&& BitVec.ofInt 64 (((2 ^ m : Nat) : Int) - 1)).toNat : Nat) = _
  have hlt : (n % ((2 ^ 64 : Nat) : Int)).toNat % 2 ^ m < 2 ^ m := Nat.mod_lt _ hp0
  have e1 : (((n % ((2 ^ 64 : Nat) : Int)).toNat % 2 ^ m : Nat) : Int) = n % ((2 ^ m : Nat) : Int) := by
    rw [Int.natCast_emod, Int.toNat_of_nonneg (Int.emod_nonneg _ (by decide)), Int.emod_emod_of_dvd _ (by exact_mod_cast hd)]
  rw [key, e1, IntKind.wrap_i64]
  have h2 := Int.emod_nonneg n (b := ((2 ^ m : Nat) : Int)) (by omega)
  have h3 := Int.emod_lt_of_pos n (b := ((2 ^ m : Nat) : Int)) (by omega)
  omega

theorem i64_and1 (n : Int) : bits .and .i64 n 1 = n % 2 := i64_and_mask n 1 (by decide)

end Go.Proofs.Ythengfclijclmaa
