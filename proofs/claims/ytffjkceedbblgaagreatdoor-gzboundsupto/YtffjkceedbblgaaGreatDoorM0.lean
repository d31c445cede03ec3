/- Texts of this proof, one behind the other: what each says stands ahead of it. -/
import Derived.WalkKit
import Derived.Deep.QuietTactic
import Derived.Test.YtffjkceedbblgaaGreatDoorChecked
import Derived.WalkSpells
import Derived.WalkLawsBesides
import Derived.BigRegion
import Derived.Maps.AppendAt
import Derived.BigQuiet
/- Plain facts on rows of bits: their value as a number, and how they are packed into bytes, eight a byte, the lowest first; no condition. -/
namespace Go.Proofs.YtffjkceedbblgaaGreatDoor

def strOf (l : List Nat) : ByteArray := ⟨(l.map UInt8.ofNat).toArray⟩

theorem size_strOf (l : List Nat) : (strOf l).size = l.length := by simp [strOf, ByteArray.size]

def ibit (v : Int) (i : Nat) : Bool := v / 2 ^ i % 2 == 1

namespace Bt

def val : List Bool → Nat
  | [] => 0
  | c :: cs => c.toNat + 2 * val cs

theorem val_lt (l : List Bool) : val l < 2 ^ l.length := by
  induction l with
  | nil => simp [val]
  | cons c cs ih =>
    simp only [val, List.length_cons, Nat.pow_succ]
    have := Bool.toNat_le c
    omega

theorem val_append (l m : List Bool) : val (l ++ m) = val l + 2 ^ l.length * val m := by
  induction l with
  | nil => simp [val]
  | cons c cs ih =>
    simp only [List.cons_append, val, List.length_cons, Nat.pow_succ, ih]
    rw [Nat.mul_add, Nat.mul_comm (2 ^ cs.length) 2, Nat.mul_assoc]
    omega

theorem val_single (c : Bool) : val [c] = c.toNat := by simp [val]

theorem val_zeros (n : Nat) : val (List.replicate n false) = 0 := by
  induction n with
  | zero => rfl
  | succ n ih => simp [List.replicate_succ, val, ih]

def byteAt (bs : List Bool) (i : Nat) : Nat := val ((bs.drop (8 * i)).take 8)
def pack (bs : List Bool) : List Nat := (List.range ((bs.length + 7) / 8)).map (byteAt bs)

theorem byteAt_lt (bs : List Bool) (i : Nat) : byteAt bs i < 256 := by
  have h := val_lt ((bs.drop (8 * i)).take 8)
  have h2 : ((bs.drop (8 * i)).take 8).length ≤ 8 := by simp; omega
  have h3 : 2 ^ ((bs.drop (8 * i)).take 8).length ≤ 2 ^ 8 := Nat.pow_le_pow_right (by decide) h2
  unfold byteAt
  omega

theorem byteAt_last_lt (bs : List Bool) : byteAt bs (bs.length / 8) < 2 ^ (bs.length % 8) := by
  have h := val_lt ((bs.drop (8 * (bs.length / 8))).take 8)
  have h2 : ((bs.drop (8 * (bs.length / 8))).take 8).length = bs.length % 8 := by simp; omega
  rw [h2] at h
  exact h

theorem byteAt_snoc_low (bs : List Bool) (c : Bool) (i : Nat) (h : i < bs.length / 8) : byteAt (bs ++ [c]) i = byteAt bs i := by
  unfold byteAt
  rw [List.drop_append_of_le_length (by omega), List.take_append_of_le_length (by simp; omega)]

theorem byteAt_snoc_last (bs : List Bool) (c : Bool) : byteAt (bs ++ [c]) (bs.length / 8) = byteAt bs (bs.length / 8) + c.toNat * 2 ^ (bs.length % 8) := by
  unfold byteAt
  have hd : (bs.drop (8 * (bs.length / 8))).length = bs.length % 8 := by simp; omega
  rw [List.drop_append_of_le_length (by omega), List.take_of_length_le (by simp; omega), List.take_of_length_le (by omega), val_append, hd, val_single, Nat.mul_comm c.toNat]

theorem length_pack (bs : List Bool) : (pack bs).length = (bs.length + 7) / 8 := by simp [pack]

theorem pack_new (bs : List Bool) (c : Bool) (h : bs.length % 8 = 0) : pack (bs ++ [c]) = pack bs ++ [c.toNat] := by
  have e1 : (bs.length + 7) / 8 = bs.length / 8 := by omega
  have e2 : (bs.length + 1 + 7) / 8 = bs.length / 8 + 1 := by omega
  have hl := byteAt_snoc_last bs c
  have hz := byteAt_last_lt bs
  rw [h] at hl hz
  unfold pack
  simp only [List.length_append, List.length_cons, List.length_nil, Nat.zero_add, e1, e2, List.range_succ, List.map_append, List.map_cons, List.map_nil]
  rw [hl]
  congr 1
  · apply List.map_congr_left
    intro i hi
    exact byteAt_snoc_low bs c i (by simpa using hi)
  · simp only [List.cons.injEq, and_true]
    simp at hz ⊢
    omega

theorem pack_mid (bs : List Bool) (c : Bool) (h : bs.length % 8 ≠ 0) : pack (bs ++ [c]) = (pack bs).set (bs.length / 8) (byteAt bs (bs.length / 8) + c.toNat * 2 ^ (bs.length % 8)) := by
  have e1 : (bs.length + 7) / 8 = bs.length / 8 + 1 := by omega
  have e2 : (bs.length + 1 + 7) / 8 = bs.length / 8 + 1 := by omega
  have hl := byteAt_snoc_last bs c
  unfold pack
  simp only [List.length_append, List.length_cons, List.length_nil, Nat.zero_add, e1, e2, List.range_succ, List.map_append, List.map_cons, List.map_nil]
  rw [List.set_append_right _ _ (by simp), hl]
  congr 1
  · apply List.map_congr_left
    intro i hi
    exact byteAt_snoc_low bs c i (by simpa using hi)
  · simp

theorem pack_getD (bs : List Bool) (i : Nat) (h : i < (bs.length + 7) / 8) : (pack bs).getD i 0 = byteAt bs i := by
  simp [pack, h]

theorem pack_lt (bs : List Bool) : ∀ x ∈ pack bs, x < 256 := by
  intro x hx
  simp only [pack, List.mem_map] at hx
  obtain ⟨i, _, rfl⟩ := hx
  exact byteAt_lt bs i

theorem pack_nil : pack [] = [] := by simp [pack]

end Bt
end Go.Proofs.YtffjkceedbblgaaGreatDoor

/- Plain facts on the bits of a string: the number of some of them; no condition. -/
namespace Go.Proofs.YtffjkceedbblgaaGreatDoor
namespace Bt

def byteN (s : ByteArray) (j : Nat) : Nat := (s.data.getD j 0).toNat
def bitAt (s : ByteArray) (k : Nat) : Bool := byteN s (k / 8) / 2 ^ (k % 8) % 2 == 1
def rval (s : ByteArray) (k n : Nat) : Nat := val ((List.range n).map fun i => bitAt s (k + i))

theorem byteN_lt (s : ByteArray) (j : Nat) : byteN s j < 256 := by
  unfold byteN
  exact UInt8.toNat_lt _

theorem rval_zero (s : ByteArray) (k : Nat) : rval s k 0 = 0 := rfl

theorem rval_lt (s : ByteArray) (k n : Nat) : rval s k n < 2 ^ n := by
  have := val_lt ((List.range n).map fun i => bitAt s (k + i))
  simpa [rval] using this

theorem rval_add (s : ByteArray) (k m n : Nat) : rval s k (m + n) = rval s k m + 2 ^ m * rval s (k + m) n := by
  unfold rval
  rw [List.range_add, List.map_append, val_append]
  simp [Function.comp_def, Nat.add_assoc]

theorem rval_one (s : ByteArray) (k : Nat) : rval s k 1 = (bitAt s k).toNat := by simp [rval, val]

theorem rval_cons (s : ByteArray) (k n : Nat) : rval s k (n + 1) = (bitAt s k).toNat + 2 * rval s (k + 1) n := by
  rw [Nat.add_comm n 1, rval_add, rval_one, Nat.pow_one]

theorem rval_div (s : ByteArray) (k m n : Nat) : rval s k (m + n) / 2 ^ m = rval s (k + m) n := by
  rw [rval_add, Nat.add_mul_div_left _ _ (Nat.pow_pos (by decide)), Nat.div_eq_of_lt (rval_lt s k m), Nat.zero_add]

theorem rval_mod (s : ByteArray) (k m n : Nat) : rval s k (m + n) % 2 ^ m = rval s k m := by
  rw [rval_add, Nat.add_mul_mod_self_left, Nat.mod_eq_of_lt (rval_lt s k m)]

theorem bit_toNat (x : Nat) : (x % 2 == 1).toNat = x % 2 := by
  rcases Nat.mod_two_eq_zero_or_one x with h | h <;> simp [h]

theorem bits8 : ∀ x : Fin 256, x.val / 1 % 2 + 2 * (x.val / 2 % 2 + 2 * (x.val / 4 % 2 + 2 * (x.val / 8 % 2 + 2 * (x.val / 16 % 2 + 2 * (x.val / 32 % 2 + 2 * (x.val / 64 % 2 + 2 * (x.val / 128 % 2 + 2 * 0))))))) = x.val := by decide +kernel

theorem rval_byte (s : ByteArray) (j : Nat) : rval s (8 * j) 8 = byteN s j := by
  have hb := byteN_lt s j
  have e : ∀ i, i < 8 → (bitAt s (8 * j + i)).toNat = byteN s j / 2 ^ i % 2 := by
    intro i hi
    unfold bitAt
    rw [show (8 * j + i) / 8 = j by omega, show (8 * j + i) % 8 = i by omega, bit_toNat]
  have h0 := e 0 (by decide)
  have h1 := e 1 (by decide)
  have h2 := e 2 (by decide)
  have h3 := e 3 (by decide)
  have h4 := e 4 (by decide)
  have h5 := e 5 (by decide)
  have h6 := e 6 (by decide)
  have h7 := e 7 (by decide)
  simp only [Nat.reducePow] at h0 h1 h2 h3 h4 h5 h6 h7
  simp only [rval, show List.range 8 = [0, 1, 2, 3, 4, 5, 6, 7] from rfl, List.map_cons, List.map_nil, val, h0, h1, h2, h3, h4, h5, h6, h7]
  exact bits8 ⟨byteN s j, hb⟩

/-- What Peek gathers: the bytes from one on, shifted, and the lowest bits of that. -/
theorem rval_peek (s : ByteArray) (t n c : Nat) (h : t % 8 + n ≤ 8 * c) : rval s (8 * (t / 8)) (8 * c) / 2 ^ (t % 8) % 2 ^ n = rval s t n := by
  obtain ⟨r, hr⟩ : ∃ r, 8 * c = t % 8 + (n + r) := ⟨8 * c - t % 8 - n, by omega⟩
  rw [hr, rval_div, rval_mod, show 8 * (t / 8) + t % 8 = t by omega]

end Bt
end Go.Proofs.YtffjkceedbblgaaGreatDoor

/- Plain facts: what is packed is read again; no condition. -/
namespace Go.Proofs.YtffjkceedbblgaaGreatDoor

namespace Bt

theorem val_bit (l : List Bool) : ∀ j, val l / 2 ^ j % 2 = (l.getD j false).toNat := by
  induction l with
  | nil => intro j; simp [val]
  | cons c cs ih =>
    intro j
    cases j with
    | zero =>
      have := Bool.toNat_le c
      simp [val]
      omega
    | succ j =>
      have h := ih j
      have hc := Bool.toNat_le c
      rw [Nat.pow_succ, Nat.mul_comm, ← Nat.div_div_eq_div_mul]
      simp only [val, List.getD_cons_succ]
      rw [show (c.toNat + 2 * val cs) / 2 = val cs by omega]
      exact h

theorem byteN_pack (bs : List Bool) (j : Nat) (h : j < (bs.length + 7) / 8) : byteN (strOf (pack bs)) j = byteAt bs j := by
  have hl : j < (pack bs).length := by rw [length_pack]; exact h
  have hlt := byteAt_lt bs j
  unfold byteN strOf
  simp only [Array.getD_eq_getD_getElem?, List.getElem?_toArray, List.getElem?_map, List.getElem?_eq_getElem hl, Option.map_some, Option.getD_some]
  rw [UInt8.toNat_ofNat', show (pack bs)[j] = byteAt bs j by simp [pack]]
  exact Nat.mod_eq_of_lt hlt

theorem bitAt_pack (bs : List Bool) (i : Nat) (h : i < bs.length) : bitAt (strOf (pack bs)) i = bs.getD i false := by
  unfold bitAt
  rw [byteN_pack bs _ (by omega)]
  unfold byteAt
  rw [val_bit]
  have : (((bs.drop (8 * (i / 8))).take 8).getD (i % 8) false) = bs.getD i false := by
    simp only [List.getD_eq_getElem?_getD]
    rw [List.getElem?_take_of_lt (by omega), List.getElem?_drop]
    congr 2
    omega
  rw [this]
  cases bs.getD i false <;> rfl

theorem rval_pack (bs : List Bool) (t k : Nat) (h : t + k ≤ bs.length) : rval (strOf (pack bs)) t k = val ((bs.drop t).take k) := by
  unfold rval
  congr 1
  apply List.ext_getElem
  · simp; omega
  · intro i h1 h2
    simp at h1
    simp only [List.getElem_map, List.getElem_range, List.getElem_take, List.getElem_drop]
    rw [bitAt_pack bs _ (by omega)]
    simp [List.getD_eq_getElem?_getD, List.getElem?_eq_getElem (show t + i < bs.length by omega)]

theorem val_ibit (v : Int) : ∀ k, ((val ((List.range k).map (ibit v)) : Nat) : Int) = v % 2 ^ k := by
  intro k
  induction k with
  | zero => simp [val, Int.emod_one]
  | succ k ih =>
    rw [List.range_succ, List.map_append, val_append]
    simp only [List.map_cons, List.map_nil, val_single, List.length_map, List.length_range]
    have hp : (0 : Int) < 2 ^ k := by
      have : ((2 ^ k : Nat) : Int) = (2 : Int) ^ k := by simp
      rw [← this]
      exact_mod_cast Nat.pow_pos (by decide)
    have hb : (((ibit v k).toNat : Nat) : Int) = v / 2 ^ k % 2 := by
      unfold ibit
      rcases Int.emod_two_eq (v / 2 ^ k) with h | h <;> simp [h]
    rw [Int.natCast_add, ih, Int.natCast_mul, hb]
    simp only [Int.natCast_pow, Int.cast_ofNat_Int]
    rw [Int.pow_succ]
    have h1 := Int.mul_ediv_add_emod v (2 ^ k)
    have h2 := Int.mul_ediv_add_emod (v / 2 ^ k) 2
    have h3 := Int.mul_ediv_add_emod v (2 ^ k * 2)
    rw [← Int.ediv_ediv_of_nonneg (by omega)] at h3
    have h4 : 2 ^ k * (v / 2 ^ k) = 2 ^ k * (2 * (v / 2 ^ k / 2)) + 2 ^ k * (v / 2 ^ k % 2) := by rw [← Int.mul_add, h2]
    have h5 : 2 ^ k * 2 * (v / 2 ^ k / 2) = 2 ^ k * (2 * (v / 2 ^ k / 2)) := by rw [Int.mul_assoc]
    omega

end Bt
end Go.Proofs.YtffjkceedbblgaaGreatDoor

/- Plain facts: whole bytes behind a row of bits; no condition. -/
namespace Go.Proofs.YtffjkceedbblgaaGreatDoor
namespace Bt

def pad (bs : List Bool) : List Bool := List.replicate ((8 - bs.length % 8) % 8) false
def strBits (s : ByteArray) : List Bool := (List.range (8 * s.size)).map (bitAt s)
def strNats (s : ByteArray) : List Nat := (List.range s.size).map (byteN s)

theorem length_strBits (s : ByteArray) : (strBits s).length = 8 * s.size := by simp [strBits]

theorem length_padded (bs : List Bool) : (bs ++ pad bs).length % 8 = 0 ∧ (bs ++ pad bs).length = 8 * ((bs.length + 7) / 8) := by
  simp only [pad, List.length_append, List.length_replicate]
  omega

theorem pack_append (l m : List Bool) (h : l.length % 8 = 0) : pack (l ++ m) = pack l ++ pack m := by
  have e1 : ((l ++ m).length + 7) / 8 = (l.length + 7) / 8 + (m.length + 7) / 8 := by rw [List.length_append]; omega
  unfold pack
  rw [e1, List.range_add, List.map_append, List.map_map]
  congr 1
  · apply List.map_congr_left
    intro i hi
    have hi' : i < (l.length + 7) / 8 := by simpa using hi
    unfold byteAt
    rw [List.drop_append_of_le_length (by omega), List.take_append_of_le_length (by simp; omega)]
  · apply List.map_congr_left
    intro i _
    simp only [Function.comp_def]
    unfold byteAt
    rw [show 8 * ((l.length + 7) / 8 + i) = l.length + 8 * i by omega, List.drop_append, List.drop_eq_nil_of_le (by omega), List.nil_append, Nat.add_sub_cancel_left]

theorem pack_pad (bs : List Bool) : pack (bs ++ pad bs) = pack bs := by
  have hl := (length_padded bs).2
  unfold pack
  rw [hl, show (8 * ((bs.length + 7) / 8) + 7) / 8 = (bs.length + 7) / 8 by omega]
  apply List.map_congr_left
  intro i hi
  have hi' : i < (bs.length + 7) / 8 := by simpa using hi
  unfold byteAt
  rw [List.drop_append_of_le_length (by omega), List.take_append, val_append]
  have e : val (List.take (8 - (List.drop (8 * i) bs).length) (pad bs)) = 0 := by
    unfold pad
    rw [List.take_replicate]
    exact val_zeros _
  rw [e]
  omega

theorem pack_strBits (s : ByteArray) : pack (strBits s) = strNats s := by
  unfold pack strNats
  rw [length_strBits, show (8 * s.size + 7) / 8 = s.size by omega]
  apply List.map_congr_left
  intro i hi
  have hi' : i < s.size := by simpa using hi
  rw [← rval_byte]
  unfold byteAt rval
  congr 1
  apply List.ext_getElem
  · simp [length_strBits]; omega
  · intro j h1 h2
    simp [strBits]

/-- What a writer holds behind Bytes. -/
def behind (bs : List Bool) (s : ByteArray) : List Bool := bs ++ pad bs ++ strBits s

theorem pack_behind (bs : List Bool) (s : ByteArray) : pack (behind bs s) = pack bs ++ strNats s := by
  unfold behind
  rw [pack_append _ _ (length_padded bs).1, pack_pad, pack_strBits]

theorem length_behind (bs : List Bool) (s : ByteArray) : (behind bs s).length = 8 * ((bs.length + 7) / 8 + s.size) := by
  unfold behind
  rw [List.length_append, (length_padded bs).2, length_strBits]
  omega

end Bt
end Go.Proofs.YtffjkceedbblgaaGreatDoor

/- What a writer of bits and a reader of bits are in memory, and what a call that uses one leaves alone; no condition. -/
namespace Go.Proofs.YtffjkceedbblgaaGreatDoor
open Go.RowKit

/-- Of the blocks that were there, those outside S are as they were. -/
structure Touch (S : Nat → Prop) (w w' : World) : Prop where
  os : w'.os = w.os
  tape : w'.tape = w.tape
  output : w'.output = w.output
  size : w.heap.size ≤ w'.heap.size
  block : ∀ k, k < w.heap.size → ¬ S k → w'.heap[k]? = w.heap[k]?

theorem Touch.refl (S : Nat → Prop) (w : World) : Touch S w w := ⟨rfl, rfl, rfl, Nat.le_refl _, fun _ _ _ => rfl⟩

theorem Touch.trans {S S' : Nat → Prop} {a b c : World} (h : Touch S a b) (k : Touch S' b c) (hs : ∀ i, i < a.heap.size → S' i → S i) : Touch S a c :=
  ⟨k.os.trans h.os, k.tape.trans h.tape, k.output.trans h.output, Nat.le_trans h.size k.size,
    fun i hi hn => (k.block i (Nat.lt_of_lt_of_le hi h.size) (fun e => hn (hs i hi e))).trans (h.block i hi hn)⟩

theorem Touch.mono {S S' : Nat → Prop} {a b : World} (h : Touch S a b) (hs : ∀ i, i < a.heap.size → S i → S' i) : Touch S' a b :=
  ⟨h.os, h.tape, h.output, h.size, fun i hi hn => h.block i hi (fun e => hn (hs i hi e))⟩

theorem Touch.below {S : Nat → Prop} {a b : World} (h : Touch S a b) (B : Nat) (hB : B ≤ a.heap.size) (hs : ∀ i, S i → B ≤ i) : Below B a b :=
  ⟨h.os, h.tape, h.output, h.size, fun i hi => h.block i (by omega) (fun e => by have := hs i e; omega)⟩

theorem Touch.drew {S : Nat → Prop} {a w : World} (h : Touch S a w) : Touch S a w.drew := ⟨h.os, h.tape, h.output, h.size, h.block⟩

theorem Touch.drewN {S : Nat → Prop} {a w : World} (h : Touch S a w) (n : Nat) : Touch S a (w.drewN n) := ⟨h.os, h.tape, h.output, h.size, h.block⟩

theorem Touch.alloc {S : Nat → Prop} {a w : World} (h : Touch S a w) (o : Obj) : Touch S a (w.alloc o) :=
  h.trans (S' := fun _ => False) ⟨rfl, rfl, rfl, by simp, fun k hk _ => Below.heap_alloc _ _ _ hk⟩ (fun _ _ e => e.elim)

theorem Touch.setCell {S : Nat → Prop} {a w : World} (h : Touch S a w) {p : Addr} (hp : p.block < a.heap.size → S p.block) (u : Value) : Touch S a (w.setCell p u) :=
  h.trans (S' := fun k => k = p.block) ⟨rfl, rfl, rfl, by simp [World.setCell], fun k _ hk => Below.heap_setCell _ _ _ _ hk⟩ (fun i hi e => by subst e; exact hp hi)

theorem Touch.grown {S : Nat → Prop} {a w w' : World} {row : Option Nat} (h : Touch S a w) (hg : w.grownBy w' row) (hr : ∀ k, row = some k → k < a.heap.size → S k) : Touch S a w' :=
  h.trans (S' := fun k => row = some k) ⟨hg.os, hg.tape, hg.output, hg.size, fun k hk hn => hg.block k hk (fun e => hn e.symm)⟩ (fun i hi e => hr i e hi)

theorem Touch.cell {S : Nat → Prop} {w w' : World} (h : Touch S w w') {p : Addr} (hp : p.block < w.heap.size) (hn : ¬ S p.block) : w'.cell? p = w.cell? p := World.cell?_of_block (w := w) (h.block p.block hp hn)

theorem touch_of_below {B : Nat} {w w' : World} (h : Below B w w') : Touch (fun k => B ≤ k) w w' :=
  ⟨h.os, h.tape, h.output, h.size, fun k _ hn => h.block k (by omega)⟩

/-! ### A block of two cells -/
theorem cell_two0 {w : World} {b : Nat} {v u : Value} {t : TypeId} (h : w.heap[b]? = some (.cells #[v, u] t (0, 0))) : w.cell? ⟨b, 0, none⟩ = some v := by simp [World.cell?, h]
theorem cell_two1 {w : World} {b : Nat} {v u : Value} {t : TypeId} (h : w.heap[b]? = some (.cells #[v, u] t (0, 0))) : w.cell? ⟨b, 1, none⟩ = some u := by simp [World.cell?, h]
theorem free_two {w : World} {b i : Nat} {v u : Value} {t : TypeId} (h : w.heap[b]? = some (.cells #[v, u] t (0, 0))) : w.frozen? ⟨b, i, none⟩ = false := by simp [World.frozen?, h]
theorem two_set0 {w : World} {b : Nat} {v u x : Value} {t : TypeId} (h : w.heap[b]? = some (.cells #[v, u] t (0, 0))) : (w.setCell ⟨b, 0, none⟩ x).heap[b]? = some (.cells #[x, u] t (0, 0)) := by
  have hlt := lt_of_block h
  have h' : w.heap[b] = .cells #[v, u] t (0, 0) := by simpa [Array.getElem?_eq_getElem hlt] using h
  show (w.heap.modify b _)[b]? = _
  rw [Array.getElem?_eq_getElem (by simpa using hlt), Array.getElem_modify_self, h']
  rfl
theorem two_set1 {w : World} {b : Nat} {v u x : Value} {t : TypeId} (h : w.heap[b]? = some (.cells #[v, u] t (0, 0))) : (w.setCell ⟨b, 1, none⟩ x).heap[b]? = some (.cells #[v, x] t (0, 0)) := by
  have hlt := lt_of_block h
  have h' : w.heap[b] = .cells #[v, u] t (0, 0) := by simpa [Array.getElem?_eq_getElem hlt] using h
  show (w.heap.modify b _)[b]? = _
  rw [Array.getElem?_eq_getElem (by simpa using hlt), Array.getElem_modify_self, h']
  rfl

/-! ### The writer -/
def bytesV (l : List Nat) : List Value := l.map fun x : Nat => Value.int .u8 (x : Int)

def Wr (w : World) (b : Nat) (bs : List Bool) : Prop :=
  ∃ v, w.heap[b]? = some (.cells #[v, .int .i64 bs.length] 30 (0, 0)) ∧ w.ownsRow 0 5 1 v ((bs.length + 7) / 8) (bytesV (Bt.pack bs))

/-- The blocks that the writer at b uses. -/
def Fp (w : World) (b k : Nat) : Prop := k = b ∨ ∃ v c, w.heap[b]? = some (.cells #[v, c] 30 (0, 0)) ∧ v.ownBlock = some k

structure WStep (w w' : World) (b : Nat) (bs : List Bool) : Prop where
  wr : Wr w' b bs
  touch : Touch (Fp w b) w w'
  fp : ∀ k, Fp w' b k → Fp w b k ∨ w.heap.size ≤ k

theorem WStep.refl {w : World} {b : Nat} {bs : List Bool} (h : Wr w b bs) : WStep w w b bs := ⟨h, Touch.refl _ _, fun _ h => .inl h⟩

theorem WStep.trans {a w c : World} {b : Nat} {bs bs' : List Bool} (h : WStep a w b bs) (k : WStep w c b bs') : WStep a c b bs' :=
  ⟨k.wr, h.touch.trans k.touch (fun i hi e => (h.fp i e).elim id (fun g => by omega)),
    fun i e => (k.fp i e).elim (fun e => h.fp i e) (fun e => .inr (Nat.le_trans h.touch.size e))⟩

theorem WStep.drew {w w' : World} {b : Nat} {bs : List Bool} (h : WStep w w' b bs) : WStep w w'.drew b bs := ⟨h.wr, h.touch.drew, h.fp⟩

theorem Fp.self (w : World) (b : Nat) : Fp w b b := .inl rfl

theorem Wr.lt {w : World} {b : Nat} {bs : List Bool} (h : Wr w b bs) : b < w.heap.size := by
  obtain ⟨v, h, _⟩ := h
  exact lt_of_block h

theorem Wr.fp_lt {w : World} {b : Nat} {bs : List Bool} (h : Wr w b bs) {k : Nat} (hk : Fp w b k) : k < w.heap.size := by
  rcases hk with rfl | ⟨v, c, hb, ho⟩
  · exact h.lt
  · obtain ⟨v', hb', hown⟩ := h
    rw [hb] at hb'
    simp at hb'
    obtain ⟨rfl, rfl⟩ := hb'
    exact (hown.lt k ho).2

/-- What the writer uses is as it was: it is the writer that it was. -/
theorem Wr.kept {w w' : World} {b : Nat} {bs : List Bool} (h : Wr w b bs) (hk : ∀ k, Fp w b k → w'.heap[k]? = w.heap[k]?) : Wr w' b bs := by
  obtain ⟨v, hb, hown⟩ := h
  refine ⟨v, (hk b (.inl rfl)).trans hb, hown.1, ?_⟩
  rcases hown.2 with h2 | ⟨g, cap, cur, hv, hg, hh, r⟩
  · exact .inl h2
  · exact .inr ⟨g, cap, cur, hv, hg, (hk g (.inr ⟨v, _, hb, by rw [hv]; rfl⟩)).trans hh, r⟩

theorem Fp.of_same {w w' : World} {b k : Nat} (hb : w'.heap[b]? = w.heap[b]?) (h : Fp w' b k) : Fp w b k := by
  rcases h with h | ⟨v, c, h, ho⟩
  · exact .inl h
  · exact .inr ⟨v, c, by rw [← hb]; exact h, ho⟩

/-- A new writer. -/
theorem wr_new {w : World} : Wr (w.alloc (.cells #[.slice none 0 0, .int .i64 0] 30)) w.heap.size [] :=
  ⟨.slice none 0 0, by show (w.heap.push _)[_]? = _; simp, by simpa [bytesV, Bt.pack_nil] using World.ownsRow_nil _ _ _ _⟩

theorem fp_new {w : World} {k : Nat} (h : Fp (w.alloc (.cells #[.slice none 0 0, .int .i64 0] 30)) w.heap.size k) : k = w.heap.size := by
  rcases h with h | ⟨v, c, h, ho⟩
  · exact h
  · rw [show (w.alloc (.cells #[.slice none 0 0, .int .i64 0] 30)).heap[w.heap.size]? = some (.cells #[.slice none 0 0, .int .i64 0] 30) by show (w.heap.push _)[_]? = _; simp] at h
    simp at h
    obtain ⟨rfl, rfl⟩ := h
    simp [Value.ownBlock] at ho

end Go.Proofs.YtffjkceedbblgaaGreatDoor

/- The writer's inner function: one bit more; condition: fewer than two to the fiftieth bits were put. -/
namespace Go.Proofs.YtffjkceedbblgaaGreatDoor
open Go.RowKit
theorem Tryz.info5 : (Tryz.prog.info? 5).map (fun i => (i.zero, i.size, i.bytes)) = some (some (.int .u8 0), 1, 1) := by kernel_rfl

theorem add_zero (g j : Nat) : (⟨g, 0, none⟩ : Addr).add j = ⟨g, j, none⟩ := by
  unfold Addr.add
  split <;> simp_all

/-! ### What the model reckons -/
theorem or_bit (x m : Nat) (c : Int) (hm : m < 8) (hx : x < 2 ^ m) (hc0 : 0 ≤ c) (hc1 : c ≤ 1) :
    bits .or .u8 (x : Int) (wrap64 (c * 2 ^ m) % 256) = ((x + (c == 1).toNat * 2 ^ m : Nat) : Int) := by
  have hp : (2 : Int) ^ m ≤ 128 := by
    rcases (show m = 0 ∨ m = 1 ∨ m = 2 ∨ m = 3 ∨ m = 4 ∨ m = 5 ∨ m = 6 ∨ m = 7 by omega) with rfl | rfl | rfl | rfl | rfl | rfl | rfl | rfl <;> decide
  have hpn : 2 ^ m ≤ 128 := by
    rcases (show m = 0 ∨ m = 1 ∨ m = 2 ∨ m = 3 ∨ m = 4 ∨ m = 5 ∨ m = 6 ∨ m = 7 by omega) with rfl | rfl | rfl | rfl | rfl | rfl | rfl | rfl <;> decide
  rcases (show c = 0 ∨ c = 1 by omega) with rfl | rfl
  · have e : (wrap64 (0 * 2 ^ m) % 256 : Int) = ((0 : Nat) : Int) := by simp [wrap64]
    rw [e, u8_or_nat x 0 (by omega) (by decide)]
    simp
  · have e : (wrap64 (1 * 2 ^ m) % 256 : Int) = ((2 ^ m : Nat) : Int) := by
      have : ((2 ^ m : Nat) : Int) = (2 : Int) ^ m := by simp
      rw [Int.one_mul, this]
      unfold wrap64
      have : (0 : Int) < 2 ^ m := by rw [← this]; exact_mod_cast Nat.pow_pos (by decide)
      omega
    rw [e, u8_or_nat x (2 ^ m) (by omega) (by omega), Nat.or_comm, nat_join m (2 ^ m) x (by simp) hx]
    simp [Nat.add_comm]

end Go.Proofs.YtffjkceedbblgaaGreatDoor

/- One bit more: the writer that holds a row of bits then holds that row and the bit; condition: fewer than two to the fiftieth bits were put. -/
namespace Go.Proofs.YtffjkceedbblgaaGreatDoor
open Go.RowKit

theorem ownsRow_set {w : World} {g n cap : Nat} {xs : List Value} (h : w.ownsRow 0 5 1 (.slice (some ⟨g, 0, none⟩) n cap) n xs) (i : Nat) (x : Value) :
    (w.setCell ⟨g, i, none⟩ x).ownsRow 0 5 1 (.slice (some ⟨g, 0, none⟩) n cap) n (xs.set i x) := by
  obtain ⟨h1, h2⟩ := h
  rcases h2 with ⟨h2, _⟩ | ⟨g', cap', cur, hv, hg, hh, hle, hm, hcs, htk⟩
  · simp at h2
  · simp at hv
    obtain ⟨rfl, rfl⟩ := hv
    refine ⟨by simpa using h1, .inr ⟨g, cap, cur.set! i x, rfl, hg, ?_, hle, hm, by simpa using hcs, ?_⟩⟩
    · have hlt := lt_of_block hh
      have h' : w.heap[g] = .cells cur 5 (0, 0) := by simpa [Array.getElem?_eq_getElem hlt] using hh
      show (w.heap.modify g _)[g]? = _
      rw [Array.getElem?_eq_getElem (by simpa using hlt), Array.getElem_modify_self, h']
      rfl
    · rw [← htk]
      simp [List.take_set]

end Go.Proofs.YtffjkceedbblgaaGreatDoor

/- Put and Code of a writer. -/
namespace Go.Proofs.YtffjkceedbblgaaGreatDoor
open Go.RowKit

def fitsB (n : Int) : Bool := decide (0 ≤ n) && decide (n ≤ 32)

theorem fits_yes (n : Int) (w : World) (h0 : 0 ≤ n) (h1 : n ≤ 32) :
    Calls Tryz.prog 43 #[.int .i64 n] w fun e w' => e = .returned (.bool true) ∧ w' = w := by
  go_enter Tryz.func43, Tryz.ntmps43
  go_wp2
  go_ret
  exact ⟨rfl, rfl⟩

theorem fits_no (n : Int) (w : World) (h : n < 0 ∨ 32 < n) :
    Calls Tryz.prog 43 #[.int .i64 n] w fun e w' => e = .returned (.bool false) ∧ w' = w := by
  rcases h with h | h
  · go_enter Tryz.func43, Tryz.ntmps43
    go_wp2
    go_ret
    exact ⟨rfl, rfl⟩
  · have h' : 0 ≤ n := by omega
    have hd : decide (n ≤ 32) = false := by simp; omega
    go_enter Tryz.func43, Tryz.ntmps43
    go_wp2
    go_ret
    exact ⟨by rw [← hd]; rfl, rfl⟩

theorem i64_and_mask (n : Int) (m : Nat) (hm : m ≤ 62) : bits .and .i64 n (2 ^ m - 1) = n % 2 ^ m := by
  have hp : (2 ^ m : Nat) ≤ 2 ^ 62 := Nat.pow_le_pow_right (by decide) hm
  have hp0 : 0 < (2 ^ m : Nat) := Nat.pow_pos (by decide)
  have hc : (2 : Int) ^ m = ((2 ^ m : Nat) : Int) := by simp
  have hd : (2 ^ m : Nat) ∣ 2 ^ 64 := Nat.pow_dvd_pow 2 (by omega)
  rw [hc]
  have h1 : (BitVec.ofInt 64 (((2 ^ m : Nat) : Int) - 1)).toNat = 2 ^ m - 1 := by
    rw [BitVec.toNat_ofInt]
    omega
  have key : (BitVec.ofInt 64 n &&& BitVec.ofInt 64 (((2 ^ m : Nat) : Int) - 1)).toNat = (n % ((2 ^ 64 : Nat) : Int)).toNat % 2 ^ m := by
    rw [BitVec.toNat_and, BitVec.toNat_ofInt, h1, Nat.and_two_pow_sub_one_eq_mod]
  show IntKind.i64.wrap ((BitVec.ofInt 64 n &&& BitVec.ofInt 64 (((2 ^ m : Nat) : Int) - 1)).toNat : Nat) = _
  have hlt : (n % ((2 ^ 64 : Nat) : Int)).toNat % 2 ^ m < 2 ^ m := Nat.mod_lt _ hp0
  have e1 : (((n % ((2 ^ 64 : Nat) : Int)).toNat % 2 ^ m : Nat) : Int) = n % ((2 ^ m : Nat) : Int) := by
    rw [Int.natCast_emod, Int.toNat_of_nonneg (Int.emod_nonneg _ (by decide)), Int.emod_emod_of_dvd _ (by exact_mod_cast hd)]
  rw [key, e1, IntKind.wrap_i64]
  have h2 := Int.emod_nonneg n (b := ((2 ^ m : Nat) : Int)) (by omega)
  have h3 := Int.emod_lt_of_pos n (b := ((2 ^ m : Nat) : Int)) (by omega)
  omega

theorem i64_and1 (n : Int) : bits .and .i64 n 1 = n % 2 := i64_and_mask n 1 (by decide)

end Go.Proofs.YtffjkceedbblgaaGreatDoor
