/- Texts of this proof, one behind the other: what each says stands ahead of it. -/
import Derived.Test.YtffjkceedbblgaaGreatDoorM15
import Derived.Deep.LoopGhost
import Derived.Laws.Externs
import Derived.Deep.DeepCutAuto
import Derived.BigQuiet
import Derived.Lib.BufferWrite
import Derived.Deep.RegionHeld3
/- bytesOf: a number's bytes, the lower ones first; conditions: those told. -/
namespace Go.Proofs.YtffjkceedbblgaaGreatDoor
open Go.RowKit
open Go.Lib

/-- A number's bytes, the lower ones first. -/
def leB (n k : Nat) : List UInt8 := (List.range k).map fun j => UInt8.ofNat (n / 2 ^ (8 * j))
/-- The cells of which i are laid. -/
def leC (n k i : Nat) : Array Value := ((List.range k).map fun j => Value.int .u8 (if j < i then ((n / 2 ^ (8 * j) % 256 : Nat) : Int) else 0)).toArray
theorem leC_size (n k i : Nat) : (leC n k i).size = k := by simp [leC]
theorem leC_at (n k i j : Nat) (h : j < k) : (leC n k i)[j]? = some (Value.int .u8 (if j < i then ((n / 2 ^ (8 * j) % 256 : Nat) : Int) else 0)) := by
  simp [leC, h]
theorem leC_set (n k i : Nat) (_h : i < k) : (leC n k i).set! i (.int .u8 ((n / 2 ^ (8 * i) % 256 : Nat) : Int)) = leC n k (i + 1) := by
  apply Array.ext_getElem?
  intro j
  rw [Array.set!_eq_setIfInBounds, Array.getElem?_setIfInBounds]
  by_cases hj : j < k
  · rw [leC_at n k i j hj, leC_at n k (i + 1) j hj, leC_size]
    by_cases e : i = j
    · subst e
      rw [if_pos rfl, if_pos hj, if_pos (by omega)]
    · rw [if_neg e]
      by_cases h2 : j < i
      · rw [if_pos h2, if_pos (by omega)]
      · rw [if_neg h2, if_neg (by omega)]
  · have e1 : (leC n k i)[j]? = none := Array.getElem?_eq_none (by rw [leC_size]; omega)
    have e2 : (leC n k (i + 1))[j]? = none := Array.getElem?_eq_none (by rw [leC_size]; omega)
    rw [e1, e2, leC_size]
    by_cases e : i = j
    · omega
    · rw [if_neg e]
theorem leC_made (n k : Nat) : madeCells #[.int .u8 0] k = leC n k 0 := by
  apply Array.ext_getElem?
  intro j
  unfold madeCells leC
  by_cases hj : j < k
  · simp [hj, Nat.mod_one]
  · simp [hj]

theorem info5 : (Tryz.prog.info? 5).map (fun i => (i.zero, i.size, i.bytes)) = some (some (.int .u8 0), 1, 1) := by kernel_rfl
theorem mk36 (n : Nat) (hn : n ≤ 4194304) (w : World) : (Instr.makeSlice 36 (.int .i64 n) (.int .i64 n)).run Tryz.prog w = .ok (.slice (some ⟨w.heap.size, 0, none⟩) n n) (w.alloc (.cells (madeCells #[.int .u8 0] n) 5)) := by
  obtain ⟨i0, hi, hz0, hz1, hz2⟩ := info_parts info5
  have := run_make (P := Tryz.prog) w 36 5 i0 (.int .u8 0) Tryz.underlying36 hi hz0 .i64 .i64 n n (by omega) (by omega) (by rw [hz2]; omega) (by omega)
  rw [hz1] at this
  simpa [Value.cells] using this

set_option maxRecDepth 100000 in
set_option maxHeartbeats 4000000 in
theorem bytesOf_any (n k : Nat) (_hn : n < 2 ^ 62) (hk : k ≤ 7) (w : World) :
    Calls Tryz.prog 16 #[.int .i64 (n : Nat), .int .i64 (k : Nat)] w fun e w' => e = .returned (.string ⟨(leB n k).toArray⟩) ∧ Touch (fun _ => False) w w' := by
  have M := mk36 k (by omega)
  have B0 := hid (show (w.alloc (.cells (madeCells #[.int .u8 0] k) 5)).heap[w.heap.size]? = some (.cells (leC n k 0) 5 (0, 0)) by
    rw [leC_made n k]
    show (w.heap.push _)[_]? = _
    simp)
  have TA := hid ((Touch.refl (fun _ => False) w).alloc (.cells (madeCells #[.int .u8 0] k) 5))
  go_enter Tryz.func16, Tryz.ntmps16
  go_wp2_with fail
  generalize (w.alloc (.cells (madeCells #[.int .u8 0] k) 5)) = w1 at *
  obtain ⟨g, hg⟩ : ∃ g, g = w.heap.size := ⟨_, rfl⟩
  rw [← hg] at B0 ⊢
  have HGW := hid (show w.heap.size ≤ g by omega)
  clear hg M
  go_loopg [11] k (fun gk v wr => ∃ i : Nat, i + gk = k ∧ v = .int .i64 (i : Nat) ∧ Hid (wr.heap[g]? = some (.cells (leC n k i) 5 (0, 0))) ∧ Hid (Touch (fun _ => False) w wr))
  case atStart => exact ⟨0, by omega, rfl, B0, TA⟩
  case round =>
    clear B0 TA
    obtain ⟨i, hi, rfl, HB, HT⟩ := hrel
    by_cases hlt : i < k
    · have hltI : (i : Int) < (k : Int) := by omega
      have c0 : wr.cell? ⟨g, i, none⟩ = some (.int .u8 0) := by
        simp only [World.cell?, HB.out]
        rw [leC_at n k i i hlt]
        simp
      have f0 : wr.frozen? ⟨g, i, none⟩ = false := by simp [World.frozen?, HB.out]
      go_wp2
      have e : ((n : Int) / 2 ^ (8 * i) % 256) = ((n / 2 ^ (8 * i) % 256 : Nat) : Int) := by simp
      rw [e]
      have HB2 := hid (block_set HB.out i (.int .u8 ((n / 2 ^ (8 * i) % 256 : Nat) : Int)))
      rw [leC_set n k i hlt] at HB2
      go_roundg (gk - 1)
      case measure => omega
      case rel => exact ⟨i + 1, by omega, by go_num, HB2, hid (HT.out.setCell (p := ⟨g, i, none⟩) (fun q => absurd q (Nat.not_lt.2 HGW.out)) _)⟩
    · obtain rfl : i = k := by omega
      have hl : (leB n i).length = i := by simp [leB]
      have hcv := run_convert_bytes_back (P := Tryz.prog) wr 36 9 5 ⟨g, 0, none⟩ i (leB n i) Tryz.underlying36 Tryz.underlying5 Tryz.underlying9 (fun j hj => by
        rw [add_zero]
        simp only [World.cell?, HB.out]
        rw [hl] at hj
        rw [leC_at n i i j hj, if_pos hj]
        simp [leB])
      rw [hl] at hcv
      clear hl
      go_wp2
      go_ret
      exact ⟨rfl, HT.out⟩
end Go.Proofs.YtffjkceedbblgaaGreatDoor

/- check and flagsOf of a part that has data alone; no condition. -/
namespace Go.Proofs.YtffjkceedbblgaaGreatDoor
open Go.RowKit
open Go.Lib

/-- A part that has data alone. -/
def plainC (d : ByteArray) : Array Value := #[.string ⟨#[]⟩, .string ⟨#[]⟩, .string ⟨#[]⟩, .bool false, .bool false, .int .i64 0, .int .i64 0, .int .i64 0, .string d]
theorem new_block (w : World) (cs : Array Value) (t : TypeId) : (w.alloc (.cells cs t)).heap[w.heap.size]? = some (.cells cs t (0, 0)) := by
  show (w.heap.push _)[_]? = _
  simp
theorem nul_ext (w : World) : (callFunc 72 #[.string ⟨#[]⟩, .int .u8 0]).run Tryz.prog w = .ok (.value (.int .i64 (-1))) w := by
  rw [run_callFunc_extern Tryz.func72 (by kernel_rfl) (by kernel_rfl) (by kernel_rfl) (e := Extern.BytealgIndexByte.indexByte) (by kernel_rfl), run_indexByte_string]
  rfl
set_option maxRecDepth 100000 in
set_option maxHeartbeats 4000000 in
theorem gfits_no (k : Nat) (hk : k = 1 ∨ k = 4) (w : World) : Calls Tryz.prog 21 #[.int .i64 0, .int .i64 (k : Nat)] w fun e w' => e = .returned (.bool true) ∧ w = w' := by
  rcases hk with rfl | rfl
  · go_enter Tryz.func21, Tryz.ntmps21
    go_wp2
    go_ret
    exact ⟨rfl, rfl⟩
  · go_enter Tryz.func21, Tryz.ntmps21
    go_wp2
    go_ret
    exact ⟨rfl, rfl⟩
set_option maxRecDepth 100000 in
set_option maxHeartbeats 4000000 in
theorem nul_none (w : World) : Calls Tryz.prog 22 #[.string ⟨#[]⟩] w fun e w' => e = .returned (.bool false) ∧ w = w' := by
  have K55 : Calls Tryz.prog 55 #[.string ⟨#[]⟩, .int .u8 0] w fun e w' => e = .returned (.int .i64 (-1)) ∧ w = w' := by
    have e := nul_ext
    go_enter Tryz.func55, Tryz.ntmps55
    go_wp2
    go_ret
    exact ⟨rfl, rfl⟩
  have K55 := hid K55
  have K37 : Calls Tryz.prog 37 #[.string ⟨#[]⟩, .int .u8 0] w fun e w' => e = .returned (.int .i64 (-1)) ∧ w = w' := by
    go_enter Tryz.func37, Tryz.ntmps37
    go_wp2_with fail
    refine K55.out.mono ?_
    rintro e w1 ⟨rfl, rfl⟩
    clear K55
    go_wp2
    go_ret
    exact ⟨rfl, rfl⟩
  have K37 := hid K37
  clear K55
  go_enter Tryz.func22, Tryz.ntmps22
  go_wp2_with fail
  refine K37.out.mono ?_
  rintro e w1 ⟨rfl, rfl⟩
  clear K37
  go_wp2
  go_ret
  exact ⟨rfl, rfl⟩

set_option maxRecDepth 100000 in
set_option maxHeartbeats 4000000 in
theorem check_plain (d : ByteArray) (w : World) : Calls Tryz.prog 12 #[.agg (plainC d)] w fun e w' => e = .returned (.int .i64 0) ∧ Touch (fun _ => False) w w' := by
  have F4 := hid (gfits_no 4 (.inr rfl))
  have F1 := hid (gfits_no 1 (.inl rfl))
  have N := hid nul_none
  have TA := hid ((Touch.refl (fun _ => False) w).alloc (.cells (plainC d) 28))
  have B0 := hid (new_block w (plainC d) 28)
  unfold plainC at TA B0 ⊢
  go_enter Tryz.func12, Tryz.ntmps12
  go_upto_region 1 with fail
  generalize (w.alloc (.cells #[.string ⟨#[]⟩, .string ⟨#[]⟩, .string ⟨#[]⟩, .bool false, .bool false, .int .i64 0, .int .i64 0, .int .i64 0, .string d] 28)) = w1 at *
  obtain ⟨g, hg⟩ : ∃ g, g = w.heap.size := ⟨_, rfl⟩
  rw [← hg] at B0 ⊢
  clear hg
  have c0 : w1.cell? ⟨g, 0, none⟩ = some (.string ⟨#[]⟩) := by simp [World.cell?, B0.out]
  have c1 : w1.cell? ⟨g, 1, none⟩ = some (.string ⟨#[]⟩) := by simp [World.cell?, B0.out]
  have c2 : w1.cell? ⟨g, 2, none⟩ = some (.string ⟨#[]⟩) := by simp [World.cell?, B0.out]
  have c5 : w1.cell? ⟨g, 5, none⟩ = some (.int .i64 0) := by simp [World.cell?, B0.out]
  have c6 : w1.cell? ⟨g, 6, none⟩ = some (.int .i64 0) := by simp [World.cell?, B0.out]
  have c7 : w1.cell? ⟨g, 7, none⟩ = some (.int .i64 0) := by simp [World.cell?, B0.out]
  go_wp2_with fail
  refine Calls.mono (R := fun e w' => e = .returned (.bool true) ∧ w1 = w') (F4.out w1) ?_
  rintro e w2 ⟨rfl, rfl⟩
  go_wp2_with fail
  refine Calls.mono (R := fun e w' => e = .returned (.bool true) ∧ w1 = w') (F1.out w1) ?_
  rintro e w2 ⟨rfl, rfl⟩
  go_wp2_with fail
  refine Calls.mono (R := fun e w' => e = .returned (.bool true) ∧ w1 = w') (F1.out w1) ?_
  rintro e w2 ⟨rfl, rfl⟩
  go_wp2_with fail
  refine (N.out w1).mono ?_
  rintro e w2 ⟨rfl, rfl⟩
  go_wp2_with fail
  refine (N.out w1).mono ?_
  rintro e w2 ⟨rfl, rfl⟩
  go_wp2
  go_ret
  exact ⟨rfl, TA.out⟩
end Go.Proofs.YtffjkceedbblgaaGreatDoor

/- flagsOf and the head of a part that has data alone; no condition. -/
namespace Go.Proofs.YtffjkceedbblgaaGreatDoor
open Go.RowKit
open Go.Lib

theorem info97 : (Tryz.prog.info? 97).map (fun i => (i.zero, i.size, i.bytes)) = some (some (.agg #[.bool false, .int .i64 0]), 2, 16) := by kernel_rfl
def flagsC : Array Value := #[.bool false, .int .i64 1, .bool false, .int .i64 2, .bool false, .int .i64 4, .bool false, .int .i64 8, .bool false, .int .i64 16]
theorem run_flag (i : Nat) (h : i < 5) (w : World) : (Instr.index 98 (.agg flagsC) (.int .i64 (i : Nat))).run Tryz.prog w = .ok (.agg #[.bool false, .int .i64 ((2 ^ i : Nat) : Int)]) w := by
  obtain ⟨i0, hi, hz0, hz1, hz2⟩ := info_parts info97
  rcases (show i = 0 ∨ i = 1 ∨ i = 2 ∨ i = 3 ∨ i = 4 by omega) with rfl | rfl | rfl | rfl | rfl <;>
    simp [Instr.index, run_underlying Tryz.underlying98, asIntOf, go_sem, part, sizeOf, typeInfo, hi, hz1, flagsC]
set_option maxRecDepth 100000 in
set_option maxHeartbeats 4000000 in
theorem flags_plain (d : ByteArray) (w : World) : Calls Tryz.prog 24 #[.agg (plainC d)] w fun e w' => e = .returned (.int .i64 0) ∧ Touch (fun _ => False) w w' := by
  have TA := hid ((Touch.refl (fun _ => False) w).alloc (.cells (plainC d) 28))
  have B0 := hid (new_block w (plainC d) 28)
  unfold plainC at TA B0 ⊢
  go_enter Tryz.func24, Tryz.ntmps24
  go_upto_region 2 with fail
  generalize (w.alloc (.cells #[.string ⟨#[]⟩, .string ⟨#[]⟩, .string ⟨#[]⟩, .bool false, .bool false, .int .i64 0, .int .i64 0, .int .i64 0, .string d] 28)) = w1 at *
  obtain ⟨g, hg⟩ : ∃ g, g = w.heap.size := ⟨_, rfl⟩
  rw [← hg] at B0 ⊢
  clear hg
  have c0 : w1.cell? ⟨g, 0, none⟩ = some (.string ⟨#[]⟩) := by simp [World.cell?, B0.out]
  have c1 : w1.cell? ⟨g, 1, none⟩ = some (.string ⟨#[]⟩) := by simp [World.cell?, B0.out]
  have c2 : w1.cell? ⟨g, 2, none⟩ = some (.string ⟨#[]⟩) := by simp [World.cell?, B0.out]
  have c3 : w1.cell? ⟨g, 3, none⟩ = some (.bool false) := by simp [World.cell?, B0.out]
  have c4 : w1.cell? ⟨g, 4, none⟩ = some (.bool false) := by simp [World.cell?, B0.out]
  go_wp2_with fail
  go_loopg [3, 25] 5 (fun gk v3 v wr => ∃ i : Nat, i + gk = 5 ∧ v = .int .i64 (i : Nat) ∧ v3 = .int .i64 0 ∧ Touch (fun _ => False) w wr)
  case atStart => exact ⟨0, by omega, rfl, rfl, TA.out⟩
  case round =>
    clear TA B0 c0 c1 c2 c3 c4
    obtain ⟨i, hi, rfl, rfl, ht⟩ := hrel
    have HT := hid ht
    clear ht
    by_cases hlt : i < 5
    · have hix := run_flag i hlt wr
      unfold flagsC at hix
      obtain ⟨y, hy⟩ : ∃ y : Int, y = ((2 ^ i : Nat) : Int) := ⟨_, rfl⟩
      rw [← hy] at hix
      clear hy
      have hltI : (i : Int) < 5 := by omega
      go_wp2
      go_roundg (gk - 1)
      case measure => omega
      case rel => exact ⟨i + 1, by omega, by go_num, rfl, HT.out.alloc _⟩
    · obtain rfl : i = 5 := by omega
      go_wp2
      go_ret
      exact ⟨rfl, HT.out⟩
end Go.Proofs.YtffjkceedbblgaaGreatDoor

/- laid: texts one behind the other; conditions: there are few, and none is empty. -/
namespace Go.Proofs.YtffjkceedbblgaaGreatDoor
open Go.RowKit
open Go.Lib

/-- Texts one behind the other. -/
def catS (ss : List ByteArray) : List UInt8 := ss.flatMap fun s => s.data.toList
theorem catS_snoc (ss : List ByteArray) (s : ByteArray) : catS (ss ++ [s]) = catS ss ++ s.data.toList := by simp [catS]
theorem ba_len (s : ByteArray) : s.data.toList.length = s.size := by rw [Array.length_toList]; rfl
theorem catS_take (ss : List ByteArray) (i : Nat) (h : i < ss.length) : catS (ss.take (i + 1)) = catS (ss.take i) ++ (ss[i]).data.toList := by
  rw [List.take_succ_eq_append_getElem h, catS_snoc]
theorem catS_le (ss : List ByteArray) (i : Nat) : (catS (ss.take i)).length ≤ (catS ss).length := by
  conv => rhs; rw [← List.take_append_drop i ss]
  unfold catS
  rw [List.flatMap_append, List.length_append]
  omega
theorem Touch.setRowV {S : Nat → Prop} {a w : World} (h : Touch S a w) {g : Nat} (hp : a.heap.size ≤ g) (cs : Array Value) : Touch S a (w.setRow g cs) :=
  ⟨h.os, h.tape, h.output, by rw [size_setRow]; exact h.size, fun k hk hn => (setRow_other w g k cs (by omega)).trans (h.block k hk hn)⟩
/-- The row while it is filled. -/
def fillC (ss : List ByteArray) (i : Nat) : Array Value := (byteCells (catS (ss.take i)) ++ List.replicate ((catS ss).length - (catS (ss.take i)).length) (Value.int .u8 0)).toArray
theorem fillC_zero (ss : List ByteArray) : madeCells #[.int .u8 0] (catS ss).length = fillC ss 0 := by
  have e0 : catS (ss.take 0) = [] := by rw [List.take_zero]; rfl
  unfold fillC
  rw [e0]
  generalize (catS ss).length = T
  apply Array.ext_getElem?
  intro j
  unfold madeCells
  by_cases hj : j < T
  · simp [hj, Nat.mod_one, byteCells]
  · simp [hj, byteCells]
theorem fillC_size (ss : List ByteArray) (i : Nat) : (fillC ss i).size = (catS ss).length := by
  have := catS_le ss i
  simp [fillC, byteCells_length]
  omega
theorem fillC_next (ss : List ByteArray) (i : Nat) (h : i < ss.length) :
    ((fillC ss i).toList.take (catS (ss.take i)).length ++ byteCells (ss[i]).data.toList ++ (fillC ss i).toList.drop ((catS (ss.take i)).length + (ss[i]).size)).toArray = fillC ss (i + 1) := by
  have e := catS_take ss i h
  have hl := congrArg List.length e
  rw [List.length_append, ba_len] at hl
  unfold fillC
  rw [e, byteCells_append, List.length_append, ba_len]
  congr 1
  rw [List.take_left' (byteCells_length _), List.drop_append, List.drop_eq_nil_of_le (by rw [byteCells_length]; omega), byteCells_length, List.nil_append, List.drop_replicate]
  congr 2
  omega

theorem size5 : (Tryz.prog.info? 5).map (·.size) = some 1 := by kernel_rfl
set_option maxRecDepth 100000 in
set_option maxHeartbeats 4000000 in
theorem laid_any (b : Nat) (ss : List ByteArray) (c : Nat) (w : World) (hb : b < w.heap.size) (hc : ∀ j (h : j < ss.length), w.cell? ⟨b, j, none⟩ = some (.string ss[j])) (hT : (catS ss).length ≤ 4000) (hn : ss.length ≤ 4000) (hne : ∀ s ∈ ss, 0 < s.size) :
    Calls Tryz.prog 25 #[.slice (some ⟨b, 0, none⟩) ss.length c] w fun e w' => e = .returned (.string ⟨(catS ss).toArray⟩) ∧ Touch (fun _ => False) w w' := by
  have HC := hid hc
  have HBW := hid hb
  have HNE := hid hne
  have HLE := hid (catS_le ss)
  have HTK := hid (catS_take ss)
  clear hc hb hne
  have HF0 := hid (fillC_zero ss)
  obtain ⟨T, hTe⟩ : ∃ T, T = (catS ss).length := ⟨_, rfl⟩
  have HTT := hid hTe
  rw [← hTe] at hT HF0 HLE
  clear hTe
  go_enter Tryz.func25, Tryz.ntmps25
  go_wp2_with fail
  go_loopg [3, 12] ss.length (fun gk v3 v wr => ∃ i : Nat, i + gk = ss.length ∧ v = .int .i64 (i : Nat) ∧ v3 = .int .i64 ((catS (ss.take i)).length : Nat) ∧ w = wr)
  case atStart => exact ⟨0, by omega, rfl, rfl, rfl⟩
  case round =>
    obtain ⟨i, hi, rfl, rfl, rfl⟩ := hrel
    by_cases hlt : i < ss.length
    · have hltI : (i : Int) < (ss.length : Int) := by omega
      have c0 := HC.out i hlt
      have HL := hid (show (catS (ss.take (i + 1))).length = (catS (ss.take i)).length + (ss[i]).size by rw [HTK.out i hlt, List.length_append, ba_len])
      have hb1 := HLE.out (i + 1)
      have hb0 := HLE.out i
      rw [HL.out] at hb1
      obtain ⟨s, hs⟩ : ∃ s, s = ss[i] := ⟨_, rfl⟩
      rw [← hs] at c0 HL hb1
      obtain ⟨x, hx⟩ : ∃ x, x = (catS (ss.take i)).length := ⟨_, rfl⟩
      rw [← hx] at HL hb1 hb0 ⊢
      clear hs hx
      go_wp2
      go_roundg (gk - 1)
      case measure => omega
      case rel => exact ⟨i + 1, by omega, by go_num, by rw [HL.out]; go_num, rfl⟩
    · obtain rfl : i = ss.length := by omega
      rw [List.take_length, ← HTT.out]
      have M := mk36 T (by omega)
      have B0 := hid (show (w.alloc (.cells (madeCells #[.int .u8 0] T) 5)).heap[w.heap.size]? = some (.cells (fillC ss 0) 5 (0, 0)) by
        rw [HF0.out]
        exact new_block _ _ _)
      have TA := hid ((Touch.refl (fun _ => False) w).alloc (.cells (madeCells #[.int .u8 0] T) 5))
      go_wp2_with fail
      generalize (w.alloc (.cells (madeCells #[.int .u8 0] T) 5)) = w1 at *
      obtain ⟨g, hg⟩ : ∃ g, g = w.heap.size := ⟨_, rfl⟩
      rw [← hg] at B0 ⊢
      have HGW := hid (show w.heap.size ≤ g by omega)
      clear hg M
      go_loopg [7, 25] ss.length (fun gk2 v7 v wq => ∃ i : Nat, i + gk2 = ss.length ∧ v = .int .i64 (i : Nat) ∧ v7 = .int .i64 ((catS (ss.take i)).length : Nat) ∧ Hid (wq.heap[g]? = some (.cells (fillC ss i) 5 (0, 0))) ∧ Hid (Touch (fun _ => False) w wq))
      case atStart => exact ⟨0, by omega, rfl, rfl, B0, TA⟩
      case round =>
        clear B0 TA
        obtain ⟨i, hi, rfl, rfl, HB, HT⟩ := hrel
        by_cases hlt : i < ss.length
        · have hltI : (i : Int) < (ss.length : Int) := by omega
          have c0 := (HT.out.cell (p := ⟨b, i, none⟩) HBW.out id).trans (HC.out i hlt)
          have HL := hid (show (catS (ss.take (i + 1))).length = (catS (ss.take i)).length + (ss[i]).size by rw [HTK.out i hlt, List.length_append, ba_len])
          have hb1 := HLE.out (i + 1)
          rw [HL.out] at hb1
          have HNX := hid (fillC_next ss i hlt)
          have hs0 := HNE.out (ss[i]) (List.getElem_mem _)
          have HCP := hid (fun x (hx : x = (catS (ss.take i)).length) => run_copy_row_string (P := Tryz.prog) wr 36 9 3 5 g x (T - x) (T - x) ss[i] (fillC ss i) 5 Tryz.underlying36 size5 HB.out (by omega) (by rw [fillC_size, ← HTT.out]; omega))
          have HBN := hid (setRow_heap wr g _ (fillC ss (i + 1)) _ _ HB.out)
          obtain ⟨s, hs⟩ : ∃ s, s = ss[i] := ⟨_, rfl⟩
          rw [← hs] at c0 HL hb1 HNX HCP hs0
          obtain ⟨x, hx⟩ : ∃ x, x = (catS (ss.take i)).length := ⟨_, rfl⟩
          have hcp := HCP.out x hx
          rw [← hx] at HL hb1 HNX ⊢
          rw [HNX.out] at hcp
          clear hs hx HCP HNX
          have hx1 : (x : Int) < (T : Int) := by omega
          have hx2 : (x : Int) ≤ (T : Int) := by omega
          go_wp2
          go_roundg (gk - 1)
          case measure => omega
          case rel => exact ⟨i + 1, by omega, by go_num, by rw [HL.out]; go_num, HBN, hid (HT.out.setRowV HGW.out _)⟩
        · obtain rfl : i = ss.length := by omega
          have hcv := run_convert_bytes_back (P := Tryz.prog) wr 36 9 5 ⟨g, 0, none⟩ T (catS ss) Tryz.underlying36 Tryz.underlying5 Tryz.underlying9 (fun j hj => by
            rw [add_zero]
            simp only [World.cell?, HB.out, fillC, List.take_length, Nat.sub_self, List.replicate_zero, List.append_nil, byteCells]
            simp [hj])
          rw [← HTT.out] at hcv
          rw [List.take_length, ← HTT.out]
          go_wp2
          go_ret
          exact ⟨rfl, HT.out⟩
end Go.Proofs.YtffjkceedbblgaaGreatDoor

/- headOf of a part that has data alone: ten bytes; no condition. -/
namespace Go.Proofs.YtffjkceedbblgaaGreatDoor
open Go.RowKit
open Go.Lib

/-- The cells of a part that has data alone. -/
def PlainAt (g : Nat) (d : ByteArray) (w : World) : Prop :=
  w.cell? ⟨g, 0, none⟩ = some (.string ⟨#[]⟩) ∧ w.cell? ⟨g, 1, none⟩ = some (.string ⟨#[]⟩) ∧ w.cell? ⟨g, 2, none⟩ = some (.string ⟨#[]⟩) ∧ w.cell? ⟨g, 3, none⟩ = some (.bool false) ∧ w.cell? ⟨g, 4, none⟩ = some (.bool false) ∧ w.cell? ⟨g, 5, none⟩ = some (.int .i64 0) ∧ w.cell? ⟨g, 6, none⟩ = some (.int .i64 0) ∧ w.cell? ⟨g, 7, none⟩ = some (.int .i64 0) ∧ w.cell? ⟨g, 8, none⟩ = some (.string d)
theorem plain_at {g : Nat} {d : ByteArray} {w : World} (h : w.heap[g]? = some (.cells (plainC d) 28 (0, 0))) : PlainAt g d w := by
  unfold plainC at h
  unfold PlainAt
  simp [World.cell?, h]
/-- The head of such a part. -/
def headB : ByteArray := ⟨#[31, 139, 8, 0, 0, 0, 0, 0, 0, 0]⟩
def headS : List ByteArray := [⟨#[31, 139]⟩, ⟨(leB 8 1).toArray⟩, ⟨(leB 0 1).toArray⟩, ⟨(leB 0 4).toArray⟩, ⟨(leB 0 1).toArray⟩, ⟨(leB 0 1).toArray⟩]
theorem head_cat : catS headS = headB.data.toList := by decide

theorem bytesOf_int (n k : Int) (hn : 0 ≤ n ∧ n < 2 ^ 62) (hk : 0 ≤ k ∧ k ≤ 7) (w : World) :
    Calls Tryz.prog 16 #[.int .i64 n, .int .i64 k] w fun e w' => e = .returned (.string ⟨(leB n.toNat k.toNat).toArray⟩) ∧ Touch (fun _ => False) w w' := by
  have := bytesOf_any n.toNat k.toNat (by omega) (by omega) w
  rw [show ((n.toNat : Nat) : Int) = n by omega, show ((k.toNat : Nat) : Int) = k by omega] at this
  exact this
set_option maxRecDepth 100000 in
set_option maxHeartbeats 8000000 in
theorem head_plain (d : ByteArray) (w : World) : Calls Tryz.prog 14 #[.agg (plainC d)] w fun e w' => e = .returned (.string headB) ∧ Touch (fun _ => False) w w' := by
  have TA := hid ((Touch.refl (fun _ => False) w).alloc (.cells (plainC d) 28))
  have B0 := hid (new_block w (plainC d) 28)
  have KF := hid (fun w => flags_plain d w)
  have PC := hid (show plainC d = #[.string ⟨#[]⟩, .string ⟨#[]⟩, .string ⟨#[]⟩, .bool false, .bool false, .int .i64 0, .int .i64 0, .int .i64 0, .string d] from rfl)
  obtain ⟨w1, hw1⟩ : ∃ w1, w1 = w.alloc (.cells (plainC d) 28) := ⟨_, rfl⟩
  rw [PC.out]
  go_enter Tryz.func14, Tryz.ntmps14
  go_upto_region 1 with fail
  rw [← PC.out, ← hw1]
  rw [← hw1] at TA B0
  obtain ⟨g, hg⟩ : ∃ g, g = w.heap.size := ⟨_, rfl⟩
  rw [← hg] at B0 ⊢
  clear hg hw1
  have lq := lt_of_block B0.out
  have hp := plain_at B0.out
  unfold PlainAt at hp
  have TT := hid (Touch.refl (fun _ => False) w1)
  rw [PC.out]
  rw [PC.out] at KF
  first | (go_region_held3 (fun w' => w'.cell? ⟨g, 0, none⟩ = some (.string ⟨#[]⟩) ∧ w'.cell? ⟨g, 1, none⟩ = some (.string ⟨#[]⟩) ∧ w'.cell? ⟨g, 2, none⟩ = some (.string ⟨#[]⟩) ∧ w'.cell? ⟨g, 3, none⟩ = some (.bool false) ∧ w'.cell? ⟨g, 4, none⟩ = some (.bool false) ∧ w'.cell? ⟨g, 5, none⟩ = some (.int .i64 0) ∧ w'.cell? ⟨g, 6, none⟩ = some (.int .i64 0) ∧ w'.cell? ⟨g, 7, none⟩ = some (.int .i64 0) ∧ w'.cell? ⟨g, 8, none⟩ = some (.string d))
    (exact plain_at ((Touch.block (S := fun _ => False) (w := w1) (by repeat (first | exact TT.out | exact Touch.refl _ _ | refine Touch.drew ?_ | refine Touch.drewN ?_ _ | refine Touch.alloc ?_ _)) g lq id).trans B0.out))
    (first
      | (go_at_call 16
         refine (bytesOf_int _ _ (by decide) (by decide) _).mono ?_
         rintro e wn ⟨rfl, tn⟩
         have TT := hid (Touch.trans (S := fun _ => False) (a := w1) (by repeat (first | exact TT.out | exact Touch.refl _ _ | refine Touch.drew ?_ | refine Touch.drewN ?_ _ | refine Touch.alloc ?_ _)) tn (fun _ _ e => e))
         clear tn)
      | (go_at_call 24
         refine (KF.out _).mono ?_
         rintro e wn ⟨rfl, tn⟩
         have TT := hid (Touch.trans (S := fun _ => False) (a := w1) (by repeat (first | exact TT.out | exact Touch.refl _ _ | refine Touch.drew ?_ | refine Touch.drewN ?_ _ | refine Touch.alloc ?_ _)) tn (fun _ _ e => e))
         clear tn))) | fail
  have TS := hid (TT.out.alloc (.cells (headS.map Value.string).toArray 9))
  have BS := hid (new_block wn (headS.map Value.string).toArray 9)
  have LW := hid (lt_of_block BS.out)
  obtain ⟨wS, hwS⟩ : ∃ wS, wS = wn.alloc (.cells (headS.map Value.string).toArray 9) := ⟨_, rfl⟩
  obtain ⟨q, hq⟩ : ∃ q, q = wn.heap.size := ⟨_, rfl⟩
  change Exit.then _ _ _ _ (wn.alloc (.cells (headS.map Value.string).toArray 9))
  rw [← hwS] at TS BS LW ⊢
  rw [← hq] at BS LW ⊢
  have KL := hid (laid_any q headS 6 wS LW.out (fun j hj => by
    simp only [World.cell?, BS.out]
    simp [hj]) (by decide) (by decide) (by decide))
  rw [head_cat] at KL
  have hp := plain_at ((TS.out.block g lq id).trans B0.out)
  unfold PlainAt at hp
  obtain ⟨p0, p1, p2, p3, p4, p5, p6, p7, p8⟩ := hp
  clear hwS hq TT BS LW KF
  go_wp2_with fail
  refine Calls.mono (R := fun e w' => e = .returned (.string headB) ∧ Touch (fun _ => False) wS w') KL.out ?_
  rintro e w5 ⟨rfl, t5⟩
  have T5 := hid (TS.out.trans t5 (fun _ _ e => e))
  clear t5 KL p0 p1 p2 p3 p4 p5 p6 p7 p8
  have hp := plain_at ((T5.out.block g lq id).trans B0.out)
  unfold PlainAt at hp
  obtain ⟨p0, p1, p2, p3, p4, p5, p6, p7, p8⟩ := hp
  go_wp2
  go_ret
  exact ⟨rfl, TA.out.trans T5.out (fun _ _ e => e)⟩
end Go.Proofs.YtffjkceedbblgaaGreatDoor
