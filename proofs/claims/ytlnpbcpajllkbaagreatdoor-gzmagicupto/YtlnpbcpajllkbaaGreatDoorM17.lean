/- Texts of this proof, one behind the other: what each says stands ahead of it. -/
import Derived.Test.YtlnpbcpajllkbaaGreatDoorM16
import Derived.Lib.BufferWrite
import Derived.Deep.RegionHeld3
import Derived.Shelf.Strings.Builder1
import Derived.Ground.NamesProg
import Derived.Test.YtlnpbcpajllkbaaGreatDoorChecked
import Derived.Test.YtlnpbcpajllkbaaGreatDoorM1
/- laid: texts one behind the other; conditions: there are few, and none is empty. -/
namespace Go.Proofs.YtlnpbcpajllkbaaGreatDoor
open Go.RowKit
open Go.Lib

/-- Texts one behind the other. -/
def catS (ss : List ByteArray) : List UInt8 := ss.flatMap fun s => s.data.toList
theorem catS_snoc (ss : List ByteArray) (s : ByteArray) : catS (ss ++ [s]) = catS ss ++ s.data.toList := by simp [catS]
theorem ba_len (s : ByteArray) : s.data.toList.length = s.size := by rw [Array.length_toList]; rfl
theorem catS_take (ss : List ByteArray) (i : Nat) (h : i < ss.length) : catS (ss.take (i + 1)) = catS (ss.take i) ++ (ss[i]).data.toList := by
  rw [List.take_succ_eq_append_getElem h, catS_snoc]
theorem catS_le (ss : List ByteArray) (i : Nat) : (catS (ss.take i)).length ≤ (catS ss).length := by
  conv => rhs; rw [← List.take_append_drop i ss]
  unfold catS
  rw [List.flatMap_append, List.length_append]
  omega
theorem Touch.setRowV {S : Nat → Prop} {a w : World} (h : Touch S a w) {g : Nat} (hp : a.heap.size ≤ g) (cs : Array Value) : Touch S a (w.setRow g cs) :=
  ⟨h.os, h.tape, h.output, by rw [size_setRow]; exact h.size, fun k hk hn => (setRow_other w g k cs (by omega)).trans (h.block k hk hn)⟩
/-- The row while it is filled. -/
def fillC (ss : List ByteArray) (i : Nat) : Array Value := (byteCells (catS (ss.take i)) ++ List.replicate ((catS ss).length - (catS (ss.take i)).length) (Value.int .u8 0)).toArray
theorem fillC_zero (ss : List ByteArray) : madeCells #[.int .u8 0] (catS ss).length = fillC ss 0 := by
  have e0 : catS (ss.take 0) = [] := by rw [List.take_zero]; rfl
  unfold fillC
  rw [e0]
  generalize (catS ss).length = T
  apply Array.ext_getElem?
  intro j
  unfold madeCells
  by_cases hj : j < T
  · simp [hj, Nat.mod_one, byteCells]
  · simp [hj, byteCells]
theorem fillC_size (ss : List ByteArray) (i : Nat) : (fillC ss i).size = (catS ss).length := by
  have := catS_le ss i
  simp [fillC, byteCells_length]
  omega
theorem fillC_next (ss : List ByteArray) (i : Nat) (h : i < ss.length) :
    ((fillC ss i).toList.take (catS (ss.take i)).length ++ byteCells (ss[i]).data.toList ++ (fillC ss i).toList.drop ((catS (ss.take i)).length + (ss[i]).size)).toArray = fillC ss (i + 1) := by
  have e := catS_take ss i h
  have hl := congrArg List.length e
  rw [List.length_append, ba_len] at hl
  unfold fillC
  rw [e, byteCells_append, List.length_append, ba_len]
  congr 1
  rw [List.take_left' (byteCells_length _), List.drop_append, List.drop_eq_nil_of_le (by rw [byteCells_length]; omega), byteCells_length, List.nil_append, List.drop_replicate]
  congr 2
  omega

theorem size5 : (Tryz.prog.info? 5).map (·.size) = some 1 := by kernel_rfl
set_option maxRecDepth 100000 in
set_option maxHeartbeats 4000000 in
theorem laid_any (b : Nat) (ss : List ByteArray) (c : Nat) (w : World) (hb : b < w.heap.size) (hc : ∀ j (h : j < ss.length), w.cell? ⟨b, j, none⟩ = some (.string ss[j])) (hT : (catS ss).length ≤ 4000) (hn : ss.length ≤ 4000) (hne : ∀ s ∈ ss, 0 < s.size) :
    Calls Tryz.prog 25 #[.slice (some ⟨b, 0, none⟩) ss.length c] w fun e w' => e = .returned (.string ⟨(catS ss).toArray⟩) ∧ Touch (fun _ => False) w w' := by
  have HC := hid hc
  have HBW := hid hb
  have HNE := hid hne
  have HLE := hid (catS_le ss)
  have HTK := hid (catS_take ss)
  clear hc hb hne
  have HF0 := hid (fillC_zero ss)
  obtain ⟨T, hTe⟩ : ∃ T, T = (catS ss).length := ⟨_, rfl⟩
  have HTT := hid hTe
  rw [← hTe] at hT HF0 HLE
  clear hTe
  go_enter Tryz.func25, Tryz.ntmps25
  go_wp2_with fail
  go_loopg [3, 12] ss.length (fun gk v3 v wr => ∃ i : Nat, i + gk = ss.length ∧ v = .int .i64 (i : Nat) ∧ v3 = .int .i64 ((catS (ss.take i)).length : Nat) ∧ w = wr)
  case atStart => exact ⟨0, by omega, rfl, rfl, rfl⟩
  case round =>
    obtain ⟨i, hi, rfl, rfl, rfl⟩ := hrel
    by_cases hlt : i < ss.length
    · have hltI : (i : Int) < (ss.length : Int) := by omega
      have c0 := HC.out i hlt
      have HL := hid (show (catS (ss.take (i + 1))).length = (catS (ss.take i)).length + (ss[i]).size by rw [HTK.out i hlt, List.length_append, ba_len])
      have hb1 := HLE.out (i + 1)
      have hb0 := HLE.out i
      rw [HL.out] at hb1
      obtain ⟨s, hs⟩ : ∃ s, s = ss[i] := ⟨_, rfl⟩
      rw [← hs] at c0 HL hb1
      obtain ⟨x, hx⟩ : ∃ x, x = (catS (ss.take i)).length := ⟨_, rfl⟩
      rw [← hx] at HL hb1 hb0 ⊢
      clear hs hx
      go_wp2
      go_roundg (gk - 1)
      case measure => omega
      case rel => exact ⟨i + 1, by omega, by go_num, by rw [HL.out]; go_num, rfl⟩
    · obtain rfl : i = ss.length := by omega
      rw [List.take_length, ← HTT.out]
      have M := mk36 T (by omega)
      have B0 := hid (show (w.alloc (.cells (madeCells #[.int .u8 0] T) 5)).heap[w.heap.size]? = some (.cells (fillC ss 0) 5 (0, 0)) by
        rw [HF0.out]
        exact new_block _ _ _)
      have TA := hid ((Touch.refl (fun _ => False) w).alloc (.cells (madeCells #[.int .u8 0] T) 5))
      go_wp2_with fail
      generalize (w.alloc (.cells (madeCells #[.int .u8 0] T) 5)) = w1 at *
      obtain ⟨g, hg⟩ : ∃ g, g = w.heap.size := ⟨_, rfl⟩
      rw [← hg] at B0 ⊢
      have HGW := hid (show w.heap.size ≤ g by omega)
      clear hg M
      go_loopg [7, 25] ss.length (fun gk2 v7 v wq => ∃ i : Nat, i + gk2 = ss.length ∧ v = .int .i64 (i : Nat) ∧ v7 = .int .i64 ((catS (ss.take i)).length : Nat) ∧ Hid (wq.heap[g]? = some (.cells (fillC ss i) 5 (0, 0))) ∧ Hid (Touch (fun _ => False) w wq))
      case atStart => exact ⟨0, by omega, rfl, rfl, B0, TA⟩
      case round =>
        clear B0 TA
        obtain ⟨i, hi, rfl, rfl, HB, HT⟩ := hrel
        by_cases hlt : i < ss.length
        · have hltI : (i : Int) < (ss.length : Int) := by omega
          have c0 := (HT.out.cell (p := ⟨b, i, none⟩) HBW.out id).trans (HC.out i hlt)
          have HL := hid (show (catS (ss.take (i + 1))).length = (catS (ss.take i)).length + (ss[i]).size by rw [HTK.out i hlt, List.length_append, ba_len])
          have hb1 := HLE.out (i + 1)
          rw [HL.out] at hb1
          have HNX := hid (fillC_next ss i hlt)
          have hs0 := HNE.out (ss[i]) (List.getElem_mem _)
          have HCP := hid (fun x (hx : x = (catS (ss.take i)).length) => run_copy_row_string (P := Tryz.prog) wr 36 9 3 5 g x (T - x) (T - x) ss[i] (fillC ss i) 5 Tryz.underlying36 size5 HB.out (by omega) (by rw [fillC_size, ← HTT.out]; omega))
          have HBN := hid (setRow_heap wr g _ (fillC ss (i + 1)) _ _ HB.out)
          obtain ⟨s, hs⟩ : ∃ s, s = ss[i] := ⟨_, rfl⟩
          rw [← hs] at c0 HL hb1 HNX HCP hs0
          obtain ⟨x, hx⟩ : ∃ x, x = (catS (ss.take i)).length := ⟨_, rfl⟩
          have hcp := HCP.out x hx
          rw [← hx] at HL hb1 HNX ⊢
          rw [HNX.out] at hcp
          clear hs hx HCP HNX
          have hx1 : (x : Int) < (T : Int) := by omega
          have hx2 : (x : Int) ≤ (T : Int) := by omega
          go_wp2
          go_roundg (gk - 1)
          case measure => omega
          case rel => exact ⟨i + 1, by omega, by go_num, by rw [HL.out]; go_num, HBN, hid (HT.out.setRowV HGW.out _)⟩
        · obtain rfl : i = ss.length := by omega
          have hcv := run_convert_bytes_back (P := Tryz.prog) wr 36 9 5 ⟨g, 0, none⟩ T (catS ss) Tryz.underlying36 Tryz.underlying5 Tryz.underlying9 (fun j hj => by
            rw [add_zero]
            simp only [World.cell?, HB.out, fillC, List.take_length, Nat.sub_self, List.replicate_zero, List.append_nil, byteCells]
            simp [hj])
          rw [← HTT.out] at hcv
          rw [List.take_length, ← HTT.out]
          go_wp2
          go_ret
          exact ⟨rfl, HT.out⟩
end Go.Proofs.YtlnpbcpajllkbaaGreatDoor

/- headOf of a part that has data alone: ten bytes; no condition. -/
namespace Go.Proofs.YtlnpbcpajllkbaaGreatDoor
open Go.RowKit
open Go.Lib

/-- The cells of a part that has data alone. -/
def PlainAt (g : Nat) (d : ByteArray) (w : World) : Prop :=
  w.cell? ⟨g, 0, none⟩ = some (.string ⟨#[]⟩) ∧ w.cell? ⟨g, 1, none⟩ = some (.string ⟨#[]⟩) ∧ w.cell? ⟨g, 2, none⟩ = some (.string ⟨#[]⟩) ∧ w.cell? ⟨g, 3, none⟩ = some (.bool false) ∧ w.cell? ⟨g, 4, none⟩ = some (.bool false) ∧ w.cell? ⟨g, 5, none⟩ = some (.int .i64 0) ∧ w.cell? ⟨g, 6, none⟩ = some (.int .i64 0) ∧ w.cell? ⟨g, 7, none⟩ = some (.int .i64 0) ∧ w.cell? ⟨g, 8, none⟩ = some (.string d)
theorem plain_at {g : Nat} {d : ByteArray} {w : World} (h : w.heap[g]? = some (.cells (plainC d) 28 (0, 0))) : PlainAt g d w := by
  unfold plainC at h
  unfold PlainAt
  simp [World.cell?, h]
/-- The head of such a part. -/
def headB : ByteArray := ⟨#[31, 139, 8, 0, 0, 0, 0, 0, 0, 0]⟩
def headS : List ByteArray := [⟨#[31, 139]⟩, ⟨(leB 8 1).toArray⟩, ⟨(leB 0 1).toArray⟩, ⟨(leB 0 4).toArray⟩, ⟨(leB 0 1).toArray⟩, ⟨(leB 0 1).toArray⟩]
theorem head_cat : catS headS = headB.data.toList := by decide

theorem bytesOf_int (n k : Int) (hn : 0 ≤ n ∧ n < 2 ^ 62) (hk : 0 ≤ k ∧ k ≤ 7) (w : World) :
    Calls Tryz.prog 16 #[.int .i64 n, .int .i64 k] w fun e w' => e = .returned (.string ⟨(leB n.toNat k.toNat).toArray⟩) ∧ Touch (fun _ => False) w w' := by
  have := bytesOf_any n.toNat k.toNat (by omega) (by omega) w
  rw [show ((n.toNat : Nat) : Int) = n by omega, show ((k.toNat : Nat) : Int) = k by omega] at this
  exact this
set_option maxRecDepth 100000 in
set_option maxHeartbeats 8000000 in
theorem head_plain (d : ByteArray) (w : World) : Calls Tryz.prog 14 #[.agg (plainC d)] w fun e w' => e = .returned (.string headB) ∧ Touch (fun _ => False) w w' := by
  have TA := hid ((Touch.refl (fun _ => False) w).alloc (.cells (plainC d) 28))
  have B0 := hid (new_block w (plainC d) 28)
  have KF := hid (fun w => flags_plain d w)
  have PC := hid (show plainC d = #[.string ⟨#[]⟩, .string ⟨#[]⟩, .string ⟨#[]⟩, .bool false, .bool false, .int .i64 0, .int .i64 0, .int .i64 0, .string d] from rfl)
  obtain ⟨w1, hw1⟩ : ∃ w1, w1 = w.alloc (.cells (plainC d) 28) := ⟨_, rfl⟩
  rw [PC.out]
  go_enter Tryz.func14, Tryz.ntmps14
  go_upto_region 1 with fail
  rw [← PC.out, ← hw1]
  rw [← hw1] at TA B0
  obtain ⟨g, hg⟩ : ∃ g, g = w.heap.size := ⟨_, rfl⟩
  rw [← hg] at B0 ⊢
  clear hg hw1
  have lq := lt_of_block B0.out
  have hp := plain_at B0.out
  unfold PlainAt at hp
  have TT := hid (Touch.refl (fun _ => False) w1)
  rw [PC.out]
  rw [PC.out] at KF
  first | (go_region_held3 (fun w' => w'.cell? ⟨g, 0, none⟩ = some (.string ⟨#[]⟩) ∧ w'.cell? ⟨g, 1, none⟩ = some (.string ⟨#[]⟩) ∧ w'.cell? ⟨g, 2, none⟩ = some (.string ⟨#[]⟩) ∧ w'.cell? ⟨g, 3, none⟩ = some (.bool false) ∧ w'.cell? ⟨g, 4, none⟩ = some (.bool false) ∧ w'.cell? ⟨g, 5, none⟩ = some (.int .i64 0) ∧ w'.cell? ⟨g, 6, none⟩ = some (.int .i64 0) ∧ w'.cell? ⟨g, 7, none⟩ = some (.int .i64 0) ∧ w'.cell? ⟨g, 8, none⟩ = some (.string d))
    (exact plain_at ((Touch.block (S := fun _ => False) (w := w1) (by repeat (first | exact TT.out | exact Touch.refl _ _ | refine Touch.drew ?_ | refine Touch.drewN ?_ _ | refine Touch.alloc ?_ _)) g lq id).trans B0.out))
    (first
      | (go_at_call 16
         refine (bytesOf_int _ _ (by decide) (by decide) _).mono ?_
         rintro e wn ⟨rfl, tn⟩
         have TT := hid (Touch.trans (S := fun _ => False) (a := w1) (by repeat (first | exact TT.out | exact Touch.refl _ _ | refine Touch.drew ?_ | refine Touch.drewN ?_ _ | refine Touch.alloc ?_ _)) tn (fun _ _ e => e))
         clear tn)
      | (go_at_call 24
         refine (KF.out _).mono ?_
         rintro e wn ⟨rfl, tn⟩
         have TT := hid (Touch.trans (S := fun _ => False) (a := w1) (by repeat (first | exact TT.out | exact Touch.refl _ _ | refine Touch.drew ?_ | refine Touch.drewN ?_ _ | refine Touch.alloc ?_ _)) tn (fun _ _ e => e))
         clear tn))) | fail
  have TS := hid (TT.out.alloc (.cells (headS.map Value.string).toArray 9))
  have BS := hid (new_block wn (headS.map Value.string).toArray 9)
  have LW := hid (lt_of_block BS.out)
  obtain ⟨wS, hwS⟩ : ∃ wS, wS = wn.alloc (.cells (headS.map Value.string).toArray 9) := ⟨_, rfl⟩
  obtain ⟨q, hq⟩ : ∃ q, q = wn.heap.size := ⟨_, rfl⟩
  change Exit.then _ _ _ _ (wn.alloc (.cells (headS.map Value.string).toArray 9))
  rw [← hwS] at TS BS LW ⊢
  rw [← hq] at BS LW ⊢
  have KL := hid (laid_any q headS 6 wS LW.out (fun j hj => by
    simp only [World.cell?, BS.out]
    simp [hj]) (by decide) (by decide) (by decide))
  rw [head_cat] at KL
  have hp := plain_at ((TS.out.block g lq id).trans B0.out)
  unfold PlainAt at hp
  obtain ⟨p0, p1, p2, p3, p4, p5, p6, p7, p8⟩ := hp
  clear hwS hq TT BS LW KF
  go_wp2_with fail
  refine Calls.mono (R := fun e w' => e = .returned (.string headB) ∧ Touch (fun _ => False) wS w') KL.out ?_
  rintro e w5 ⟨rfl, t5⟩
  have T5 := hid (TS.out.trans t5 (fun _ _ e => e))
  clear t5 KL p0 p1 p2 p3 p4 p5 p6 p7 p8
  have hp := plain_at ((T5.out.block g lq id).trans B0.out)
  unfold PlainAt at hp
  obtain ⟨p0, p1, p2, p3, p4, p5, p6, p7, p8⟩ := hp
  go_wp2
  go_ret
  exact ⟨rfl, TA.out.trans T5.out (fun _ _ e => e)⟩
end Go.Proofs.YtlnpbcpajllkbaaGreatDoor

/- A Builder that is the call's own: a text behind what it holds; condition: it all fits into memory. -/
namespace Go.Proofs.YtlnpbcpajllkbaaGreatDoor
open Go.RowKit
open Go.Lib

theorem size44 : (Tryz.prog.info? 44).map (·.size) = some 2 := by kernel_rfl
theorem lies44 : liesAt Tryz.prog Tryz.prog.depth 44 (2 / Tryz.prog.cellsOf 44) 0 44 1 = true := by kernel_rfl
set_option maxHeartbeats 1000000 in
set_option maxRecDepth 100000 in
theorem held_again (b : Nat) (w : World) (h0 : w.cell? ⟨b, 0, none⟩ = some (.pointer (some ⟨b, 0, none⟩))) :
    Calls Tryz.prog 23 #[.pointer (some ⟨b, 0, none⟩)] w fun e w' => e = .returned (.tuple #[]) ∧ w' = w := by
  obtain ⟨j, hj, _⟩ := Option.map_eq_some_iff.1 size44
  go_enter Tryz.func23, Tryz.ntmps23
  go_wp2
  rw [run_neq_ptr_same w _ Tryz.underlying42 hj]
  go_wp2
  go_end0
  exact ⟨rfl, rfl⟩
set_option maxHeartbeats 1000000 in
set_option maxRecDepth 100000 in
theorem held_new (b : Nat) (w : World) (v : Value) (hb : w.heap[b]? = some (.cells #[.pointer none, v] 44 (0, 0))) :
    Calls Tryz.prog 23 #[.pointer (some ⟨b, 0, none⟩)] w fun e w' => e = .returned (.tuple #[]) ∧ w' = w.setCell ⟨b, 0, none⟩ (.pointer (some ⟨b, 0, none⟩)) := by
  obtain ⟨j, hj, hjs⟩ := Option.map_eq_some_iff.1 size44
  have h0 : w.cell? ⟨b, 0, none⟩ = some (.pointer none) := by simp [World.cell?, hb]
  have hfz : w.frozen? ⟨b, 0, none⟩ = false := by simp [World.frozen?, hb]
  have hsh : w.shape? b = some (44, 2) := by simp [World.shape?, hb]
  clear hb
  go_enter Tryz.func23, Tryz.ntmps23
  go_wp2
  rw [run_to_unsafe w ⟨b, 0, none⟩ Tryz.underlying42 Tryz.underlying95 hj (by rw [hjs]; decide) hsh (Nat.zero_lt_succ 1)]
  simp only [Result.andThen]
  rw [Oper.upon_value]
  go_wp2
  rw [run_callFunc_extern Tryz.func38 (by kernel_rfl) (by kernel_rfl) (by kernel_rfl) (e := Extern.AbiNoEscape.same) (by kernel_rfl), run_noEscape]
  simp only [Result.andThen]
  rw [Oper.upon_value]
  go_wp2
  rw [run_from_unsafe w ⟨b, 0, none⟩ Tryz.underlying95 Tryz.underlying42 hj hsh lies44]
  simp only [Result.andThen]
  rw [Oper.upon_value]
  go_wp2
  go_end0
  exact ⟨rfl, rfl⟩

/-- A Builder of the call's own that holds these bytes. -/
def Hd (B b : Nat) (l : List UInt8) (w : World) : Prop := IsBuilder 44 5 B b (byteCells l) w
theorem Hd.new (w : World) : Hd w.heap.size w.heap.size [] (w.alloc (.cells #[.pointer none, .slice none 0 0] 44)) :=
  .inl ⟨Nat.le_refl _, .slice none 0 0, new_block _ _ _, World.ownsRow_nil _ _ _ _, by simp [Value.ownBlock]⟩
theorem Hd.still {B b : Nat} {l : List UInt8} {w w' : World} (h : Hd B b l w) (t : Touch (fun _ => False) w w') : Hd B b l w' := by
  have go : ∀ p, BuilderAt 44 5 B b p (byteCells l) w → BuilderAt 44 5 B b p (byteCells l) w' := by
    rintro p ⟨h1, v, h2, h3, h4⟩
    refine ⟨h1, v, (t.block b (lt_of_block h2) id).trans h2, ⟨h3.1, ?_⟩, h4⟩
    rcases h3.2 with h0 | ⟨g, cap, cur, hv, hg, hh, rest⟩
    · exact .inl h0
    · exact .inr ⟨g, cap, cur, hv, hg, (t.block g (lt_of_block hh) id).trans hh, rest⟩
  rcases h with h | h
  · exact .inl (go _ h)
  · exact .inr (go _ h)
/-- Parts lie as they lay. -/
def Keep28 (w w' : World) : Prop := ∀ (k : Nat) (cs : Array Value), w.heap[k]? = some (Obj.cells cs 28 (0, 0)) → w'.heap[k]? = some (Obj.cells cs 28 (0, 0))
theorem Keep28.trans {a b c : World} (h : Keep28 a b) (k : Keep28 b c) : Keep28 a c := fun i cs e => k i cs (h i cs e)
theorem Keep28.of {a b : World} (h : Touch (fun _ => False) a b) : Keep28 a b := fun i _ e => (h.block i (lt_of_block e) id).trans e
theorem strCells_bytes (s : ByteArray) : strCells s = byteCells s.data.toList := rfl

set_option maxHeartbeats 2000000 in
set_option maxRecDepth 100000 in
theorem check_held (B b : Nat) (l : List UInt8) (w : World) (h : Hd B b l w) :
    Calls Tryz.prog 23 #[.pointer (some ⟨b, 0, none⟩)] w fun e w' => e = .returned (.tuple #[]) ∧ BuilderAt 44 5 B b (.pointer (some ⟨b, 0, none⟩)) (byteCells l) w' ∧ Below B w w' ∧ Keep28 w w' := by
  rcases h with ⟨h1, v, h2, h3, h4⟩ | h
  · refine (held_new b w v h2).mono ?_
    rintro e w' ⟨rfl, rfl⟩
    refine ⟨rfl, ⟨h1, v, two_set0 h2, ?_, h4⟩, (Below.refl B w).setCell (p := ⟨b, 0, none⟩) h1 _, fun k cs hk => by
      rw [Below.heap_setCell _ _ _ _ (fun e => by subst e; rw [h2] at hk; simp at hk)]
      exact hk⟩
    refine ⟨h3.1, ?_⟩
    rcases h3.2 with h0 | ⟨g, cap, cur, hv, hg, hh, rest⟩
    · exact .inl h0
    · refine .inr ⟨g, cap, cur, hv, hg, ?_, rest⟩
      rw [Below.heap_setCell _ _ _ _ (fun e => h4 (by rw [hv]; simp [Value.ownBlock]; exact e))]
      exact hh
  · refine (held_again b w h.cell0).mono ?_
    rintro e w' ⟨rfl, rfl⟩
    exact ⟨rfl, h, Below.refl _ _, fun _ _ e => e⟩
set_option maxHeartbeats 2000000 in
set_option maxRecDepth 100000 in
theorem writeString_any (B b : Nat) (l : List UInt8) (s : ByteArray) (w : World) (h : Hd B b l w) (hlen : l.length + s.size ≤ 140737488355328) (hBw : B ≤ w.heap.size) :
    Calls Tryz.prog 13 #[.pointer (some ⟨b, 0, none⟩), .string s] w fun e w' => e = .returned (.tuple #[.int .i64 s.size, .nilIface]) ∧ Hd B b (l ++ s.data.toList) w' ∧ Below B w w' ∧ Keep28 w w' := by
  obtain ⟨i0, hi, hz0, hz1, hz2⟩ := info_parts info5
  have K := hid (check_held B b l w h)
  go_enter Tryz.func13, Tryz.ntmps13
  go_wp2_with fail
  refine K.out.mono ?_
  rintro e w1 ⟨rfl, ⟨hB, v, hbk, hown, hne⟩, hb1, hk1⟩
  have c0 : w1.cell? ⟨b, 0, none⟩ = some (.pointer (some ⟨b, 0, none⟩)) := cell_two0 hbk
  have c1 : w1.cell? ⟨b, 1, none⟩ = some v := cell_two1 hbk
  clear K
  have hcl := byteCells_length l
  go_wp2_with (at_builtin; refine wpList_append_own_string _ rfl _ _ 36 9 rfl B 5 i0 Tryz.underlying36 Tryz.underlying9 hi hz0 hz1 hz2 _ _ _ rfl hown s rfl ?c3 ?c4 ?c5 ?_)
  case c3 => unfold maxLen; omega
  case c4 => omega
  case c5 => have := hb1.size; omega
  intro v' w2 hown' hgrow _
  have hb2 : w2.heap[b]? = some (.cells #[.pointer (some ⟨b, 0, none⟩), v] 44 (0, 0)) := by
    rw [hgrow.block b (lt_of_block hbk) (fun e => hne e.symm)]
    exact hbk
  have d0 : w2.cell? ⟨b, 0, none⟩ = some (.pointer (some ⟨b, 0, none⟩)) := cell_two0 hb2
  have d1 : w2.cell? ⟨b, 1, none⟩ = some v := cell_two1 hb2
  have f1 : w2.frozen? ⟨b, 1, none⟩ = false := free_two hb2
  obtain ⟨ao, cap, rfl⟩ : ∃ ao cap, v' = .slice ao (l.length + s.size) cap := by
    rcases hown'.2 with ⟨hv, h0⟩ | ⟨g, cap, cur, hv, _⟩
    · exact ⟨none, 0, by rw [hv, h0]⟩
    · exact ⟨_, cap, hv⟩
  go_wp2
  refine bodyPost_ret (results_tmp2 rfl _ _ _) rfl ?_
  refine ⟨rfl, .inr ?_, ?_, ?_⟩
  · refine BuilderAt.put (T := 44) (e := 5) hB hb2 ?_ (by decide)
    rw [byteCells_append, ← strCells_bytes s, List.length_append, strCells_length, byteCells_length]
    exact hown'
  · exact (hb1.grown hgrow (by have := hb1.size; omega) (fun k hk => (hown.lt k hk).1)).setCell (p := ⟨b, 1, none⟩) hB _
  · refine hk1.trans (fun k cs hk => ?_)
    rw [Below.heap_setCell _ _ _ _ (fun e => by subst e; rw [hbk] at hk; simp at hk), hgrow.block k (lt_of_block hk) (fun e => ?_)]
    · exact hk
    · rcases hown.2 with ⟨h0, _⟩ | ⟨g, cp, cur, hv, hg, hh, _⟩
      · rw [h0] at e
        simp [Value.ownBlock] at e
      · rw [hv] at e
        simp [Value.ownBlock] at e
        subst e
        rw [hh] at hk
        simp at hk
end Go.Proofs.YtlnpbcpajllkbaaGreatDoor

/-
  DERIVED: THE SHELF's CONTRACTS AT THIS DUMP, IN PLAIN WORDS (tools/lay-plain.mjs out of 'YtlnpbcpajllkbaaGreatDoorShq.lean', which tools/lay-shelf.mjs wrote): THE SAME DECLARATIONS UNDER THE SAME NAMES: 'import', 'namespace', 'open', 'def', 'theorem' AND NOTHING ELSE: no command of the shelf's: FOR A HAND-IN. Each laying: the table of numbers ('.._ren') and one theorem, a field a fact of the dump's own or the kernel's comparison; each contract: ONE APPLICATION.
-/
namespace Go.Proofs
open Go.Shelf
def Tryz.lays169_ren : Go.Shelf.Ren := ⟨fun | 169 => 17 | n => n, fun | 70 => 42 | 9 => 9 | 0 => 0 | 72 => 44 | 37 => 36 | 127 => 86 | 3 => 3 | 5 => 5 | n => n, fun | n => n⟩
theorem Tryz.lays169 : Go.Proofs.Lays.n169 Tryz.prog Tryz.lays169_ren := {
  mixed := by kernel_rfl
  f169 := Tryz.func17.trans (congrArg some (by kernel_rfl))
  t0 := Tryz.underlying0
  a0 := Tryz.isAgg0
  z0 := Tryz.sizeOf0
  v0 := Tryz.zeroValue0
  t3 := Tryz.underlying3
  a3 := Tryz.isAgg3
  z3 := Tryz.sizeOf3
  v3 := Tryz.zeroValue3
  t9 := Tryz.underlying9
  a9 := Tryz.isAgg9
  z9 := Tryz.sizeOf9
  v9 := Tryz.zeroValue9
  t37 := Tryz.underlying36
  a37 := Tryz.isAgg36
  z37 := Tryz.sizeOf36
  v37 := Tryz.zeroValue36
  t70 := Tryz.underlying42
  a70 := Tryz.isAgg42
  z70 := Tryz.sizeOf42
  v70 := Tryz.zeroValue42
  t72 := Tryz.underlying44
  a72 := Tryz.isAgg44
  z72 := Tryz.sizeOf44
  v72 := Tryz.zeroValue44
  t127 := Tryz.underlying86
  a127 := Tryz.isAgg86
  z127 := Tryz.sizeOf86
  v127 := Tryz.zeroValue86 }
end Go.Proofs

/- The writer, as the first part of something greater; no condition. -/
namespace Go.Proofs.YtlnpbcpajllkbaaGreatDoor.G
open Go.RowKit

theorem cell_two0 {rs : List Value} {w : World} {b : Nat} {v u : Value} {t : TypeId} (h : w.heap[b]? = some (.cells ⟨v :: u :: rs⟩ t (0, 0))) : w.cell? ⟨b, 0, none⟩ = some v := by simp [World.cell?, h]
theorem cell_two1 {rs : List Value} {w : World} {b : Nat} {v u : Value} {t : TypeId} (h : w.heap[b]? = some (.cells ⟨v :: u :: rs⟩ t (0, 0))) : w.cell? ⟨b, 1, none⟩ = some u := by simp [World.cell?, h]
theorem free_two {rs : List Value} {w : World} {b i : Nat} {v u : Value} {t : TypeId} (h : w.heap[b]? = some (.cells ⟨v :: u :: rs⟩ t (0, 0))) : w.frozen? ⟨b, i, none⟩ = false := by simp [World.frozen?, h]
theorem two_set0 {rs : List Value} {w : World} {b : Nat} {v u x : Value} {t : TypeId} (h : w.heap[b]? = some (.cells ⟨v :: u :: rs⟩ t (0, 0))) : (w.setCell ⟨b, 0, none⟩ x).heap[b]? = some (.cells ⟨x :: u :: rs⟩ t (0, 0)) := by
  have hlt := lt_of_block h
  have h' : w.heap[b] = .cells ⟨v :: u :: rs⟩ t (0, 0) := by simpa [Array.getElem?_eq_getElem hlt] using h
  show (w.heap.modify b _)[b]? = _
  rw [Array.getElem?_eq_getElem (by simpa using hlt), Array.getElem_modify_self, h']
  rfl
theorem two_set1 {rs : List Value} {w : World} {b : Nat} {v u x : Value} {t : TypeId} (h : w.heap[b]? = some (.cells ⟨v :: u :: rs⟩ t (0, 0))) : (w.setCell ⟨b, 1, none⟩ x).heap[b]? = some (.cells ⟨v :: x :: rs⟩ t (0, 0)) := by
  have hlt := lt_of_block h
  have h' : w.heap[b] = .cells ⟨v :: u :: rs⟩ t (0, 0) := by simpa [Array.getElem?_eq_getElem hlt] using h
  show (w.heap.modify b _)[b]? = _
  rw [Array.getElem?_eq_getElem (by simpa using hlt), Array.getElem_modify_self, h']
  rfl


def Wr (rs : List Value) (ty : TypeId) (w : World) (b : Nat) (bs : List Bool) : Prop :=
  ty ≠ 5 ∧ ∃ v, w.heap[b]? = some (.cells ⟨v :: .int .i64 bs.length :: rs⟩ ty (0, 0)) ∧ w.ownsRow 0 5 1 v ((bs.length + 7) / 8) (bytesV (Bt.pack bs))

/-- The blocks that the writer at b uses. -/
def Fp (rs : List Value) (ty : TypeId) (w : World) (b k : Nat) : Prop := k = b ∨ ∃ v c, w.heap[b]? = some (.cells ⟨v :: c :: rs⟩ ty (0, 0)) ∧ v.ownBlock = some k

structure WStep (rs : List Value) (ty : TypeId) (w w' : World) (b : Nat) (bs : List Bool) : Prop where
  wr : Wr rs ty w' b bs
  touch : Touch (Fp rs ty w b) w w'
  fp : ∀ k, Fp rs ty w' b k → Fp rs ty w b k ∨ w.heap.size ≤ k

theorem WStep.refl {rs : List Value} {ty : TypeId} {w : World} {b : Nat} {bs : List Bool} (h : Wr rs ty w b bs) : WStep rs ty w w b bs := ⟨h, Touch.refl _ _, fun _ h => .inl h⟩

theorem WStep.trans {rs : List Value} {ty : TypeId} {a w c : World} {b : Nat} {bs bs' : List Bool} (h : WStep rs ty a w b bs) (k : WStep rs ty w c b bs') : WStep rs ty a c b bs' :=
  ⟨k.wr, h.touch.trans k.touch (fun i hi e => (h.fp i e).elim id (fun g => by omega)),
    fun i e => (k.fp i e).elim (fun e => h.fp i e) (fun e => .inr (Nat.le_trans h.touch.size e))⟩

theorem WStep.drew {rs : List Value} {ty : TypeId} {w w' : World} {b : Nat} {bs : List Bool} (h : WStep rs ty w w' b bs) : WStep rs ty w w'.drew b bs := ⟨h.wr, h.touch.drew, h.fp⟩

theorem Fp.self (rs : List Value) (ty : TypeId) (w : World) (b : Nat) : Fp rs ty w b b := .inl rfl

theorem Wr.lt {rs : List Value} {ty : TypeId} {w : World} {b : Nat} {bs : List Bool} (h : Wr rs ty w b bs) : b < w.heap.size := by
  obtain ⟨_, v, h, _⟩ := h
  exact lt_of_block h

theorem Wr.fp_lt {rs : List Value} {ty : TypeId} {w : World} {b : Nat} {bs : List Bool} (h : Wr rs ty w b bs) {k : Nat} (hk : Fp rs ty w b k) : k < w.heap.size := by
  rcases hk with rfl | ⟨v, c, hb, ho⟩
  · exact h.lt
  · obtain ⟨_, v', hb', hown⟩ := h
    rw [hb] at hb'
    simp at hb'
    obtain ⟨rfl, rfl⟩ := hb'
    exact (hown.lt k ho).2

/-- What the writer uses is as it was: it is the writer that it was. -/
theorem Wr.kept {rs : List Value} {ty : TypeId} {w w' : World} {b : Nat} {bs : List Bool} (h : Wr rs ty w b bs) (hk : ∀ k, Fp rs ty w b k → w'.heap[k]? = w.heap[k]?) : Wr rs ty w' b bs := by
  obtain ⟨hty, v, hb, hown⟩ := h
  refine ⟨hty, v, (hk b (.inl rfl)).trans hb, hown.1, ?_⟩
  rcases hown.2 with h2 | ⟨g, cap, cur, hv, hg, hh, r⟩
  · exact .inl h2
  · exact .inr ⟨g, cap, cur, hv, hg, (hk g (.inr ⟨v, _, hb, by rw [hv]; rfl⟩)).trans hh, r⟩

theorem Fp.of_same {rs : List Value} {ty : TypeId} {w w' : World} {b k : Nat} (hb : w'.heap[b]? = w.heap[b]?) (h : Fp rs ty w' b k) : Fp rs ty w b k := by
  rcases h with h | ⟨v, c, h, ho⟩
  · exact .inl h
  · exact .inr ⟨v, c, by rw [← hb]; exact h, ho⟩

end Go.Proofs.YtlnpbcpajllkbaaGreatDoor.G
