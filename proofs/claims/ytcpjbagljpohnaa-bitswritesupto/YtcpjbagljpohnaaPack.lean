/- The document's answer: bits packed as bytes. -/
import Derived.Test.YtcpjbagljpohnaaAll
import Derived.Test.YtcpjbagljpohnaaWmath
namespace Go.Proofs.Ytcpjbagljpohnaa
open Go.RowKit

theorem hid {p : Prop} (h : p) : Hid p := h

def bitsV (l : List Bool) : List Value := l.map fun c : Bool => Value.int .i64 ((c.toNat : Nat) : Int)
/-- The bytes of the first i bits, of as many bytes as all bits take. -/
def packTo (B : List Bool) (i : Nat) : List Nat := (List.range ((B.length + 7) / 8)).map (Bt.byteAt (B.take i))

theorem packTo_zero (B : List Bool) : packTo B 0 = List.replicate ((B.length + 7) / 8) 0 := by
  unfold packTo
  apply List.ext_getElem
  · simp
  · intro i h1 h2
    simp [Bt.byteAt, Bt.val]

theorem packTo_all (B : List Bool) : packTo B B.length = Bt.pack B := by simp [packTo, Bt.pack]

theorem byteAt_past (l : List Bool) (j : Nat) (h : l.length ≤ 8 * j) : Bt.byteAt l j = 0 := by
  unfold Bt.byteAt
  rw [List.drop_eq_nil_of_le h]
  rfl

theorem packTo_succ (B : List Bool) (i : Nat) (h : i < B.length) : packTo B (i + 1) = (packTo B i).set (i / 8) (Bt.byteAt (B.take i) (i / 8) + (B.getD i false).toNat * 2 ^ (i % 8)) := by
  have hl : (B.take i).length = i := by simp; omega
  have ht : B.take (i + 1) = B.take i ++ [B.getD i false] := by
    rw [List.take_succ_eq_append_getElem h]
    simp [List.getD_eq_getElem?_getD, List.getElem?_eq_getElem h]
  unfold packTo
  rw [ht]
  apply List.ext_getElem
  · simp
  · intro j h1 h2
    simp only [List.length_map, List.length_range] at h1
    simp only [List.getElem_map, List.getElem_range, List.getElem_set]
    split
    · rename_i e
      subst e
      have := Bt.byteAt_snoc_last (B.take i) (B.getD i false)
      rw [hl] at this
      exact this
    · rename_i hne
      by_cases hj : j < i / 8
      · exact Bt.byteAt_snoc_low _ _ _ (by rw [hl]; exact hj)
      · rw [byteAt_past _ _ (by simp; omega), byteAt_past _ _ (by rw [hl]; omega)]

theorem length_packTo (B : List Bool) (i : Nat) : (packTo B i).length = (B.length + 7) / 8 := by simp [packTo]

theorem packTo_get (B : List Bool) (i j : Nat) (h : j < (B.length + 7) / 8) : (packTo B i)[j]? = some (Bt.byteAt (B.take i) j) := by
  simp [packTo, h]

theorem add_bit (x m : Nat) (hm : m < 8) (hx : x < 2 ^ m) : ((x : Int) + 2 ^ m % 256) % 256 = ((x + 2 ^ m : Nat) : Int) := by
  rcases (show m = 0 ∨ m = 1 ∨ m = 2 ∨ m = 3 ∨ m = 4 ∨ m = 5 ∨ m = 6 ∨ m = 7 by omega) with rfl | rfl | rfl | rfl | rfl | rfl | rfl | rfl <;> simp at hx ⊢ <;> omega

theorem byteAt_take_lt (B : List Bool) (i : Nat) (h : i ≤ B.length) : Bt.byteAt (B.take i) (i / 8) < 2 ^ (i % 8) := by
  have hl : (B.take i).length = i := by simp; omega
  have := Bt.byteAt_last_lt (B.take i)
  rwa [hl] at this

theorem set_same (B : List Bool) (k : Nat) (h : k < B.length) : (packTo B k).set (k / 8) (Bt.byteAt (B.take k) (k / 8)) = packTo B k := by
  apply List.ext_getElem?
  intro j
  rw [List.getElem?_set]
  split
  · rename_i e
    subst e
    have hj : k / 8 < (B.length + 7) / 8 := by omega
    rw [packTo_get B k _ hj]
    simp [length_packTo, hj]
  · rfl

set_option maxHeartbeats 1000000 in
theorem pack_any (b : Nat) (B : List Bool) (cap : Nat) (w : World) (hlen : B.length ≤ 1125899906842624) (hown : w.ownsRow 0 3 1 (.slice (some ⟨b, 0, none⟩) B.length cap) B.length (bitsV B)) :
    Calls Try.prog 23 #[.slice (some ⟨b, 0, none⟩) B.length cap] w fun e w' => e = .returned (.string (strOf (Bt.pack B))) ∧ Touch (fun _ => False) w w' := by
  obtain ⟨i0, hi, hz0, hz1, hz2⟩ := info_parts Try.info5
  have hblt := (hown.lt b rfl).2
  have hcell : ∀ i, i < B.length → w.cell? ⟨b, i, none⟩ = some (.int .i64 (((B.getD i false).toNat : Nat) : Int)) := by
    intro i hi
    have := hown.cells (g := b) rfl i (.int .i64 (((B.getD i false).toNat : Nat) : Int)) (by simp [bitsV, List.getElem?_eq_getElem hi, List.getD_eq_getElem?_getD])
    rwa [add_zero] at this
  have HCELL : Hid _ := hcell
  clear hcell hown
  obtain ⟨nb, hnb⟩ : ∃ nb, (B.length + 7) / 8 = nb := ⟨_, rfl⟩
  have HNB : Hid _ := hnb
  have hnbb : nb ≤ 140737488355328 := by omega
  go_enter Try.func23, Try.ntmps23
  clear hnb
  go_wp2_with (first
    | (at_make; refine wpList_make_full _ rfl _ _ 39 rfl 0 5 i0 (.int .u8 0) 1 Try.underlying39 hi hz0 hz1 .i64 .i64 _ _ nb rfl rfl (by have := HNB.out; omega) (by have := HNB.out; omega) (by rw [hz2]; omega) (by unfold maxLen; omega) (Nat.zero_le _) ?_))
  intro w1 hown1 hgrow
  rw [toList_madeCells_one] at hown1
  have O1 := hid hown1
  have T1 : Hid (Touch (fun _ => False) w w1) := (Touch.refl _ w).grown hgrow (fun k e => by simp at e)
  have hlt1 : w.heap.size < w1.heap.size := (hown1.lt w.heap.size rfl).2
  clear hown1 hgrow
  go_wp2_with fail
  go_loopw [4] (fun i wr => ∃ k : Nat, k ≤ B.length ∧ i = .int .i64 k ∧ wr.ownsRow 0 5 1 (.slice (some ⟨w.heap.size, 0, none⟩) nb nb) nb (bytesV (packTo B k)) ∧ Touch (fun _ => False) w wr) (fun i _ => B.length - (intOf i).toNat)
  case atStart => exact ⟨0, Nat.zero_le _, rfl, by rw [packTo_zero, HNB.out, bytesV, List.map_replicate]; exact O1.out, T1.out⟩
  case round =>
    obtain ⟨k, hk, rfl, ho, ht⟩ := hrel
    have OW := hid ho
    have TW := hid ht
    clear ho ht O1 T1
    by_cases hlt : k < B.length
    · have cb : wr.cell? ⟨b, k, none⟩ = some (.int .i64 (((B.getD k false).toNat : Nat) : Int)) := by rw [TW.out.cell (p := ⟨b, k, none⟩) hblt id, HCELL.out k hlt]
      have hk8 : k / 8 < nb := by have := HNB.out; omega
      have hx : wr.cell? ⟨w.heap.size, k / 8, none⟩ = some (.int .u8 (Bt.byteAt (B.take k) (k / 8) : Nat)) := by
        have := OW.out.cells (g := w.heap.size) rfl (k / 8) (.int .u8 (Bt.byteAt (B.take k) (k / 8) : Nat)) (by simp [bytesV, packTo_get B k (k / 8) (by have := HNB.out; omega)])
        rwa [add_zero] at this
      have hfx : wr.frozen? ⟨w.heap.size, k / 8, none⟩ = false := by
        rcases OW.out.2 with ⟨h, _⟩ | ⟨g, cap, cur, h, _, hh, _⟩
        · simp at h
        · simp at h
          obtain ⟨rfl, rfl⟩ := h
          simp [World.frozen?, hh]
      cases hbit : B.getD k false
      · rw [hbit] at cb
        have HB : Hid _ := hbit
        clear hbit hx hfx
        go_wp2
        go_roundw
        case rel => exact ⟨k + 1, by omega, by go_num, by rw [packTo_succ B k hlt, HB.out, Bool.toNat_false, Nat.zero_mul, Nat.add_zero, set_same B k hlt]; exact OW.out, TW.out⟩
        case measure => simp [intOf]; omega
      · rw [hbit] at cb
        have HB : Hid _ := hbit
        have ha := add_bit _ (k % 8) (by omega) (byteAt_take_lt B k (by omega))
        clear hbit
        go_wp2
        go_region
        all_goals go_wp2
        all_goals go_roundw
        case rel =>
          refine ⟨k + 1, by omega, by go_num, ?_, ?_⟩
          · refine World.ownsRow.drew ?_
            have h := ownsRow_set OW.out (k / 8) (.int .u8 ((Bt.byteAt (B.take k) (k / 8) + (true).toNat * 2 ^ (k % 8) : Nat) : Int))
            rw [packTo_succ B k hlt, HB.out]
            have e : ((Bt.byteAt (B.take k) (k / 8) + (true).toNat * 2 ^ (k % 8) : Nat) : Int) = (Bt.byteAt (B.take k) (k / 8) : Int) + 2 ^ (k % 8) := by simp
            rw [e] at h
            simp only [bytesV, List.map_set] at h ⊢
            rw [e]
            exact h
          · exact Touch.drew (TW.out.setCell (fun h => by simp at h) _)
        case measure => simp [intOf]; omega
    · obtain rfl : k = B.length := by omega
      have hc : ∀ j (hj : j < ((Bt.pack B).map UInt8.ofNat).length), wr.cell? ((⟨w.heap.size, 0, none⟩ : Addr).add j) = some (.int .u8 ((((Bt.pack B).map UInt8.ofNat)[j]).toNat : Int)) := by
        intro j hj
        simp only [List.length_map] at hj
        refine OW.out.cells rfl j _ ?_
        have hlt := Bt.pack_lt B _ (List.getElem_mem hj)
        rw [packTo_all]
        simp only [bytesV, List.getElem?_map, List.getElem?_eq_getElem hj, Option.map_some, List.getElem_map]
        rw [UInt8.toNat_ofNat_of_lt' (by simpa using hlt)]
      have hcv := run_convert_bytes_back (P := Try.prog) wr 39 9 5 ⟨w.heap.size, 0, none⟩ nb ((Bt.pack B).map UInt8.ofNat) Try.underlying39 Try.underlying5 Try.underlying9 hc
      rw [List.length_map, Bt.length_pack, HNB.out] at hcv
      clear hc
      go_wp2
      go_ret
      exact ⟨rfl, TW.out⟩

set_option maxHeartbeats 400000 in
theorem pack_none (w : World) : Calls Try.prog 23 #[.slice none 0 0] w fun e w' => e = .returned (.string (strOf (Bt.pack []))) ∧ Touch (fun _ => False) w w' := by
  obtain ⟨i0, hi, hz0, hz1, hz2⟩ := info_parts Try.info5
  go_enter Try.func23, Try.ntmps23
  go_wp2_with (first
    | (at_make; refine wpList_make_full _ rfl _ _ 39 rfl 0 5 i0 (.int .u8 0) 1 Try.underlying39 hi hz0 hz1 .i64 .i64 _ _ 0 rfl rfl rfl rfl (by rw [hz2]; omega) (by unfold maxLen; omega) (Nat.zero_le _) ?_))
  intro w1 hown1 hgrow
  have T1 : Hid (Touch (fun _ => False) w w1) := (Touch.refl _ w).grown hgrow (fun k e => by simp at e)
  have hcv := run_convert_bytes_back (P := Try.prog) w1 39 9 5 ⟨w.heap.size, 0, none⟩ 0 [] Try.underlying39 Try.underlying5 Try.underlying9 (fun j hj => by simp at hj)
  simp only [List.length_nil] at hcv
  clear hown1 hgrow
  go_wp2_with fail
  refine wp_loop_rounds 1 ?_
  rw [rounds_succ]
  go_wp2
  go_ret
  exact ⟨rfl, T1.out⟩

end Go.Proofs.Ytcpjbagljpohnaa
