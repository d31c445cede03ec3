/- Texts of this proof, one behind the other: what each says stands ahead of it. -/
import Derived.Test.YtffjkceedbblgaaGreatDoorM1
import Derived.BigRegion
import Derived.Test.YtffjkceedbblgaaGreatDoorM0
import Derived.WalkLawsBesides
import Derived.Lib.SliceRun
/- codesOf, its walk. -/
namespace Go.Proofs.YtffjkceedbblgaaGreatDoor
open Go.RowKit

def natsV (l : List Nat) : List Value := l.map fun x : Nat => Value.int .i64 (x : Int)

theorem own3_set' {w : World} {base g n cap : Nat} {xs : List Value} (h : w.ownsRow base 3 1 (.slice (some ⟨g, 0, none⟩) n cap) n xs) (i : Nat) (x : Value) :
    (w.setCell ⟨g, i, none⟩ x).ownsRow base 3 1 (.slice (some ⟨g, 0, none⟩) n cap) n (xs.set i x) := by
  obtain ⟨h1, h2⟩ := h
  rcases h2 with ⟨h2, _⟩ | ⟨g', cap', cur, hv, hg, hh, hle, hm, hcs, htk⟩
  · simp at h2
  · simp at hv
    obtain ⟨rfl, rfl⟩ := hv
    refine ⟨by simpa using h1, .inr ⟨g, cap, cur.set! i x, rfl, hg, ?_, hle, hm, by simpa using hcs, ?_⟩⟩
    · have hlt := lt_of_block hh
      have h' : w.heap[g] = .cells cur 3 (0, 0) := by simpa [Array.getElem?_eq_getElem hlt] using hh
      show (w.heap.modify g _)[g]? = _
      rw [Array.getElem?_eq_getElem (by simpa using hlt), Array.getElem_modify_self, h']
      rfl
    · rw [← htk]
      simp [List.take_set]

/-- The next code of each length, behind the first k symbols. -/
def nexts (c f : Nat → Nat) (k j : Nat) : Nat := if j = 0 then 0 else firsts c j + cntTo f j k
def codesTo (c f : Nat → Nat) (len k : Nat) : List Nat := (List.range len).map fun i => if i < k then codeOf c f i else 0

theorem codesTo_zero (c f : Nat → Nat) (len : Nat) : natsV (codesTo c f len 0) = List.replicate len (.int .i64 0) := by
  apply List.ext_getElem
  · simp [natsV, codesTo]
  · intro i h1 h2
    simp [natsV, codesTo]
theorem codesTo_all (c f : Nat → Nat) (len : Nat) : codesTo c f len len = (List.range len).map (codeOf c f) := by
  apply List.map_congr_left
  intro i hi
  rw [if_pos (by simpa using hi)]
theorem codesTo_skip (c f : Nat → Nat) (len k : Nat) (h : f k = 0) : codesTo c f len (k + 1) = codesTo c f len k := by
  apply List.map_congr_left
  intro i hi
  by_cases e : i = k
  · subst e; simp [codeOf, h]
  · by_cases e2 : i < k
    · rw [if_pos e2, if_pos (by omega)]
    · rw [if_neg e2, if_neg (by omega)]
theorem codesTo_set (c f : Nat → Nat) (len k : Nat) : codesTo c f len (k + 1) = (codesTo c f len k).set k (codeOf c f k) := by
  apply List.ext_getElem
  · simp [codesTo]
  · intro i h1 h2
    simp only [codesTo, List.getElem_map, List.getElem_range, List.getElem_set]
    by_cases e : k = i
    · subst e; simp
    · rw [if_neg e]
      by_cases e2 : i < k
      · rw [if_pos e2, if_pos (by omega)]
      · rw [if_neg e2, if_neg (by omega)]

theorem nexts_skip (c f : Nat → Nat) (k j : Nat) (h : f k = 0) : nexts c f k j = nexts c f (k + 1) j := by
  unfold nexts
  by_cases e : j = 0
  · rw [if_pos e, if_pos e]
  · rw [if_neg e, if_neg e, cntTo, if_neg (by omega), Nat.add_zero]
theorem nexts_step (c f : Nat → Nat) (k j m : Nat) (h : f k = m) (h0 : ¬ m = 0) : (if j = m then nexts c f k m + 1 else nexts c f k j) = nexts c f (k + 1) j := by
  unfold nexts
  by_cases e : j = m
  · subst e
    rw [if_pos rfl, if_neg h0, if_neg h0, cntTo, if_pos h]
    omega
  · rw [if_neg e]
    by_cases e0 : j = 0
    · rw [if_pos e0, if_pos e0]
    · rw [if_neg e0, if_neg e0, cntTo, if_neg (by omega), Nat.add_zero]

theorem first_zero (c : Nat → Nat) (j : Nat) : (0 : Nat) = if j ≤ 0 then firsts c j else 0 := by
  by_cases h : j ≤ 0
  · obtain rfl : j = 0 := by omega
    rfl
  · rw [if_neg h]

set_option maxRecDepth 100000 in
set_option maxHeartbeats 4000000 in
theorem codes_any (a : Option Addr) (len cap : Nat) (f c : Nat → Nat) (w : World) (hl : len ≤ 1024) (hf : ∀ i, f i ≤ 15) (hc : ∀ i, c i ≤ 1024) (hi : Ints w a len (fun i => (f i : Nat))) :
    Calls Tryz.prog 74 #[.slice a len cap, .agg (cArr c)] w fun e w' => ∃ g, e = .returned (.slice (some ⟨g, 0, none⟩) len len) ∧
      w'.ownsRow w.heap.size 3 1 (.slice (some ⟨g, 0, none⟩) len len) len (natsV ((List.range len).map (codeOf c f))) ∧ Touch (fun _ => False) w w' := by
  obtain ⟨i0, hin, hz0, hz1, hz2⟩ := info_parts info3
  have HF := hid hf
  have HC := hid hc
  have HI := hid hi
  clear hf hc hi
  unfold cArr
  go_enter Tryz.func74, Tryz.ntmps74
  go_wp2_with fail
  rw [show #[Value.int IntKind.i64 (c 0), .int .i64 (c 1), .int .i64 (c 2), .int .i64 (c 3), .int .i64 (c 4), .int .i64 (c 5), .int .i64 (c 6), .int .i64 (c 7), .int .i64 (c 8), .int .i64 (c 9), .int .i64 (c 10), .int .i64 (c 11), .int .i64 (c 12), .int .i64 (c 13), .int .i64 (c 14), .int .i64 (c 15)] = cArr c from rfl]
  obtain ⟨w1, hw1⟩ : ∃ w1, w1 = (w.alloc (.cells (cArr c) 150)).alloc (.cells #[.int .i64 0, .int .i64 0, .int .i64 0, .int .i64 0, .int .i64 0, .int .i64 0, .int .i64 0, .int .i64 0, .int .i64 0, .int .i64 0, .int .i64 0, .int .i64 0, .int .i64 0, .int .i64 0, .int .i64 0, .int .i64 0] 150) := ⟨_, rfl⟩
  have hs1 : (w.alloc (.cells (cArr c) 150)).heap.size = w.heap.size + 1 := by simp
  have B0 : Hid (Blk w1 w.heap.size c) := by rw [hw1]; exact (blk_new w c).same (Below.heap_alloc _ _ _ (by omega))
  have B1 : Hid (Blk w1 (w.heap.size + 1) (fun _ => 0)) := by rw [hw1, ← hs1]; exact blk_new _ (fun _ => 0)
  have T1 : Hid (Touch (fun _ => False) w w1) := by rw [hw1]; exact ((Touch.refl _ w).alloc _).alloc _
  rw [← hw1]
  clear hw1 hs1
  go_loopw [6] (fun i wr => ∃ k : Nat, k ≤ 15 ∧ i = .int .i64 (k + 1) ∧ Blk wr w.heap.size c ∧ Blk wr (w.heap.size + 1) (fun j => if j ≤ k then firsts c j else 0) ∧ Touch (fun _ => False) w wr) (fun i _ => 16 - (intOf i).toNat)
  case atStart => exact ⟨0, by decide, rfl, B0.out, B1.out.ext (fun j _ => first_zero c j), T1.out⟩
  case round =>
    obtain ⟨k, hk, rfl, hb0, hb1, ht⟩ := hrel
    have Z0 := hid hb0
    have Z1 := hid hb1
    have TT := hid ht
    clear hb0 hb1 ht B0 B1 T1
    by_cases hlt : k < 15
    · have d0 := Z0.out.cell k (by omega)
      have d1 := Z1.out.cell k (by omega)
      have d2 := Z1.out.cell (k + 1) (by omega)
      have d3 := Z1.out.free (k + 1)
      simp only [Nat.le_refl, if_true] at d1
      rw [if_neg (by omega)] at d2
      have hfl := firsts_le c HC.out k
      have hp : 2 ^ k ≤ 2 ^ 15 := Nat.pow_le_pow_right (by decide) (by omega)
      have hfb : firsts c k ≤ 67108864 := by omega
      have hck := HC.out k
      clear hfl hp
      go_wp2
      go_region
      all_goals go_wp2
      all_goals go_roundw
      case rel =>
        refine ⟨k + 1, by omega, by go_num, ?_, ?_, ?_⟩
        · exact Z0.out.same (Below.heap_setCell _ _ _ _ (by simp))
        · have h := (Z1.out.set (k + 1) ((firsts c k + c k) * 2)).ext (g := fun j => if j ≤ k + 1 then firsts c j else 0) (fun j _ => by
            by_cases e : j = k + 1
            · subst e; simp [firsts]
            · by_cases e2 : j ≤ k
              · rw [if_neg e, if_pos e2, if_pos (by omega)]
              · rw [if_neg e, if_neg e2, if_neg (by omega)])
          have e : (((firsts c k + c k) * 2 : Nat) : Int) = ((firsts c k : Int) + (c k : Int)) * 2 := by simp
          rw [e] at h
          exact h
        · exact Touch.drew (TT.out.setCell (fun h => by simp at h; omega) _)
      case measure => simp [intOf]; omega
    · obtain rfl : k = 15 := by omega
      have Z1 : Hid (Blk wr (w.heap.size + 1) (nexts c f 0)) := Z1.out.ext (fun j hj => by rw [if_pos (by omega)]; cases j <;> simp [nexts, cntTo, firsts])
      have hz1' := Z1.out.lt
      go_wp2_with (first
        | (at_make; refine wpList_make_full _ rfl _ _ 68 rfl w.heap.size 3 i0 (.int .i64 0) 1 Tryz.underlying68 hin hz0 hz1 .i64 .i64 _ _ len rfl rfl rfl rfl (by rw [hz2]; omega) (by unfold maxLen; omega) (by have := TT.out.size; omega) ?_))
      intro w2 hown hgrow
      rw [toList_madeCells_one] at hown
      have TG : Touch (fun _ => False) wr w2 := (Touch.refl _ wr).grown hgrow (fun k e => by simp at e)
      have Z2 := hid (Z1.out.same (TG.block _ hz1' id))
      have T2 := hid (TT.out.trans TG (fun _ _ e => e))
      have O2 := hid hown
      have hne : w.heap.size + 1 ≠ wr.heap.size := by omega
      generalize wr.heap.size = g at *
      clear hgrow TG TT Z0 Z1 hown
      go_wp2_with fail
      go_loopw [31] (fun i wr => ∃ k : Nat, k ≤ len ∧ i = .int .i64 k ∧ Blk wr (w.heap.size + 1) (nexts c f k) ∧ wr.ownsRow w.heap.size 3 1 (.slice (some ⟨g, 0, none⟩) len len) len (natsV (codesTo c f len k)) ∧ Touch (fun _ => False) w wr) (fun i _ => len - (intOf i).toNat)
      case atStart => exact ⟨0, Nat.zero_le _, rfl, Z2.out, by rw [codesTo_zero]; exact O2.out, T2.out⟩
      case round =>
        obtain ⟨k, hk, rfl, hb1, ho, ht⟩ := hrel
        have Z3 := hid hb1
        have O3 := hid ho
        have I3 := hid (HI.out.new ht)
        have T3 := hid ht
        clear hb1 ho ht Z2 O2 T2
        by_cases hlt2 : k < len
        · rcases I3.out with h | ⟨b, o, ha, hb, hcell⟩
          · omega
          · subst ha
            have d0 : wr.cell? ⟨b, o + k, none⟩ = some (.int .i64 (f k : Nat)) := hcell k hlt2
            clear hcell
            by_cases h0 : f k = 0
            · rw [h0] at d0
              have H0 := hid h0
              clear h0
              go_wp2
              go_roundw
              case rel => exact ⟨k + 1, by omega, by go_num, Z3.out.ext (fun j _ => nexts_skip c f k j H0.out), by rw [codesTo_skip c f len k H0.out]; exact O3.out, T3.out⟩
              case measure => simp [intOf]; omega
            · have hfk := HF.out k
              obtain ⟨m, hm⟩ : ∃ m, f k = m := ⟨_, rfl⟩
              obtain ⟨x, hx⟩ : ∃ x, nexts c f k m = x := ⟨_, rfl⟩
              have d1 := Z3.out.cell m (by omega)
              have d2 := Z3.out.free m
              rw [hx] at d1
              rw [hm] at d0 hfk h0
              have hxb : x ≤ 67200000 := by
                have h1 := firsts_le c HC.out m
                have h2 := cntTo_le f m k
                have h3 : 2 ^ m ≤ 2 ^ 15 := Nat.pow_le_pow_right (by decide) (by omega)
                rw [← hx]
                unfold nexts
                split <;> omega
              have d3 : wr.cell? ⟨g, k, none⟩ = some (.int .i64 0) := by
                have := O3.out.cells (g := g) rfl k (.int .i64 0) (by simp [natsV, codesTo, hlt2])
                rwa [add_zero] at this
              have d4 : wr.frozen? ⟨g, k, none⟩ = false := by
                rcases O3.out.2 with ⟨h, _⟩ | ⟨g', cap', cur, h, _, hh, _⟩
                · simp at h
                · simp at h
                  obtain ⟨rfl, rfl⟩ := h
                  simp [World.frozen?, hh]
              have hgw : w.heap.size ≤ g := (O3.out.lt g rfl).1
              have hcode : codeOf c f k = x := by unfold codeOf; rw [hm, if_neg h0, ← hx, nexts, if_neg h0]
              have HM := hid hm
              have HX := hid hx
              have HCO := hid hcode
              have hmp : (0 : Int) < (m : Int) := by omega
              clear hm hx hcode
              go_wp2
              go_roundw
              case rel =>
                refine ⟨k + 1, by omega, by go_num, ?_, ?_, ?_⟩
                · have h := ((Z3.out.same (Below.heap_setCell wr ⟨g, k, none⟩ (.int .i64 (x : Nat)) (w.heap.size + 1) hne)).set m (x + 1)).ext (g := nexts c f (k + 1)) (fun j _ => by rw [← HX.out]; exact nexts_step c f k j m HM.out h0)
                  simpa using h
                · rw [codesTo_set c f len k, HCO.out]
                  refine ownsRow_setCell_other ?_ (by simp [Value.ownBlock]; omega) _
                  have h := own3_set' O3.out k (.int .i64 (x : Nat))
                  simpa [natsV, List.map_set] using h
                · exact Touch.setCell (T3.out.setCell (fun h => by simp at h; omega) _) (fun h => by simp at h; omega) _
              case measure => simp [intOf]; omega
        · obtain rfl : k = len := by omega
          go_wp2
          go_ret
          exact ⟨g, rfl, by rw [← codesTo_all]; exact O3.out, T3.out⟩
end Go.Proofs.YtffjkceedbblgaaGreatDoor

/- A list copied, and two lists held against each other. -/
namespace Go.Proofs.YtffjkceedbblgaaGreatDoor
open Go.RowKit

theorem own_ints {w : World} {base g n cap : Nat} {f : Nat → Int} (h : w.ownsRow base 3 1 (.slice (some ⟨g, 0, none⟩) n cap) n ((List.range n).map fun i => .int .i64 (f i))) : Ints w (some ⟨g, 0, none⟩) n f := by
  refine .inr ⟨g, 0, rfl, (h.lt g rfl).2, fun i hi => ?_⟩
  have := h.cells (g := g) rfl i (.int .i64 (f i)) (by simp [hi])
  rw [Nat.zero_add]
  rwa [add_zero] at this

theorem own_ints' {w : World} {base n : Nat} {v : Value} {f : Nat → Int} (h : w.ownsRow base 3 1 v n ((List.range n).map fun i => .int .i64 (f i))) : ∃ a c, v = .slice a n c ∧ Ints w a n f := by
  rcases h.2 with ⟨rfl, rfl⟩ | ⟨g, cap, cur, rfl, _⟩
  · exact ⟨none, 0, rfl, .inl rfl⟩
  · exact ⟨_, cap, rfl, own_ints h⟩

end Go.Proofs.YtffjkceedbblgaaGreatDoor

/- Thirty-two nought elements appended to a list that the call owns; condition: the list has at most some thousand elements. -/
namespace Go.Proofs.YtffjkceedbblgaaGreatDoor
open Go.RowKit

theorem info73 : (Tryz.prog.info? 167).map (fun i => (i.zero, i.size, i.bytes)) = some (some (.agg #[.int .i64 0, .int .i64 0, .int .i64 0]), 3, 24) := by kernel_rfl
theorem wrap_32 : IntKind.i64.wrap 32 = 32 := by decide

/-- So many nought cells. -/
def zeros3 : Array Value := Builtin.zeroCells #[.int .i64 0, .int .i64 0, .int .i64 0] 32

theorem size_zeros3 : zeros3.size = 96 := by rw [zeros3, size_zeroCells]; rfl
theorem zeros3_eq : zeros3.toList = List.replicate 96 (.int .i64 0) := by kernel_rfl

theorem run_zeros_grow (w : World) (ty : TypeId) (b : Addr) (n cap : Nat) (olds : List Value) (hlo : olds.length = n * 3) (holds : ∀ j v, olds[j]? = some v → w.cell? (b.add j) = some v) (hg : cap < n + 32) (hn : n ≤ 100000000) :
    (Builtin.append_ #[153, 3] ty #[.slice (some b) n cap, .int .i64 32]).run Tryz.prog w =
      .ok (.slice (some ⟨w.heap.size, 0, none⟩) (n + 32) (grownCap w (n + 32) cap 167))
        (w.drew.alloc (.cells (olds.toArray ++ zeros3 ++ Builtin.zeroCells #[.int .i64 0, .int .i64 0, .int .i64 0] (grownCap w (n + 32) cap 167 - (n + 32))) 167)) := by
  obtain ⟨i0, hin, hz0, hz1, hz2⟩ := info_parts info73
  have hn' : ¬ (n + 32 ≤ cap) := by omega
  have h48 : Builtin.nextslicecap (n + 32) cap * 24 ≤ 281474976710656 := growslice_fits (by omega) (by omega)
  have h48' : ¬ (281474976710656 < Builtin.nextslicecap (n + 32) cap * 24) := by omega
  have hfo := run_firstCells_some (P := Tryz.prog) w.drew 3 n b n cap olds hlo (by simpa using holds)
  simp [Builtin.append_, run_underlying Tryz.underlying153, run_underlying Tryz.underlying3, sizeOf, typeInfo, zeroValue, hin, hz0, hz1, hz2, hn', h48', Question.forced, hfo, newRow, grownCap, asInt, asIntOf, wrap_32, Value.cells, zeros3]
  intro h
  exact absurd h (by omega)

theorem run_zeros_nil (w : World) (ty : TypeId) :
    (Builtin.append_ #[153, 3] ty #[.slice none 0 0, .int .i64 32]).run Tryz.prog w =
      .ok (.slice (some ⟨w.heap.size, 0, none⟩) 32 (grownCap w 32 0 167))
        (w.drew.alloc (.cells (zeros3 ++ Builtin.zeroCells #[.int .i64 0, .int .i64 0, .int .i64 0] (grownCap w 32 0 167 - 32)) 167)) := by
  obtain ⟨i0, hin, hz0, hz1, hz2⟩ := info_parts info73
  have h48 : Builtin.nextslicecap 32 0 * 24 ≤ 281474976710656 := growslice_fits (by omega) (by omega)
  have h48' : ¬ (281474976710656 < Builtin.nextslicecap 32 0 * 24) := by omega
  have hfo : (Builtin.firstCells 3 0 (.slice none 0 0)).run Tryz.prog w.drew = .ok #[] w.drew := by simp [Builtin.firstCells]
  simp [Builtin.append_, run_underlying Tryz.underlying153, run_underlying Tryz.underlying3, sizeOf, typeInfo, zeroValue, hin, hz0, hz1, hz2, h48', Question.forced, hfo, newRow, grownCap, asInt, asIntOf, wrap_32, Value.cells, zeros3]
  intro h
  exact absurd h (by omega)

theorem run_zeros_room (w : World) (ty : TypeId) (g n cap : Nat) (cur : Array Value) (hg : w.heap[g]? = some (.cells cur 167 (0, 0))) (hroom : n + 32 ≤ cap) (hfit : n * 3 + 96 ≤ cur.size) :
    (Builtin.append_ #[153, 3] ty #[.slice (some ⟨g, 0, none⟩) n cap, .int .i64 32]).run Tryz.prog w =
      .ok (.slice (some ⟨g, 0, none⟩) (n + 32) cap) (w.setRow g (cur.toList.take (n * 3) ++ zeros3.toList ++ cur.toList.drop (n * 3 + 96)).toArray) := by
  obtain ⟨i0, hin, hz0, hz1, hz2⟩ := info_parts info73
  have hst := run_storeCells_at Tryz.prog g (n * 3) 167 zeros3.toList 0 cur w hg (by simp [size_zeros3]; omega) (by intro v hv; rw [zeros3_eq] at hv; have := List.eq_of_mem_replicate hv; subst this; rfl)
  simp only [Nat.add_zero, Array.length_toList, size_zeros3] at hst
  have hst' := hst
  unfold zeros3 at hst'
  simp [Builtin.append_, run_underlying Tryz.underlying153, run_underlying Tryz.underlying3, sizeOf, typeInfo, zeroValue, hin, hz0, hz1, hz2, hroom, asInt, asIntOf, wrap_32, Value.cells, Addr.add_lit, hst', zeros3]

theorem run_zeros (w : World) (ty : TypeId) (v : Value) (n : Nat) (xs : List Value) (hown : w.ownsRow 0 167 3 v n xs) (hn : n ≤ 100000000) :
    ∃ v' w', (Builtin.append_ #[153, 3] ty #[v, .int .i64 32]).run Tryz.prog w = .ok v' w' ∧ w'.ownsRow 0 167 3 v' (n + 32) (xs ++ List.replicate 96 (.int .i64 0)) ∧ w.grownBy w' v.ownBlock ∧
      (v'.ownBlock = v.ownBlock ∨ v'.ownBlock = some w.heap.size) := by
  have hlen : (xs ++ List.replicate 96 (Value.int .i64 0)).length = (n + 32) * 3 := by rw [List.length_append, hown.1, List.length_replicate]; omega
  rcases hown.2 with ⟨rfl, rfl⟩ | ⟨g, cap, cur, rfl, hbg, hg, hnc, hcm, hcs, htake⟩
  · have hx : xs = [] := List.eq_nil_of_length_eq_zero (by simpa using hown.1)
    subst hx
    have hge := grownCap_ge w 32 0 167
    refine ⟨_, _, run_zeros_nil w ty, ⟨hlen, .inr ⟨w.heap.size, _, _, rfl, Nat.zero_le _, heap_alloc_new w.drew _, by omega, grownCap_le_maxLen w 32 0 167 (by unfold maxLen; omega), ?_, ?_⟩⟩, ⟨rfl, rfl, rfl, by simp, fun k hk _ => Below.heap_alloc w.drew _ k hk⟩, .inr rfl⟩
    · simp only [Array.size_append, size_zeroCells, size_zeros3]
      have : (#[Value.int IntKind.i64 0, .int .i64 0, .int .i64 0] : Array Value).size = 3 := rfl
      rw [this]
      omega
    · simp only [Array.toList_append, zeros3_eq, List.nil_append]
      exact List.take_left' (by simp)
  · by_cases hroom : n + 32 ≤ cap
    · refine ⟨_, _, run_zeros_room w ty g n cap cur hg hroom (by omega), ⟨hlen, .inr ⟨g, cap, _, rfl, Nat.zero_le _, setRow_heap w g cur _ 167 _ hg, hroom, hcm, ?_, ?_⟩⟩, ⟨rfl, rfl, rfl, by simp, fun k _ hk => setRow_other w g k _ (fun e => hk (by simp [Value.ownBlock, e]))⟩, .inl rfl⟩
      · simp only [List.size_toArray, List.length_append, List.length_take, List.length_drop, Array.length_toList, size_zeros3]
        omega
      · rw [htake, zeros3_eq, ← hlen]
        exact List.take_left
    · have holds : ∀ j u, xs[j]? = some u → w.cell? ((⟨g, 0, none⟩ : Addr).add j) = some u := hown.cells (g := g) rfl
      have hge := grownCap_ge w (n + 32) cap 167
      refine ⟨_, _, run_zeros_grow w ty ⟨g, 0, none⟩ n cap xs hown.1 holds (by omega) hn, ⟨hlen, .inr ⟨w.heap.size, _, _, rfl, Nat.zero_le _, heap_alloc_new w.drew _, by omega, grownCap_le_maxLen w (n + 32) cap 167 (by unfold maxLen; omega), ?_, ?_⟩⟩, ⟨rfl, rfl, rfl, by simp, fun k hk _ => Below.heap_alloc w.drew _ k hk⟩, .inr rfl⟩
      · simp only [Array.size_append, size_zeroCells, size_zeros3, List.size_toArray, hown.1, List.length_cons, List.length_nil]
        omega
      · simp only [Array.toList_append, zeros3_eq]
        rw [← hlen]
        exact List.take_left

theorem wpList_zeros (w : World) {ops : Array Oper} {rest : List Oper} {o : Oper} {a : Act} {Q : Exit → Act → World → Prop} (hgd : o.guard = none) (sl x : Operand)
    (ho : o.op = .call { callee := .builtin .append, args := #[sl, x], argTypes := #[153, 3] })
    (v : Value) (n : Nat) (xs : List Value) (hs : a.eval sl = v) (hx : a.eval x = .int .i64 32) (hown : w.ownsRow 0 167 3 v n xs) (hn : n ≤ 100000000)
    (h : ∀ v' w', w'.ownsRow 0 167 3 v' (n + 32) (xs ++ List.replicate 96 (.int .i64 0)) → w.grownBy w' v.ownBlock → (v'.ownBlock = v.ownBlock ∨ v'.ownBlock = some w.heap.size) → wpList Tryz.prog ops Q rest (a.put o.dst v') w') : wpList Tryz.prog ops Q (o :: rest) a w := by
  refine wpList_plain hgd fun K hK => ?_
  obtain ⟨v', w', hr, h2, h3, h4⟩ := run_zeros w o.type v n xs hown hn
  unfold Oper.wp execOp
  simp only [ho, resolve, invoke, builtin, Sem.run_bind, Sem.run_pure, Result.andThen_ok, List.map_toArray, List.map_cons, List.map_nil, hs, hx, hr]
  exact hK _ _ (h v' w' h2 h3 h4)
end Go.Proofs.YtffjkceedbblgaaGreatDoor
