/- codesOf, its walk. -/
import Derived.Test.YtokelpnmeknncabCo
import Derived.BigRegion
import Derived.Test.YtokelpnmeknncabBitB
namespace Go.Proofs.Ytokelpnmeknncab
open Go.RowKit

def natsV (l : List Nat) : List Value := l.map fun x : Nat => Value.int .i64 (x : Int)

theorem own3_set' {w : World} {base g n cap : Nat} {xs : List Value} (h : w.ownsRow base 3 1 (.slice (some ⟨g, 0, none⟩) n cap) n xs) (i : Nat) (x : Value) :
    (w.setCell ⟨g, i, none⟩ x).ownsRow base 3 1 (.slice (some ⟨g, 0, none⟩) n cap) n (xs.set i x) := by
  obtain ⟨h1, h2⟩ := h
  rcases h2 with ⟨h2, _⟩ | ⟨g', cap', cur, hv, hg, hh, hle, hm, hcs, htk⟩
  · simp at h2
  · simp at hv
    obtain ⟨rfl, rfl⟩ := hv
    refine ⟨by simpa using h1, .inr ⟨g, cap, cur.set! i x, rfl, hg, ?_, hle, hm, by simpa using hcs, ?_⟩⟩
    · have hlt := lt_of_block hh
      have h' : w.heap[g] = .cells cur 3 (0, 0) := by simpa [Array.getElem?_eq_getElem hlt] using hh
      show (w.heap.modify g _)[g]? = _
      rw [Array.getElem?_eq_getElem (by simpa using hlt), Array.getElem_modify_self, h']
      rfl
    · rw [← htk]
      simp [List.take_set]

/-- The next code of each length, behind the first k symbols. -/
def nexts (c f : Nat → Nat) (k j : Nat) : Nat := if j = 0 then 0 else firsts c j + cntTo f j k
def codesTo (c f : Nat → Nat) (len k : Nat) : List Nat := (List.range len).map fun i => if i < k then codeOf c f i else 0

theorem codesTo_zero (c f : Nat → Nat) (len : Nat) : natsV (codesTo c f len 0) = List.replicate len (.int .i64 0) := by
  apply List.ext_getElem
  · simp [natsV, codesTo]
  · intro i h1 h2
    simp [natsV, codesTo]
theorem codesTo_all (c f : Nat → Nat) (len : Nat) : codesTo c f len len = (List.range len).map (codeOf c f) := by
  apply List.map_congr_left
  intro i hi
  rw [if_pos (by simpa using hi)]
theorem codesTo_skip (c f : Nat → Nat) (len k : Nat) (h : f k = 0) : codesTo c f len (k + 1) = codesTo c f len k := by
  apply List.map_congr_left
  intro i hi
  by_cases e : i = k
  · subst e; simp [codeOf, h]
  · by_cases e2 : i < k
    · rw [if_pos e2, if_pos (by omega)]
    · rw [if_neg e2, if_neg (by omega)]
theorem codesTo_set (c f : Nat → Nat) (len k : Nat) : codesTo c f len (k + 1) = (codesTo c f len k).set k (codeOf c f k) := by
  apply List.ext_getElem
  · simp [codesTo]
  · intro i h1 h2
    simp only [codesTo, List.getElem_map, List.getElem_range, List.getElem_set]
    by_cases e : k = i
    · subst e; simp
    · rw [if_neg e]
      by_cases e2 : i < k
      · rw [if_pos e2, if_pos (by omega)]
      · rw [if_neg e2, if_neg (by omega)]

theorem nexts_skip (c f : Nat → Nat) (k j : Nat) (h : f k = 0) : nexts c f k j = nexts c f (k + 1) j := by
  unfold nexts
  by_cases e : j = 0
  · rw [if_pos e, if_pos e]
  · rw [if_neg e, if_neg e, cntTo, if_neg (by omega), Nat.add_zero]
theorem nexts_step (c f : Nat → Nat) (k j m : Nat) (h : f k = m) (h0 : ¬ m = 0) : (if j = m then nexts c f k m + 1 else nexts c f k j) = nexts c f (k + 1) j := by
  unfold nexts
  by_cases e : j = m
  · subst e
    rw [if_pos rfl, if_neg h0, if_neg h0, cntTo, if_pos h]
    omega
  · rw [if_neg e]
    by_cases e0 : j = 0
    · rw [if_pos e0, if_pos e0]
    · rw [if_neg e0, if_neg e0, cntTo, if_neg (by omega), Nat.add_zero]

theorem first_zero (c : Nat → Nat) (j : Nat) : (0 : Nat) = if j ≤ 0 then firsts c j else 0 := by
  by_cases h : j ≤ 0
  · obtain rfl : j = 0 := by omega
    rfl
  · rw [if_neg h]

set_option maxRecDepth 100000 in
set_option maxHeartbeats 4000000 in
theorem codes_any (a : Option Addr) (len cap : Nat) (f c : Nat → Nat) (w : World) (hl : len ≤ 1024) (hf : ∀ i, f i ≤ 15) (hc : ∀ i, c i ≤ 1024) (hi : Ints w a len (fun i => (f i : Nat))) :
    Calls Try.prog 23 #[.slice a len cap, .agg (cArr c)] w fun e w' => ∃ g, e = .returned (.slice (some ⟨g, 0, none⟩) len len) ∧
      w'.ownsRow w.heap.size 3 1 (.slice (some ⟨g, 0, none⟩) len len) len (natsV ((List.range len).map (codeOf c f))) ∧ Touch (fun _ => False) w w' := by
  obtain ⟨i0, hin, hz0, hz1, hz2⟩ := info_parts info3
  have HF := hid hf
  have HC := hid hc
  have HI := hid hi
  clear hf hc hi
  unfold cArr
  go_enter Try.func23, Try.ntmps23
  go_wp2_with fail
  rw [show #[Value.int IntKind.i64 (c 0), .int .i64 (c 1), .int .i64 (c 2), .int .i64 (c 3), .int .i64 (c 4), .int .i64 (c 5), .int .i64 (c 6), .int .i64 (c 7), .int .i64 (c 8), .int .i64 (c 9), .int .i64 (c 10), .int .i64 (c 11), .int .i64 (c 12), .int .i64 (c 13), .int .i64 (c 14), .int .i64 (c 15)] = cArr c from rfl]
  obtain ⟨w1, hw1⟩ : ∃ w1, w1 = (w.alloc (.cells (cArr c) 54)).alloc (.cells #[.int .i64 0, .int .i64 0, .int .i64 0, .int .i64 0, .int .i64 0, .int .i64 0, .int .i64 0, .int .i64 0, .int .i64 0, .int .i64 0, .int .i64 0, .int .i64 0, .int .i64 0, .int .i64 0, .int .i64 0, .int .i64 0] 54) := ⟨_, rfl⟩
  have hs1 : (w.alloc (.cells (cArr c) 54)).heap.size = w.heap.size + 1 := by simp
  have B0 : Hid (Blk w1 w.heap.size c) := by rw [hw1]; exact (blk_new w c).same (Below.heap_alloc _ _ _ (by omega))
  have B1 : Hid (Blk w1 (w.heap.size + 1) (fun _ => 0)) := by rw [hw1, ← hs1]; exact blk_new _ (fun _ => 0)
  have T1 : Hid (Touch (fun _ => False) w w1) := by rw [hw1]; exact ((Touch.refl _ w).alloc _).alloc _
  rw [← hw1]
  clear hw1 hs1
  go_loopw [6] (fun i wr => ∃ k : Nat, k ≤ 15 ∧ i = .int .i64 (k + 1) ∧ Blk wr w.heap.size c ∧ Blk wr (w.heap.size + 1) (fun j => if j ≤ k then firsts c j else 0) ∧ Touch (fun _ => False) w wr) (fun i _ => 16 - (intOf i).toNat)
  case atStart => exact ⟨0, by decide, rfl, B0.out, B1.out.ext (fun j _ => first_zero c j), T1.out⟩
  case round =>
    obtain ⟨k, hk, rfl, hb0, hb1, ht⟩ := hrel
    have Z0 := hid hb0
    have Z1 := hid hb1
    have TT := hid ht
    clear hb0 hb1 ht B0 B1 T1
    by_cases hlt : k < 15
    · have d0 := Z0.out.cell k (by omega)
      have d1 := Z1.out.cell k (by omega)
      have d2 := Z1.out.cell (k + 1) (by omega)
      have d3 := Z1.out.free (k + 1)
      simp only [Nat.le_refl, if_true] at d1
      rw [if_neg (by omega)] at d2
      have hfl := firsts_le c HC.out k
      have hp : 2 ^ k ≤ 2 ^ 15 := Nat.pow_le_pow_right (by decide) (by omega)
      have hfb : firsts c k ≤ 67108864 := by omega
      have hck := HC.out k
      clear hfl hp
      go_wp2
      go_region
      all_goals go_wp2
      all_goals go_roundw
      case rel =>
        refine ⟨k + 1, by omega, by go_num, ?_, ?_, ?_⟩
        · exact Z0.out.same (Below.heap_setCell _ _ _ _ (by simp))
        · have h := (Z1.out.set (k + 1) ((firsts c k + c k) * 2)).ext (g := fun j => if j ≤ k + 1 then firsts c j else 0) (fun j _ => by
            by_cases e : j = k + 1
            · subst e; simp [firsts]
            · by_cases e2 : j ≤ k
              · rw [if_neg e, if_pos e2, if_pos (by omega)]
              · rw [if_neg e, if_neg e2, if_neg (by omega)])
          have e : (((firsts c k + c k) * 2 : Nat) : Int) = ((firsts c k : Int) + (c k : Int)) * 2 := by simp
          rw [e] at h
          exact h
        · exact Touch.drew (TT.out.setCell (fun h => by simp at h; omega) _)
      case measure => simp [intOf]; omega
    · obtain rfl : k = 15 := by omega
      have Z1 : Hid (Blk wr (w.heap.size + 1) (nexts c f 0)) := Z1.out.ext (fun j hj => by rw [if_pos (by omega)]; cases j <;> simp [nexts, cntTo, firsts])
      have hz1' := Z1.out.lt
      go_wp2_with (first
        | (at_make; refine wpList_make_full _ rfl _ _ 22 rfl w.heap.size 3 i0 (.int .i64 0) 1 Try.underlying22 hin hz0 hz1 .i64 .i64 _ _ len rfl rfl rfl rfl (by rw [hz2]; omega) (by unfold maxLen; omega) (by have := TT.out.size; omega) ?_))
      intro w2 hown hgrow
      rw [toList_madeCells_one] at hown
      have TG : Touch (fun _ => False) wr w2 := (Touch.refl _ wr).grown hgrow (fun k e => by simp at e)
      have Z2 := hid (Z1.out.same (TG.block _ hz1' id))
      have T2 := hid (TT.out.trans TG (fun _ _ e => e))
      have O2 := hid hown
      have hne : w.heap.size + 1 ≠ wr.heap.size := by omega
      generalize wr.heap.size = g at *
      clear hgrow TG TT Z0 Z1 hown
      go_wp2_with fail
      go_loopw [31] (fun i wr => ∃ k : Nat, k ≤ len ∧ i = .int .i64 k ∧ Blk wr (w.heap.size + 1) (nexts c f k) ∧ wr.ownsRow w.heap.size 3 1 (.slice (some ⟨g, 0, none⟩) len len) len (natsV (codesTo c f len k)) ∧ Touch (fun _ => False) w wr) (fun i _ => len - (intOf i).toNat)
      case atStart => exact ⟨0, Nat.zero_le _, rfl, Z2.out, by rw [codesTo_zero]; exact O2.out, T2.out⟩
      case round =>
        obtain ⟨k, hk, rfl, hb1, ho, ht⟩ := hrel
        have Z3 := hid hb1
        have O3 := hid ho
        have I3 := hid (HI.out.new ht)
        have T3 := hid ht
        clear hb1 ho ht Z2 O2 T2
        by_cases hlt2 : k < len
        · rcases I3.out with h | ⟨b, o, ha, hb, hcell⟩
          · omega
          · subst ha
            have d0 : wr.cell? ⟨b, o + k, none⟩ = some (.int .i64 (f k : Nat)) := hcell k hlt2
            clear hcell
            by_cases h0 : f k = 0
            · rw [h0] at d0
              have H0 := hid h0
              clear h0
              go_wp2
              go_roundw
              case rel => exact ⟨k + 1, by omega, by go_num, Z3.out.ext (fun j _ => nexts_skip c f k j H0.out), by rw [codesTo_skip c f len k H0.out]; exact O3.out, T3.out⟩
              case measure => simp [intOf]; omega
            · have hfk := HF.out k
              obtain ⟨m, hm⟩ : ∃ m, f k = m := ⟨_, rfl⟩
              obtain ⟨x, hx⟩ : ∃ x, nexts c f k m = x := ⟨_, rfl⟩
              have d1 := Z3.out.cell m (by omega)
              have d2 := Z3.out.free m
              rw [hx] at d1
              rw [hm] at d0 hfk h0
              have hxb : x ≤ 67200000 := by
                have h1 := firsts_le c HC.out m
                have h2 := cntTo_le f m k
                have h3 : 2 ^ m ≤ 2 ^ 15 := Nat.pow_le_pow_right (by decide) (by omega)
                rw [← hx]
                unfold nexts
                split <;> omega
              have d3 : wr.cell? ⟨g, k, none⟩ = some (.int .i64 0) := by
                have := O3.out.cells (g := g) rfl k (.int .i64 0) (by simp [natsV, codesTo, hlt2])
                rwa [add_zero] at this
              have d4 : wr.frozen? ⟨g, k, none⟩ = false := by
                rcases O3.out.2 with ⟨h, _⟩ | ⟨g', cap', cur, h, _, hh, _⟩
                · simp at h
                · simp at h
                  obtain ⟨rfl, rfl⟩ := h
                  simp [World.frozen?, hh]
              have hgw : w.heap.size ≤ g := (O3.out.lt g rfl).1
              have hcode : codeOf c f k = x := by unfold codeOf; rw [hm, if_neg h0, ← hx, nexts, if_neg h0]
              have HM := hid hm
              have HX := hid hx
              have HCO := hid hcode
              have hmp : (0 : Int) < (m : Int) := by omega
              clear hm hx hcode
              go_wp2
              go_roundw
              case rel =>
                refine ⟨k + 1, by omega, by go_num, ?_, ?_, ?_⟩
                · have h := ((Z3.out.same (Below.heap_setCell wr ⟨g, k, none⟩ (.int .i64 (x : Nat)) (w.heap.size + 1) hne)).set m (x + 1)).ext (g := nexts c f (k + 1)) (fun j _ => by rw [← HX.out]; exact nexts_step c f k j m HM.out h0)
                  simpa using h
                · rw [codesTo_set c f len k, HCO.out]
                  refine ownsRow_setCell_other ?_ (by simp [Value.ownBlock]; omega) _
                  have h := own3_set' O3.out k (.int .i64 (x : Nat))
                  simpa [natsV, List.map_set] using h
                · exact Touch.setCell (T3.out.setCell (fun h => by simp at h; omega) _) (fun h => by simp at h; omega) _
              case measure => simp [intOf]; omega
        · obtain rfl : k = len := by omega
          go_wp2
          go_ret
          exact ⟨g, rfl, by rw [← codesTo_all]; exact O3.out, T3.out⟩
end Go.Proofs.Ytokelpnmeknncab
