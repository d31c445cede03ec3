/- New where there is something wrong with the lengths. -/
import Derived.Test.YtokelpnmeknncabCl
import Derived.Test.YtokelpnmeknncabHm
import Derived.BigQuiet
namespace Go.Proofs.Ytokelpnmeknncab
open Go.RowKit

theorem new_big (a : Option Addr) (len cap : Nat) (w : World) (hl : 1024 < len) (hb : len ≤ 140737488351232) :
    Calls Try.prog 9 #[.slice a len cap] w fun e w' => e = .returned (.tuple #[.pointer none, .int .i64 1]) ∧ w' = w := by
  go_enter Try.func9, Try.ntmps9
  go_wp2
  go_ret2
  exact ⟨rfl, rfl⟩

/-- Counted so far, nought among them. -/
def cnts (f : Nat → Nat) (k j : Nat) : Nat := cntTo f j k

theorem cnts_step (f : Nat → Nat) (k j : Nat) : (if j = f k then cnts f k (f k) + 1 else cnts f k j) = cnts f (k + 1) j := by
  unfold cnts
  by_cases e : j = f k
  · subst e; rw [if_pos rfl, cntTo, if_pos rfl]
  · rw [if_neg e, cntTo, if_neg (fun h => e h.symm), Nat.add_zero]

theorem blk_zero (w : World) : Blk (w.alloc (.cells #[.int .i64 0, .int .i64 0, .int .i64 0, .int .i64 0, .int .i64 0, .int .i64 0, .int .i64 0, .int .i64 0, .int .i64 0, .int .i64 0, .int .i64 0, .int .i64 0, .int .i64 0, .int .i64 0, .int .i64 0, .int .i64 0] 54)) w.heap.size (fun _ => 0) := blk_new w (fun _ => 0)

set_option maxRecDepth 100000 in
set_option maxHeartbeats 4000000 in
theorem new_bad (a : Option Addr) (len cap m : Nat) (g : Nat → Int) (f : Nat → Nat) (w : World) (hl : len ≤ 1024) (hf : ∀ i, f i ≤ 15) (hi : Ints w a len g) (hm : m < len) (hg : ∀ i, i < m → g i = (f i : Nat)) (hbad : g m < 0 ∨ 15 < g m) :
    Calls Try.prog 9 #[.slice a len cap] w fun e w' => e = .returned (.tuple #[.pointer none, .int .i64 1]) ∧ Touch (fun _ => False) w w' := by
  have HF := hid hf
  have HI := hid hi
  have HG := hid hg
  have HB := hid hbad
  clear hf hi hg hbad
  go_enter Try.func9, Try.ntmps9
  go_wp2_with fail
  go_loopw [16] (fun i wr => ∃ k : Nat, k ≤ m ∧ i = .int .i64 k ∧ Blk wr w.heap.size (cnts f k) ∧ Touch (fun _ => False) w wr) (fun i _ => m - (intOf i).toNat)
  case atStart => exact ⟨0, Nat.zero_le _, rfl, blk_zero w, (Touch.refl _ w).alloc _⟩
  case round =>
    obtain ⟨k, hk, rfl, hb1, ht⟩ := hrel
    have Z := hid hb1
    have TT := hid ht
    clear hb1 ht
    have hkl : k < len := by omega
    rcases (HI.out.new TT.out) with h | ⟨b, o, ha, hb, hcell⟩
    · omega
    · subst ha
      by_cases hlt : k < m
      · have d0 : wr.cell? ⟨b, o + k, none⟩ = some (.int .i64 (f k : Nat)) := by rw [hcell k hkl, HG.out k hlt]
        have hfk := HF.out k
        have d1 := Z.out.cell (f k) (by omega)
        have d2 := Z.out.free (f k)
        have hcn : cnts f k (f k) ≤ 1024 := by have := cntTo_le f (f k) k; unfold cnts; omega
        have hst := hid ((Z.out.set (f k) (cnts f k (f k) + 1)).ext (fun j _ => cnts_step f k j))
        generalize cnts f k (f k) = x at *
        clear hcell
        go_wp2
        go_roundw
        case rel => exact ⟨k + 1, by omega, by go_num, by have := hst.out; simpa using this, TT.out.setCell (fun h => by simp at h) _⟩
        case measure => simp [intOf]; omega
      · obtain rfl : k = m := by omega
        have d0 : wr.cell? ⟨b, o + k, none⟩ = some (.int .i64 (g k)) := hcell k hkl
        clear hcell
        have hB := HB.out
        generalize g k = x at *
        by_cases hn : x < 0
        · go_wp2
          go_ret2
          exact ⟨rfl, TT.out⟩
        · have hp : 15 < x := by omega
          go_wp2
          go_ret2
          exact ⟨rfl, TT.out⟩
end Go.Proofs.Ytokelpnmeknncab
