/- The document's Mark and begins; no condition beside those told. -/
import Derived.Test.YtdhhcefmmojcmaaGreatDoorM10
namespace Go.Proofs.YtdhhcefmmojcmaaGreatDoor
open Go.RowKit

set_option maxRecDepth 100000 in
theorem begins_any (s p : ByteArray) (w : World) : Calls Tryz.prog 48 #[.string s, .string p] w fun e w' => e = .returned (.bool (begB s p)) ∧ w = w' := by
  by_cases h : p.size ≤ s.size
  · have hI : (p.size : Int) ≤ (s.size : Int) := by omega
    have HB := hid (show begB s p = ((s.extract 0 p.size).toList == p.toList) by unfold begB; rw [decide_eq_true h]; rfl)
    go_enter Tryz.func48, Tryz.ntmps48
    go_wp2
    go_ret
    exact ⟨by rw [HB.out]; rfl, rfl⟩
  · have hI : ¬ ((p.size : Int) ≤ (s.size : Int)) := by omega
    have HB := hid (show begB s p = false by unfold begB; rw [decide_eq_false h]; rfl)
    go_enter Tryz.func48, Tryz.ntmps48
    go_wp2
    go_ret
    exact ⟨by rw [HB.out]; rfl, rfl⟩
theorem conv_lit (w : World) (l : List UInt8) (n : Nat) (hn : n = l.length) (cs : Array Value) (hcs : cs = (l.map fun b => Value.int .u8 (b.toNat : Int)).toArray) : (convert 49 9 (.slice (some ⟨w.heap.size, 0, none⟩) n n)).run Tryz.prog (w.alloc (.cells cs 5)) = .ok (.string ⟨l.toArray⟩) (w.alloc (.cells cs 5)) := by
  subst hn hcs
  refine run_convert_bytes_back (P := Tryz.prog) _ 49 9 5 ⟨w.heap.size, 0, none⟩ l.length l Tryz.underlying49 Tryz.underlying5 Tryz.underlying9 (fun j hj => ?_)
  rw [add_gK]
  unfold World.cell?
  rw [block_new]
  simp [hj]
set_option maxRecDepth 100000 in
theorem mark_one (w : World) : Calls Tryz.prog 49 #[.int .i64 1] w fun e w' => e = .returned (.string (mk 1)) ∧ Touch (fun _ => False) w w' := by
  have hcv := conv_lit w [239, 187, 191] 3 rfl #[.int .u8 239, .int .u8 187, .int .u8 191] rfl
  go_enter Tryz.func49, Tryz.ntmps49
  go_wp2
  go_ret
  exact ⟨rfl, (Touch.refl _ w).alloc _⟩
set_option maxRecDepth 100000 in
theorem mark_two (w : World) : Calls Tryz.prog 49 #[.int .i64 2] w fun e w' => e = .returned (.string (mk 2)) ∧ Touch (fun _ => False) w w' := by
  have hcv := conv_lit w [255, 254] 2 rfl #[.int .u8 255, .int .u8 254] rfl
  go_enter Tryz.func49, Tryz.ntmps49
  go_wp2
  go_ret
  exact ⟨rfl, (Touch.refl _ w).alloc _⟩
set_option maxRecDepth 100000 in
theorem mark_three (w : World) : Calls Tryz.prog 49 #[.int .i64 3] w fun e w' => e = .returned (.string (mk 3)) ∧ Touch (fun _ => False) w w' := by
  have hcv := conv_lit w [254, 255] 2 rfl #[.int .u8 254, .int .u8 255] rfl
  go_enter Tryz.func49, Tryz.ntmps49
  go_wp2
  go_ret
  exact ⟨rfl, (Touch.refl _ w).alloc _⟩
set_option maxRecDepth 100000 in
theorem mark_four (w : World) : Calls Tryz.prog 49 #[.int .i64 4] w fun e w' => e = .returned (.string (mk 4)) ∧ Touch (fun _ => False) w w' := by
  go_enter Tryz.func49, Tryz.ntmps49
  go_wp2
  go_ret
  exact ⟨rfl, Touch.refl _ w⟩
theorem mark_any (c : Nat) (hc : 1 ≤ c ∧ c ≤ 4) (w : World) : Calls Tryz.prog 49 #[.int .i64 c] w fun e w' => e = .returned (.string (mk c)) ∧ Touch (fun _ => False) w w' := by
  rcases (show c = 1 ∨ c = 2 ∨ c = 3 ∨ c = 4 by omega) with rfl | rfl | rfl | rfl
  · exact mark_one w
  · exact mark_two w
  · exact mark_three w
  · exact mark_four w
end Go.Proofs.YtdhhcefmmojcmaaGreatDoor
