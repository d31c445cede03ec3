/- SyntaxEscapes' walk at any byte; no condition. -/
import Derived.Test.YtdhhcefmmojcmaaGreatDoorZg
namespace Go.Proofs.YtdhhcefmmojcmaaGreatDoor
open Go.RowKit
open Go.Lib

theorem escapes_at (b : Int) (hb : (Lit.int .u8 b).wf = true) (w : World) (ht : TabsK w) (hx : Sx w) (h7 : 7 ≤ w.heap.size) :
    Calls Tryz.prog 7 #[.int .u8 b] w fun e w' => e = .returned (.bool true) ∧ Touch (fun _ => False) w w' := by
  have h : 0 ≤ b ∧ b ≤ 255 := by
    have h2 := Bool.and_eq_true_iff.1 hb
    exact ⟨of_decide_eq_true h2.1, of_decide_eq_true h2.2⟩
  obtain ⟨n, rfl⟩ := Int.eq_ofNat_of_zero_le h.1
  exact escapes_walk n (by omega) w ht hx h7
end Go.Proofs.YtdhhcefmmojcmaaGreatDoor
