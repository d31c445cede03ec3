/- Texts of this proof, one behind the other: what each says stands ahead of it. -/
import Derived.Test.YtokelpnmeknncabM12
/- speaks of layer 3: two bytes as they are. -/
namespace Go.Proofs.Ytokelpnmeknncab
open Go.RowKit

def d7 : ByteArray := ⟨#[1, 2, 0, 253, 255, 97, 98]⟩
theorem d7_same : d7.extract 0 d7.size = d7 := by decide +kernel

theorem d7_stream : Stream (d7.extract 0 d7.size) 0 [97, 98] 56 := by
  rw [d7_same]
  have h := Stream.last (s := d7) 0 2 (by decide +kernel) (by decide +kernel) (by decide +kernel) (by decide +kernel) (by decide +kernel) (by decide +kernel)
  have e : ((List.range 2).map fun i => Bt.byteN d7 ((0 + 10) / 8 + 4 + i)) = [97, 98] := by decide +kernel
  rw [e] at h
  exact h

set_option maxRecDepth 100000 in
set_option maxHeartbeats 4000000 in
theorem speaks3_yes (w : World) : Calls Try.prog 15 #[] w fun e w' => e = .returned (.bool true) ∧ Touch (fun _ => False) w w' := by
  have US := hid (fun w => Unpack_stream d7 0 9 [97, 98] 56 w (by decide) (by decide) d7_stream (by decide) (by decide) (by decide) (by decide))
  go_enter Try.func15, Try.ntmps15
  go_wp2_with fail
  refine (US.out w).mono ?_
  rintro e w1 ⟨rfl, ht⟩
  have T1 := hid ht
  clear ht US
  rw [show strOf [97, 98] = ⟨#[97, 98]⟩ by rfl, show ((0 + (56 + 7) / 8 : Nat) : Int) = 7 by rfl]
  go_wp2
  go_ret
  exact ⟨rfl, T1.out.alloc _⟩
end Go.Proofs.Ytokelpnmeknncab
