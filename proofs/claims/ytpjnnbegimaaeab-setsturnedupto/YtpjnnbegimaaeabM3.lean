/- Texts of this proof, one behind the other: what each says stands ahead of it. -/
import Derived.Test.YtpjnnbegimaaeabM2
import Derived.Test.YtpjnnbegimaaeabRows
import Derived.WalkKit
import Derived.ProofKit
import Derived.OpenShut
import Derived.ShutString
import Derived.ChangeOld
import Derived.Below
import Derived.SizedLaws
import Derived.Deep.CondSized
/- What a law's frame wants: the layout, and the bulk of a list of ranges; no condition. -/
namespace Go.Proofs.Ytpjnnbegimaaeab
open Go.ChangeShapes Go.WideShapes Go.ChangeAt Go.RowKit

theorem own : ownKnob Try.prog.godebug = none := by kernel_rfl
theorem laidOut : laidOutB Try.prog = true := by kernel_rfl
theorem bulk_ranges {H : Type} (q : Nat → R2) : ∀ l : List Nat, l.length ≤ Rows.uptoBulkAll (H := H) (l.map fun i => rangeD (q i))
  | [] => Nat.zero_le _
  | x :: l => by
    have := bulk_ranges (H := H) q l
    rw [List.map_cons, Rows.uptoBulkAll, List.length_cons]
    have h1 : 1 ≤ Rows.uptoBulk (H := H) (rangeD (q x)) := by
      unfold rangeD
      rw [Rows.uptoBulk]
      omega
    omega
end Go.Proofs.Ytpjnnbegimaaeab
