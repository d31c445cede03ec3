/-
  DERIVED. GIVEN WITH THE SEED: THE PROGRAM's TIES (one call each: nine closed facts by the kernel) AND EACH ROW's TIE, after the 31st guide's Derived/Test/Toyas{Tie, Card}.lean. No idea stands in it: it is a product of the set-up. Laid BY PROGRAM, IN A SANDBOX (cutbox-door.mjs). By AI agents, Wed Nov 11 2026. No macro, syntax, notation, axiom, sorry.
-/
import Derived.Test.YtflonocoihihaaaDoorRows
import Derived.LaidByTextLater
import Derived.SevenTiedAt
import Derived.LaidSub
import Derived.LaidOnce
namespace Go.Proofs.YtflonocoihihaaaDoor
open Go
set_option maxRecDepth 100000
theorem seatTie1 : Tryd.prog.laidByTextLater [("ferret/ucd.allPairs", Rows.laid_ferret_ucd_allPairs), ("ferret/ucd.thirds", Rows.laid_ferret_ucd_thirds)] [.data, .data] true :=
  Program.laidByTextLater_by_one 31 8 22 (by kernel_rfl) (by kernel_rfl) (by kernel_rfl) (by kernel_rfl) (by kernel_rfl) (by kernel_rfl) (fun _ _ => by kernel_rfl)
theorem noOwnUnsafe : Tryd.pinned.checked.prog.headLifts.contains "ownunsafe" = false := by kernel_rfl
theorem tie : Tryd.prog.laidByTextLater [("ferret/ucd.allPairs", Rows.laid_ferret_ucd_allPairs), ("ferret/ucd.thirds", Rows.laid_ferret_ucd_thirds)] [.data, .data] true :=
  Program.laidByTextLater.sub seatTie1 ["ferret/ucd.allPairs", "ferret/ucd.thirds"] (by kernel_rfl) (by kernel_rfl)
theorem ucdGrows_row_tie : Rows.ucdGrowsRow.laidByTextAt .later Tryd.pinned [.data, .data] true :=
  OpenClaim.laidByTextAt_later rfl rfl tie noOwnUnsafe
theorem ucdGrowsUpto_row_tie : Rows.ucdGrowsUptoRow.laidByTextAt .later Tryd.pinned [.data, .data] true :=
  OpenClaim.laidByTextAt_later rfl rfl tie noOwnUnsafe
end Go.Proofs.YtflonocoihihaaaDoor
