/-
  DERIVED. GIVEN WITH THE SEED: THE CARDS: each row of YtflonocoihihaaaDoorRows.lean that lists a variable, with what it lists TIED to the program's text (the seventh form; the later family's looks); each row that meets fmt, with fmt's text TOLD by the authors' own Lean function (tested against real Go, not proved from fmt's source: count such statements apart). THE CARD IS WHAT COUNTS. Prove the row's statement (the work); the ties are given (YtflonocoihihaaaDoorTie.lean); close each card by the builder's one call (the guide's Derived/Test/ToyasCard.lean, 'card_holds'). Laid BY PROGRAM, IN A SANDBOX (cutbox-door.mjs). By AI agents, Wed Nov 11 2026. No macro, syntax, notation, axiom, sorry.
-/
import Derived.Test.YtflonocoihihaaaDoorRows
import GoSem.ClaimSeven
namespace Go.Proofs.YtflonocoihihaaaDoor
namespace Rows

/-- THE TIED CARD OF 'ferretlaw09.UcdGrows'. -/
def ucdGrowsCard : Claim7 := { stood := { row := ucdGrowsRow, standIns := [], harness := (true, "090b23efc207482130d2514b1a97d5aa11ea35114f62d0184f3c30871421c20a"), looks := false }, kinds := [], alts := [], laidByText := true, laidKinds := [.data, .data], laidTests := true, laidLooks := .later }
def UcdGrowsCardSaid : Prop := Claim7.holds Tryd.pinned (.plain (OpenSpec.ofChange ucdGrowsSpec)) ucdGrowsCard

/-- THE SECOND FORM's CARD OF 'ferretlaw09.UcdGrows'. -/
def ucdGrowsUptoCard : Claim7 := { stood := { row := ucdGrowsUptoRow, standIns := [], harness := (true, "090b23efc207482130d2514b1a97d5aa11ea35114f62d0184f3c30871421c20a"), looks := false }, kinds := [], alts := [], laidByText := true, laidKinds := [.data, .data], laidTests := true, laidLooks := .later }
def UcdGrowsUptoCardSaid : Prop := Claim7.holds Tryd.pinned (.plain (OpenSpec.upto ucdGrowsSpec)) ucdGrowsUptoCard
end Rows
end Go.Proofs.YtflonocoihihaaaDoor
