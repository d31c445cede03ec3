/-
  DERIVED. GIVEN WITH THE SEED: THE CARDS: each row of YtjpmjcadnnglnaaDoorRows.lean that lists a variable, with what it lists TIED to the program's text (the seventh form; the later family's looks); each row that meets fmt, with fmt's text TOLD by the authors' own Lean function (tested against real Go, not proved from fmt's source: count such statements apart). THE CARD IS WHAT COUNTS. Prove the row's statement (the work); the ties are given (YtjpmjcadnnglnaaDoorTie.lean); close each card by the builder's one call (the guide's Derived/Test/ToyasCard.lean, 'card_holds'). Laid BY PROGRAM, IN A SANDBOX (cutbox-door.mjs). By AI agents, Wed Nov 11 2026. No macro, syntax, notation, axiom, sorry.
-/
import Derived.Test.YtjpmjcadnnglnaaDoorRows
import GoSem.ClaimSeven
namespace Go.Proofs.YtjpmjcadnnglnaaDoor
namespace Rows

/-- THE TIED CARD OF 'ferretlaw23.PrintReads'. -/
def printReadsCard : Claim7 := { stood := { row := printReadsRow, standIns := [], harness := (true, "35881ddf11b784aac3dc96a9f3a045004f59b6246fae6dbb39624187fe919b49"), looks := true }, kinds := [], alts := [], laidByText := true, laidKinds := [.data, .data], laidTests := true, laidLooks := .later }
def PrintReadsCardSaid : Prop := Claim7.holds Tryd.pinned (.plain (OpenSpec.ofChange printReadsSpec)) printReadsCard

/-- THE SECOND FORM's CARD OF 'ferretlaw23.PrintReads'. -/
def printReadsUptoCard : Claim7 := { stood := { row := printReadsUptoRow, standIns := [], harness := (true, "35881ddf11b784aac3dc96a9f3a045004f59b6246fae6dbb39624187fe919b49"), looks := true }, kinds := [], alts := [], laidByText := true, laidKinds := [.data, .data], laidTests := true, laidLooks := .later }
def PrintReadsUptoCardSaid : Prop := Claim7.holds Tryd.pinned (.plain (OpenSpec.upto printReadsSpec)) printReadsUptoCard
end Rows
end Go.Proofs.YtjpmjcadnnglnaaDoor
