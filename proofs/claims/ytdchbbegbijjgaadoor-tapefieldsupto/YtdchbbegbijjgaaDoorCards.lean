/-
  DERIVED. GIVEN WITH THE SEED: THE CARDS: each row of YtdchbbegbijjgaaDoorRows.lean that lists a variable, with what it lists TIED to the program's text (the seventh form; the later family's looks); each row that meets fmt, with fmt's text TOLD by the authors' own Lean function (tested against real Go, not proved from fmt's source: count such statements apart). THE CARD IS WHAT COUNTS. Prove the row's statement (the work); the ties are given (YtdchbbegbijjgaaDoorTie.lean); close each card by the builder's one call (the guide's Derived/Test/ToyasCard.lean, 'card_holds'). Laid BY PROGRAM, IN A SANDBOX (cutbox-door.mjs). By AI agents, Wed Nov 11 2026. No macro, syntax, notation, axiom, sorry.
-/
import Derived.Test.YtdchbbegbijjgaaDoorRows
import GoSem.ClaimSeven
namespace Go.Proofs.YtdchbbegbijjgaaDoor
namespace Rows

/-- THE TIED CARD OF 'ferretlaw06.TapeFields'. -/
def tapeFieldsCard : Claim7 := { stood := { row := tapeFieldsRow, standIns := [], harness := (true, "7f9b6dc4ca2d28fcdb737bb6ac50a3da180ada53a1b7a064914203464fa93990"), looks := true }, kinds := [], alts := [], laidByText := true, laidKinds := [.data, .data, .data, .data, .sentinel, .sentinel, .pinned], laidTests := true, laidLooks := .later }
def TapeFieldsCardSaid : Prop := Claim7.holds Tryd.pinned (.plain (OpenSpec.ofChange tapeFieldsSpec)) tapeFieldsCard

/-- THE SECOND FORM's CARD OF 'ferretlaw06.TapeFields'. -/
def tapeFieldsUptoCard : Claim7 := { stood := { row := tapeFieldsUptoRow, standIns := [], harness := (true, "7f9b6dc4ca2d28fcdb737bb6ac50a3da180ada53a1b7a064914203464fa93990"), looks := true }, kinds := [], alts := [], laidByText := true, laidKinds := [.data, .data, .data, .data, .sentinel, .sentinel, .pinned], laidTests := true, laidLooks := .later }
def TapeFieldsUptoCardSaid : Prop := Claim7.holds Tryd.pinned (.plain (OpenSpec.upto tapeFieldsSpec)) tapeFieldsUptoCard
end Rows
end Go.Proofs.YtdchbbegbijjgaaDoor
