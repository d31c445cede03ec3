/-
  DERIVED. GIVEN WITH THE SEED: THE CARDS: each row of YtpjnnbegimaaeabDoorRows.lean that lists a variable, with what it lists TIED to the program's text (the seventh form; the later family's looks); each row that meets fmt, with fmt's text TOLD by the authors' own Lean function (tested against real Go, not proved from fmt's source: count such statements apart). THE CARD IS WHAT COUNTS. Prove the row's statement (the work); the ties are given (YtpjnnbegimaaeabDoorTie.lean); close each card by the builder's one call (the guide's Derived/Test/ToyasCard.lean, 'card_holds'). Laid BY PROGRAM, IN A SANDBOX (cutbox-door.mjs). By AI agents, Wed Nov 11 2026. No macro, syntax, notation, axiom, sorry.
-/
import Derived.Test.YtpjnnbegimaaeabDoorRows
import GoSem.ClaimSeven
namespace Go.Proofs.YtpjnnbegimaaeabDoor
namespace Rows

/-- THE TIED CARD OF 'ferrettop.TopScalars'. -/
def topScalarsCard : Claim7 := { stood := { row := topScalarsRow, standIns := [], harness := (true, "cd0305147540f38ad5414cc8afd0f43ed4e1ed793b30b86e37f0ffbd5f051a6e"), looks := false }, kinds := [], alts := [], laidByText := true, laidKinds := [.data, .data], laidTests := true, laidLooks := .later }
def TopScalarsCardSaid : Prop := Claim7.holds Tryd.pinned (.plain (OpenSpec.ofChange topScalarsSpec)) topScalarsCard

/-- THE SECOND FORM's CARD OF 'ferrettop.TopScalars'. -/
def topScalarsUptoCard : Claim7 := { stood := { row := topScalarsUptoRow, standIns := [], harness := (true, "cd0305147540f38ad5414cc8afd0f43ed4e1ed793b30b86e37f0ffbd5f051a6e"), looks := false }, kinds := [], alts := [], laidByText := true, laidKinds := [.data, .data], laidTests := true, laidLooks := .later }
def TopScalarsUptoCardSaid : Prop := Claim7.holds Tryd.pinned (.plain (OpenSpec.upto topScalarsSpec)) topScalarsUptoCard
end Rows
end Go.Proofs.YtpjnnbegimaaeabDoor
