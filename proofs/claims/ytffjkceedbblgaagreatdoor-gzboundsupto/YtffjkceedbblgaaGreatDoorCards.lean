/-
  DERIVED. GIVEN WITH THE SEED: THE CARDS: each row of YtffjkceedbblgaaGreatDoorRows.lean that lists a variable, with what it lists TIED to the program's text (the seventh form; the later family's looks); each row that meets fmt, with fmt's text TOLD by the authors' own Lean function (tested against real Go, not proved from fmt's source: count such statements apart). THE CARD IS WHAT COUNTS. Prove the row's statement (the work); the ties are given (YtffjkceedbblgaaGreatDoorTie.lean); close each card by the builder's one call (the guide's Derived/Test/ToyasCard.lean, 'card_holds'). Laid BY PROGRAM, IN A SANDBOX (cutbox-door.mjs). By AI agents, Wed Nov 11 2026. No macro, syntax, notation, axiom, sorry.
-/
import Derived.Test.YtffjkceedbblgaaGreatDoorRows
import GoSem.ClaimSeven
namespace Go.Proofs.YtffjkceedbblgaaGreatDoor
namespace Rows

/-- THE TIED CARD OF 'ferretlaw05.GzMagic'. -/
def gzMagicCard : Claim7 := { stood := { row := gzMagicRow, standIns := [], harness := (true, "71345f836de5c08036ae0a67434558b4d5f96c0ae31d1943248cb7b72d605756"), looks := false }, kinds := [], alts := [], laidByText := true, laidKinds := [.data], laidTests := true, laidLooks := .later }
def GzMagicCardSaid : Prop := Claim7.holds Tryz.pinned (.plain (OpenSpec.ofChange gzMagicSpec)) gzMagicCard

/-- THE TIED CARD OF 'ferretlaw05.GzBounds'. -/
def gzBoundsCard : Claim7 := { stood := { row := gzBoundsRow, standIns := [], harness := (true, "71345f836de5c08036ae0a67434558b4d5f96c0ae31d1943248cb7b72d605756"), looks := false }, kinds := [], alts := [], laidByText := true, laidKinds := [.data], laidTests := true, laidLooks := .later }
def GzBoundsCardSaid : Prop := Claim7.holds Tryz.pinned (.plain (OpenSpec.ofChange gzBoundsSpec)) gzBoundsCard

/-- THE TIED CARD OF 'ferretlaw05.GzTurned'. -/
def gzTurnedCard : Claim7 := { stood := { row := gzTurnedRow, standIns := [], harness := (true, "71345f836de5c08036ae0a67434558b4d5f96c0ae31d1943248cb7b72d605756"), looks := false }, kinds := [], alts := [], laidByText := true, laidKinds := [.data], laidTests := true, laidLooks := .later }
def GzTurnedCardSaid : Prop := Claim7.holds Tryz.pinned (.plain (OpenSpec.ofChange gzTurnedSpec)) gzTurnedCard

/-- THE SECOND FORM's CARD OF 'ferretlaw05.GzMagic'. -/
def gzMagicUptoCard : Claim7 := { stood := { row := gzMagicUptoRow, standIns := [], harness := (true, "71345f836de5c08036ae0a67434558b4d5f96c0ae31d1943248cb7b72d605756"), looks := false }, kinds := [], alts := [], laidByText := true, laidKinds := [.data], laidTests := true, laidLooks := .later }
def GzMagicUptoCardSaid : Prop := Claim7.holds Tryz.pinned (.plain (OpenSpec.upto gzMagicSpec)) gzMagicUptoCard

/-- THE SECOND FORM's CARD OF 'ferretlaw05.GzBounds'. -/
def gzBoundsUptoCard : Claim7 := { stood := { row := gzBoundsUptoRow, standIns := [], harness := (true, "71345f836de5c08036ae0a67434558b4d5f96c0ae31d1943248cb7b72d605756"), looks := false }, kinds := [], alts := [], laidByText := true, laidKinds := [.data], laidTests := true, laidLooks := .later }
def GzBoundsUptoCardSaid : Prop := Claim7.holds Tryz.pinned (.plain (OpenSpec.upto gzBoundsSpec)) gzBoundsUptoCard

/-- THE SECOND FORM's CARD OF 'ferretlaw05.GzTurned'. -/
def gzTurnedUptoCard : Claim7 := { stood := { row := gzTurnedUptoRow, standIns := [], harness := (true, "71345f836de5c08036ae0a67434558b4d5f96c0ae31d1943248cb7b72d605756"), looks := false }, kinds := [], alts := [], laidByText := true, laidKinds := [.data], laidTests := true, laidLooks := .later }
def GzTurnedUptoCardSaid : Prop := Claim7.holds Tryz.pinned (.plain (OpenSpec.upto gzTurnedSpec)) gzTurnedUptoCard
end Rows
end Go.Proofs.YtffjkceedbblgaaGreatDoor
