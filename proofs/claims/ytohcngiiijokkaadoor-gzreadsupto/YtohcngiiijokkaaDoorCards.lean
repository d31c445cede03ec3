/-
  DERIVED. GIVEN WITH THE SEED: THE CARDS: each row of YtohcngiiijokkaaDoorRows.lean that lists a variable, with what it lists TIED to the program's text (the seventh form; the later family's looks); each row that meets fmt, with fmt's text TOLD by the authors' own Lean function (tested against real Go, not proved from fmt's source: count such statements apart). THE CARD IS WHAT COUNTS. Prove the row's statement (the work); the ties are given (YtohcngiiijokkaaDoorTie.lean); close each card by the builder's one call (the guide's Derived/Test/ToyasCard.lean, 'card_holds'). Laid BY PROGRAM, IN A SANDBOX (cutbox-door.mjs). By AI agents, Wed Nov 11 2026. No macro, syntax, notation, axiom, sorry.
-/
import Derived.Test.YtohcngiiijokkaaDoorRows
import GoSem.ClaimSeven
namespace Go.Proofs.YtohcngiiijokkaaDoor
namespace Rows

/-- THE TIED CARD OF 'ferretlaw05.GzJoined'. -/
def gzJoinedCard : Claim7 := { stood := { row := gzJoinedRow, standIns := [], harness := (true, "0dd4cf96c23af9d8b1ca4672a78709290e9ec07a8c565dcfd6a7f353f1b633b9"), looks := false }, kinds := [], alts := [], laidByText := true, laidKinds := [.data], laidTests := true, laidLooks := .later }
def GzJoinedCardSaid : Prop := Claim7.holds Tryd.pinned (.plain (OpenSpec.ofChange gzJoinedSpec)) gzJoinedCard

/-- THE TIED CARD OF 'ferretlaw05.GzReads'. -/
def gzReadsCard : Claim7 := { stood := { row := gzReadsRow, standIns := [], harness := (true, "0dd4cf96c23af9d8b1ca4672a78709290e9ec07a8c565dcfd6a7f353f1b633b9"), looks := false }, kinds := [], alts := [], laidByText := true, laidKinds := [.data], laidTests := true, laidLooks := .later }
def GzReadsCardSaid : Prop := Claim7.holds Tryd.pinned (.plain (OpenSpec.ofChange gzReadsSpec)) gzReadsCard

/-- THE SECOND FORM's CARD OF 'ferretlaw05.GzJoined'. -/
def gzJoinedUptoCard : Claim7 := { stood := { row := gzJoinedUptoRow, standIns := [], harness := (true, "0dd4cf96c23af9d8b1ca4672a78709290e9ec07a8c565dcfd6a7f353f1b633b9"), looks := false }, kinds := [], alts := [], laidByText := true, laidKinds := [.data], laidTests := true, laidLooks := .later }
def GzJoinedUptoCardSaid : Prop := Claim7.holds Tryd.pinned (.plain (OpenSpec.upto gzJoinedSpec)) gzJoinedUptoCard

/-- THE SECOND FORM's CARD OF 'ferretlaw05.GzReads'. -/
def gzReadsUptoCard : Claim7 := { stood := { row := gzReadsUptoRow, standIns := [], harness := (true, "0dd4cf96c23af9d8b1ca4672a78709290e9ec07a8c565dcfd6a7f353f1b633b9"), looks := false }, kinds := [], alts := [], laidByText := true, laidKinds := [.data], laidTests := true, laidLooks := .later }
def GzReadsUptoCardSaid : Prop := Claim7.holds Tryd.pinned (.plain (OpenSpec.upto gzReadsSpec)) gzReadsUptoCard
end Rows
end Go.Proofs.YtohcngiiijokkaaDoor
