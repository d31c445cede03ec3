/-
  DERIVED. GIVEN WITH THE SEED: THE CARDS: each row of YtpjnnbegimaaeaaDoorRows.lean that lists a variable, with what it lists TIED to the program's text (the seventh form; the later family's looks); each row that meets fmt, with fmt's text TOLD by the authors' own Lean function (tested against real Go, not proved from fmt's source: count such statements apart). THE CARD IS WHAT COUNTS. Prove the row's statement (the work); the ties are given (YtpjnnbegimaaeaaDoorTie.lean); close each card by the builder's one call (the guide's Derived/Test/ToyasCard.lean, 'card_holds'). Laid BY PROGRAM, IN A SANDBOX (cutbox-door.mjs). By AI agents, Wed Nov 11 2026. No macro, syntax, notation, axiom, sorry.
-/
import Derived.Test.YtpjnnbegimaaeaaDoorRows
import GoSem.ClaimSeven
namespace Go.Proofs.YtpjnnbegimaaeaaDoor
namespace Rows

/-- THE TIED CARD OF 'ferretlaw07.CodingBytes'. -/
def codingBytesCard : Claim7 := { stood := { row := codingBytesRow, standIns := [], harness := (true, "74d1d6cd726d2149e37634168c3e31f29c39d040519985464b63bcc03fef746f"), looks := false }, kinds := [], alts := [], laidByText := true, laidKinds := [.data, .data], laidTests := true, laidLooks := .later }
def CodingBytesCardSaid : Prop := Claim7.holds Tryd.pinned (.plain (OpenSpec.ofChange codingBytesSpec)) codingBytesCard

/-- THE TIED CARD OF 'ferretlaw07.CodingDecodes'. -/
def codingDecodesCard : Claim7 := { stood := { row := codingDecodesRow, standIns := [], harness := (true, "74d1d6cd726d2149e37634168c3e31f29c39d040519985464b63bcc03fef746f"), looks := false }, kinds := [], alts := [], laidByText := true, laidKinds := [.data, .data], laidTests := true, laidLooks := .later }
def CodingDecodesCardSaid : Prop := Claim7.holds Tryd.pinned (.plain (OpenSpec.ofChange codingDecodesSpec)) codingDecodesCard

/-- THE TIED CARD OF 'ferretlaw07.CodingPlaces'. -/
def codingPlacesCard : Claim7 := { stood := { row := codingPlacesRow, standIns := [], harness := (true, "74d1d6cd726d2149e37634168c3e31f29c39d040519985464b63bcc03fef746f"), looks := false }, kinds := [], alts := [], laidByText := true, laidKinds := [.data, .data], laidTests := true, laidLooks := .later }
def CodingPlacesCardSaid : Prop := Claim7.holds Tryd.pinned (.plain (OpenSpec.ofChange codingPlacesSpec)) codingPlacesCard

/-- THE TIED CARD OF 'ferretlaw07.CodingEncodes'. -/
def codingEncodesCard : Claim7 := { stood := { row := codingEncodesRow, standIns := [], harness := (true, "74d1d6cd726d2149e37634168c3e31f29c39d040519985464b63bcc03fef746f"), looks := false }, kinds := [], alts := [], laidByText := true, laidKinds := [.data, .data], laidTests := true, laidLooks := .later }
def CodingEncodesCardSaid : Prop := Claim7.holds Tryd.pinned (.plain (OpenSpec.ofChange codingEncodesSpec)) codingEncodesCard

/-- THE TIED CARD OF 'ferretlaw07.CodingJoined'. -/
def codingJoinedCard : Claim7 := { stood := { row := codingJoinedRow, standIns := [], harness := (true, "74d1d6cd726d2149e37634168c3e31f29c39d040519985464b63bcc03fef746f"), looks := false }, kinds := [], alts := [], laidByText := true, laidKinds := [.data, .data], laidTests := true, laidLooks := .later }
def CodingJoinedCardSaid : Prop := Claim7.holds Tryd.pinned (.plain (OpenSpec.ofChange codingJoinedSpec)) codingJoinedCard

/-- THE TIED CARD OF 'ferretlaw07.CodingAlike'. -/
def codingAlikeCard : Claim7 := { stood := { row := codingAlikeRow, standIns := [], harness := (true, "74d1d6cd726d2149e37634168c3e31f29c39d040519985464b63bcc03fef746f"), looks := false }, kinds := [], alts := [], laidByText := true, laidKinds := [.data, .data], laidTests := true, laidLooks := .later }
def CodingAlikeCardSaid : Prop := Claim7.holds Tryd.pinned (.plain (OpenSpec.ofChange codingAlikeSpec)) codingAlikeCard

/-- THE SECOND FORM's CARD OF 'ferretlaw07.CodingBytes'. -/
def codingBytesUptoCard : Claim7 := { stood := { row := codingBytesUptoRow, standIns := [], harness := (true, "74d1d6cd726d2149e37634168c3e31f29c39d040519985464b63bcc03fef746f"), looks := false }, kinds := [], alts := [], laidByText := true, laidKinds := [.data, .data], laidTests := true, laidLooks := .later }
def CodingBytesUptoCardSaid : Prop := Claim7.holds Tryd.pinned (.plain (OpenSpec.upto codingBytesSpec)) codingBytesUptoCard

/-- THE SECOND FORM's CARD OF 'ferretlaw07.CodingDecodes'. -/
def codingDecodesUptoCard : Claim7 := { stood := { row := codingDecodesUptoRow, standIns := [], harness := (true, "74d1d6cd726d2149e37634168c3e31f29c39d040519985464b63bcc03fef746f"), looks := false }, kinds := [], alts := [], laidByText := true, laidKinds := [.data, .data], laidTests := true, laidLooks := .later }
def CodingDecodesUptoCardSaid : Prop := Claim7.holds Tryd.pinned (.plain (OpenSpec.upto codingDecodesSpec)) codingDecodesUptoCard

/-- THE SECOND FORM's CARD OF 'ferretlaw07.CodingPlaces'. -/
def codingPlacesUptoCard : Claim7 := { stood := { row := codingPlacesUptoRow, standIns := [], harness := (true, "74d1d6cd726d2149e37634168c3e31f29c39d040519985464b63bcc03fef746f"), looks := false }, kinds := [], alts := [], laidByText := true, laidKinds := [.data, .data], laidTests := true, laidLooks := .later }
def CodingPlacesUptoCardSaid : Prop := Claim7.holds Tryd.pinned (.plain (OpenSpec.upto codingPlacesSpec)) codingPlacesUptoCard

/-- THE SECOND FORM's CARD OF 'ferretlaw07.CodingEncodes'. -/
def codingEncodesUptoCard : Claim7 := { stood := { row := codingEncodesUptoRow, standIns := [], harness := (true, "74d1d6cd726d2149e37634168c3e31f29c39d040519985464b63bcc03fef746f"), looks := false }, kinds := [], alts := [], laidByText := true, laidKinds := [.data, .data], laidTests := true, laidLooks := .later }
def CodingEncodesUptoCardSaid : Prop := Claim7.holds Tryd.pinned (.plain (OpenSpec.upto codingEncodesSpec)) codingEncodesUptoCard

/-- THE SECOND FORM's CARD OF 'ferretlaw07.CodingJoined'. -/
def codingJoinedUptoCard : Claim7 := { stood := { row := codingJoinedUptoRow, standIns := [], harness := (true, "74d1d6cd726d2149e37634168c3e31f29c39d040519985464b63bcc03fef746f"), looks := false }, kinds := [], alts := [], laidByText := true, laidKinds := [.data, .data], laidTests := true, laidLooks := .later }
def CodingJoinedUptoCardSaid : Prop := Claim7.holds Tryd.pinned (.plain (OpenSpec.upto codingJoinedSpec)) codingJoinedUptoCard

/-- THE SECOND FORM's CARD OF 'ferretlaw07.CodingAlike'. -/
def codingAlikeUptoCard : Claim7 := { stood := { row := codingAlikeUptoRow, standIns := [], harness := (true, "74d1d6cd726d2149e37634168c3e31f29c39d040519985464b63bcc03fef746f"), looks := false }, kinds := [], alts := [], laidByText := true, laidKinds := [.data, .data], laidTests := true, laidLooks := .later }
def CodingAlikeUptoCardSaid : Prop := Claim7.holds Tryd.pinned (.plain (OpenSpec.upto codingAlikeSpec)) codingAlikeUptoCard
end Rows
end Go.Proofs.YtpjnnbegimaaeaaDoor
