/-
  DERIVED. GIVEN WITH THE SEED: THE CARDS: each row of YtnngemdpoemhgaaDoorRows.lean that lists a variable, with what it lists TIED to the program's text (the seventh form; the later family's looks); each row that meets fmt, with fmt's text TOLD by the authors' own Lean function (tested against real Go, not proved from fmt's source: count such statements apart). THE CARD IS WHAT COUNTS. Prove the row's statement (the work); the ties are given (YtnngemdpoemhgaaDoorTie.lean); close each card by the builder's one call (the guide's Derived/Test/ToyasCard.lean, 'card_holds'). Laid BY PROGRAM, IN A SANDBOX (cutbox-door.mjs). By AI agents, Wed Nov 11 2026. No macro, syntax, notation, axiom, sorry.
-/
import Derived.Test.YtnngemdpoemhgaaDoorRows
import GoSem.ClaimSeven
namespace Go.Proofs.YtnngemdpoemhgaaDoor
namespace Rows

/-- THE TIED CARD OF 'ferretlaw09.UcdOrbits'. -/
def ucdOrbitsCard : Claim7 := { stood := { row := ucdOrbitsRow, standIns := [], harness := (true, "fe166386e46acb8d9a9c4202b15a0c9a83f53a2398a3a28aa92093bc3f836f00"), looks := false }, kinds := [], alts := [], laidByText := true, laidKinds := [.data, .data], laidTests := true, laidLooks := .later }
def UcdOrbitsCardSaid : Prop := Claim7.holds Tryd.pinned (.plain (OpenSpec.ofChange ucdOrbitsSpec)) ucdOrbitsCard

/-- THE TIED CARD OF 'ferretlaw09.UcdPairs'. -/
def ucdPairsCard : Claim7 := { stood := { row := ucdPairsRow, standIns := [], harness := (true, "fe166386e46acb8d9a9c4202b15a0c9a83f53a2398a3a28aa92093bc3f836f00"), looks := false }, kinds := [], alts := [], laidByText := true, laidKinds := [.data, .data], laidTests := true, laidLooks := .later }
def UcdPairsCardSaid : Prop := Claim7.holds Tryd.pinned (.plain (OpenSpec.ofChange ucdPairsSpec)) ucdPairsCard

/-- THE TIED CARD OF 'ferretlaw09.UcdParts'. -/
def ucdPartsCard : Claim7 := { stood := { row := ucdPartsRow, standIns := [], harness := (true, "fe166386e46acb8d9a9c4202b15a0c9a83f53a2398a3a28aa92093bc3f836f00"), looks := false }, kinds := [], alts := [], laidByText := true, laidKinds := [.data, .data], laidTests := true, laidLooks := .later }
def UcdPartsCardSaid : Prop := Claim7.holds Tryd.pinned (.plain (OpenSpec.ofChange ucdPartsSpec)) ucdPartsCard

/-- THE TIED CARD OF 'ferretlaw09.UcdTurned'. -/
def ucdTurnedCard : Claim7 := { stood := { row := ucdTurnedRow, standIns := [], harness := (true, "fe166386e46acb8d9a9c4202b15a0c9a83f53a2398a3a28aa92093bc3f836f00"), looks := false }, kinds := [], alts := [], laidByText := true, laidKinds := [.data, .data], laidTests := true, laidLooks := .later }
def UcdTurnedCardSaid : Prop := Claim7.holds Tryd.pinned (.plain (OpenSpec.ofChange ucdTurnedSpec)) ucdTurnedCard

/-- THE TIED CARD OF 'ferretlaw09.UcdClasses'. -/
def ucdClassesCard : Claim7 := { stood := { row := ucdClassesRow, standIns := [], harness := (true, "fe166386e46acb8d9a9c4202b15a0c9a83f53a2398a3a28aa92093bc3f836f00"), looks := false }, kinds := [], alts := [], laidByText := true, laidKinds := [.data, .data], laidTests := true, laidLooks := .later }
def UcdClassesCardSaid : Prop := Claim7.holds Tryd.pinned (.plain (OpenSpec.ofChange ucdClassesSpec)) ucdClassesCard

/-- THE TIED CARD OF 'ferretlaw09.UcdCloses'. -/
def ucdClosesCard : Claim7 := { stood := { row := ucdClosesRow, standIns := [], harness := (true, "fe166386e46acb8d9a9c4202b15a0c9a83f53a2398a3a28aa92093bc3f836f00"), looks := false }, kinds := [], alts := [], laidByText := true, laidKinds := [.data, .data], laidTests := true, laidLooks := .later }
def UcdClosesCardSaid : Prop := Claim7.holds Tryd.pinned (.plain (OpenSpec.ofChange ucdClosesSpec)) ucdClosesCard

/-- THE SECOND FORM's CARD OF 'ferretlaw09.UcdOrbits'. -/
def ucdOrbitsUptoCard : Claim7 := { stood := { row := ucdOrbitsUptoRow, standIns := [], harness := (true, "fe166386e46acb8d9a9c4202b15a0c9a83f53a2398a3a28aa92093bc3f836f00"), looks := false }, kinds := [], alts := [], laidByText := true, laidKinds := [.data, .data], laidTests := true, laidLooks := .later }
def UcdOrbitsUptoCardSaid : Prop := Claim7.holds Tryd.pinned (.plain (OpenSpec.upto ucdOrbitsSpec)) ucdOrbitsUptoCard

/-- THE SECOND FORM's CARD OF 'ferretlaw09.UcdPairs'. -/
def ucdPairsUptoCard : Claim7 := { stood := { row := ucdPairsUptoRow, standIns := [], harness := (true, "fe166386e46acb8d9a9c4202b15a0c9a83f53a2398a3a28aa92093bc3f836f00"), looks := false }, kinds := [], alts := [], laidByText := true, laidKinds := [.data, .data], laidTests := true, laidLooks := .later }
def UcdPairsUptoCardSaid : Prop := Claim7.holds Tryd.pinned (.plain (OpenSpec.upto ucdPairsSpec)) ucdPairsUptoCard

/-- THE SECOND FORM's CARD OF 'ferretlaw09.UcdParts'. -/
def ucdPartsUptoCard : Claim7 := { stood := { row := ucdPartsUptoRow, standIns := [], harness := (true, "fe166386e46acb8d9a9c4202b15a0c9a83f53a2398a3a28aa92093bc3f836f00"), looks := false }, kinds := [], alts := [], laidByText := true, laidKinds := [.data, .data], laidTests := true, laidLooks := .later }
def UcdPartsUptoCardSaid : Prop := Claim7.holds Tryd.pinned (.plain (OpenSpec.upto ucdPartsSpec)) ucdPartsUptoCard

/-- THE SECOND FORM's CARD OF 'ferretlaw09.UcdTurned'. -/
def ucdTurnedUptoCard : Claim7 := { stood := { row := ucdTurnedUptoRow, standIns := [], harness := (true, "fe166386e46acb8d9a9c4202b15a0c9a83f53a2398a3a28aa92093bc3f836f00"), looks := false }, kinds := [], alts := [], laidByText := true, laidKinds := [.data, .data], laidTests := true, laidLooks := .later }
def UcdTurnedUptoCardSaid : Prop := Claim7.holds Tryd.pinned (.plain (OpenSpec.upto ucdTurnedSpec)) ucdTurnedUptoCard

/-- THE SECOND FORM's CARD OF 'ferretlaw09.UcdClasses'. -/
def ucdClassesUptoCard : Claim7 := { stood := { row := ucdClassesUptoRow, standIns := [], harness := (true, "fe166386e46acb8d9a9c4202b15a0c9a83f53a2398a3a28aa92093bc3f836f00"), looks := false }, kinds := [], alts := [], laidByText := true, laidKinds := [.data, .data], laidTests := true, laidLooks := .later }
def UcdClassesUptoCardSaid : Prop := Claim7.holds Tryd.pinned (.plain (OpenSpec.upto ucdClassesSpec)) ucdClassesUptoCard

/-- THE SECOND FORM's CARD OF 'ferretlaw09.UcdCloses'. -/
def ucdClosesUptoCard : Claim7 := { stood := { row := ucdClosesUptoRow, standIns := [], harness := (true, "fe166386e46acb8d9a9c4202b15a0c9a83f53a2398a3a28aa92093bc3f836f00"), looks := false }, kinds := [], alts := [], laidByText := true, laidKinds := [.data, .data], laidTests := true, laidLooks := .later }
def UcdClosesUptoCardSaid : Prop := Claim7.holds Tryd.pinned (.plain (OpenSpec.upto ucdClosesSpec)) ucdClosesUptoCard
end Rows
end Go.Proofs.YtnngemdpoemhgaaDoor
