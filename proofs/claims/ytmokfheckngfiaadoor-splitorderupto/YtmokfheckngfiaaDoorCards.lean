/-
  DERIVED. GIVEN WITH THE SEED: THE CARDS: each row of YtmokfheckngfiaaDoorRows.lean that lists a variable, with what it lists TIED to the program's text (the seventh form; the later family's looks); each row that meets fmt, with fmt's text TOLD by the authors' own Lean function (tested against real Go, not proved from fmt's source: count such statements apart). THE CARD IS WHAT COUNTS. Prove the row's statement (the work); the ties are given (YtmokfheckngfiaaDoorTie.lean); close each card by the builder's one call (the guide's Derived/Test/ToyasCard.lean, 'card_holds'). Laid BY PROGRAM, IN A SANDBOX (cutbox-door.mjs). By AI agents, Wed Nov 11 2026. No macro, syntax, notation, axiom, sorry.
-/
import Derived.Test.YtmokfheckngfiaaDoorRows
import GoSem.ClaimSeven
namespace Go.Proofs.YtmokfheckngfiaaDoor
namespace Rows

/-- THE TIED CARD OF 'ferretlaw06.TapeNumbers'. -/
def tapeNumbersCard : Claim7 := { stood := { row := tapeNumbersRow, standIns := [], harness := (true, "c821c255cd8cb4cc1cc9106bcc8747939ce703976fd23057359b455722aec4a4"), looks := true }, kinds := [], alts := [], laidByText := true, laidKinds := [.data, .pinned], laidTests := true, laidLooks := .later }
def TapeNumbersCardSaid : Prop := Claim7.holds Tryd.pinned (.plain (OpenSpec.ofChange tapeNumbersSpec)) tapeNumbersCard

/-- THE TIED CARD OF 'ferretlaw06.TapeFields'. -/
def tapeFieldsCard : Claim7 := { stood := { row := tapeFieldsRow, standIns := [], harness := (true, "c821c255cd8cb4cc1cc9106bcc8747939ce703976fd23057359b455722aec4a4"), looks := true }, kinds := [], alts := [], laidByText := true, laidKinds := [.data, .data, .data, .data, .sentinel, .sentinel, .pinned], laidTests := true, laidLooks := .later }
def TapeFieldsCardSaid : Prop := Claim7.holds Tryd.pinned (.plain (OpenSpec.ofChange tapeFieldsSpec)) tapeFieldsCard

/-- THE TIED CARD OF 'ferretlaw13.SplitOne'. -/
def splitOneCard : Claim7 := { stood := { row := splitOneRow, standIns := [], harness := (true, "c821c255cd8cb4cc1cc9106bcc8747939ce703976fd23057359b455722aec4a4"), looks := true }, kinds := [], alts := [], laidByText := true, laidKinds := [.data, .data], laidTests := true, laidLooks := .later }
def SplitOneCardSaid : Prop := Claim7.holds Tryd.pinned (.plain (OpenSpec.ofChange splitOneSpec)) splitOneCard

/-- THE TIED CARD OF 'ferretlaw13.SplitHeads'. -/
def splitHeadsCard : Claim7 := { stood := { row := splitHeadsRow, standIns := [], harness := (true, "c821c255cd8cb4cc1cc9106bcc8747939ce703976fd23057359b455722aec4a4"), looks := true }, kinds := [], alts := [], laidByText := true, laidKinds := [.data, .data], laidTests := true, laidLooks := .later }
def SplitHeadsCardSaid : Prop := Claim7.holds Tryd.pinned (.plain (OpenSpec.ofChange splitHeadsSpec)) splitHeadsCard

/-- THE TIED CARD OF 'ferretlaw13.SplitOrder'. -/
def splitOrderCard : Claim7 := { stood := { row := splitOrderRow, standIns := [], harness := (true, "c821c255cd8cb4cc1cc9106bcc8747939ce703976fd23057359b455722aec4a4"), looks := true }, kinds := [], alts := [], laidByText := true, laidKinds := [.data, .data], laidTests := true, laidLooks := .later }
def SplitOrderCardSaid : Prop := Claim7.holds Tryd.pinned (.plain (OpenSpec.ofChange splitOrderSpec)) splitOrderCard

/-- THE TIED CARD OF 'ferretlaw13.SplitTells'. -/
def splitTellsCard : Claim7 := { stood := { row := splitTellsRow, standIns := [], harness := (true, "c821c255cd8cb4cc1cc9106bcc8747939ce703976fd23057359b455722aec4a4"), looks := true }, kinds := [], alts := [], laidByText := true, laidKinds := [.data, .data], laidTests := true, laidLooks := .later }
def SplitTellsCardSaid : Prop := Claim7.holds Tryd.pinned (.plain (OpenSpec.ofChange splitTellsSpec)) splitTellsCard

/-- THE SECOND FORM's CARD OF 'ferretlaw06.TapeNumbers'. -/
def tapeNumbersUptoCard : Claim7 := { stood := { row := tapeNumbersUptoRow, standIns := [], harness := (true, "c821c255cd8cb4cc1cc9106bcc8747939ce703976fd23057359b455722aec4a4"), looks := true }, kinds := [], alts := [], laidByText := true, laidKinds := [.data, .pinned], laidTests := true, laidLooks := .later }
def TapeNumbersUptoCardSaid : Prop := Claim7.holds Tryd.pinned (.plain (OpenSpec.upto tapeNumbersSpec)) tapeNumbersUptoCard

/-- THE SECOND FORM's CARD OF 'ferretlaw06.TapeFields'. -/
def tapeFieldsUptoCard : Claim7 := { stood := { row := tapeFieldsUptoRow, standIns := [], harness := (true, "c821c255cd8cb4cc1cc9106bcc8747939ce703976fd23057359b455722aec4a4"), looks := true }, kinds := [], alts := [], laidByText := true, laidKinds := [.data, .data, .data, .data, .sentinel, .sentinel, .pinned], laidTests := true, laidLooks := .later }
def TapeFieldsUptoCardSaid : Prop := Claim7.holds Tryd.pinned (.plain (OpenSpec.upto tapeFieldsSpec)) tapeFieldsUptoCard

/-- THE SECOND FORM's CARD OF 'ferretlaw13.SplitOne'. -/
def splitOneUptoCard : Claim7 := { stood := { row := splitOneUptoRow, standIns := [], harness := (true, "c821c255cd8cb4cc1cc9106bcc8747939ce703976fd23057359b455722aec4a4"), looks := true }, kinds := [], alts := [], laidByText := true, laidKinds := [.data, .data], laidTests := true, laidLooks := .later }
def SplitOneUptoCardSaid : Prop := Claim7.holds Tryd.pinned (.plain (OpenSpec.upto splitOneSpec)) splitOneUptoCard

/-- THE SECOND FORM's CARD OF 'ferretlaw13.SplitHeads'. -/
def splitHeadsUptoCard : Claim7 := { stood := { row := splitHeadsUptoRow, standIns := [], harness := (true, "c821c255cd8cb4cc1cc9106bcc8747939ce703976fd23057359b455722aec4a4"), looks := true }, kinds := [], alts := [], laidByText := true, laidKinds := [.data, .data], laidTests := true, laidLooks := .later }
def SplitHeadsUptoCardSaid : Prop := Claim7.holds Tryd.pinned (.plain (OpenSpec.upto splitHeadsSpec)) splitHeadsUptoCard

/-- THE SECOND FORM's CARD OF 'ferretlaw13.SplitOrder'. -/
def splitOrderUptoCard : Claim7 := { stood := { row := splitOrderUptoRow, standIns := [], harness := (true, "c821c255cd8cb4cc1cc9106bcc8747939ce703976fd23057359b455722aec4a4"), looks := true }, kinds := [], alts := [], laidByText := true, laidKinds := [.data, .data], laidTests := true, laidLooks := .later }
def SplitOrderUptoCardSaid : Prop := Claim7.holds Tryd.pinned (.plain (OpenSpec.upto splitOrderSpec)) splitOrderUptoCard

/-- THE SECOND FORM's CARD OF 'ferretlaw13.SplitTells'. -/
def splitTellsUptoCard : Claim7 := { stood := { row := splitTellsUptoRow, standIns := [], harness := (true, "c821c255cd8cb4cc1cc9106bcc8747939ce703976fd23057359b455722aec4a4"), looks := true }, kinds := [], alts := [], laidByText := true, laidKinds := [.data, .data], laidTests := true, laidLooks := .later }
def SplitTellsUptoCardSaid : Prop := Claim7.holds Tryd.pinned (.plain (OpenSpec.upto splitTellsSpec)) splitTellsUptoCard
end Rows
end Go.Proofs.YtmokfheckngfiaaDoor
