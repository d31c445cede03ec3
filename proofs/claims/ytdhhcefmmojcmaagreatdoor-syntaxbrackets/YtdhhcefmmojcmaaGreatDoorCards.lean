/-
  DERIVED. GIVEN WITH THE SEED: THE CARDS: each row of YtdhhcefmmojcmaaGreatDoorRows.lean that lists a variable, with what it lists TIED to the program's text (the seventh form; the later family's looks); each row that meets fmt, with fmt's text TOLD by the authors' own Lean function (tested against real Go, not proved from fmt's source: count such statements apart). THE CARD IS WHAT COUNTS. Prove the row's statement (the work); the ties are given (YtdhhcefmmojcmaaGreatDoorTie.lean); close each card by the builder's one call (the guide's Derived/Test/ToyasCard.lean, 'card_holds'). Laid BY PROGRAM, IN A SANDBOX (cutbox-door.mjs). By AI agents, Wed Nov 11 2026. No macro, syntax, notation, axiom, sorry.
-/
import Derived.Test.YtdhhcefmmojcmaaGreatDoorRows
import GoSem.ClaimSeven
namespace Go.Proofs.YtdhhcefmmojcmaaGreatDoor
namespace Rows

/-- THE TIED CARD OF 'ferretlaw10.SyntaxParses'. -/
def syntaxParsesCard : Claim7 := { stood := { row := syntaxParsesRow, standIns := [], harness := (true, "fcaa1da9f2e4a6f33b81844af7bfd7db49bf3c5e47a0c657c2e7d39896f4e800"), looks := true }, kinds := [], alts := [], laidByText := true, laidKinds := [.data, .data, .data, .sentinel, .sentinel, .data, .data], laidTests := true, laidLooks := .later }
def SyntaxParsesCardSaid : Prop := Claim7.holds Tryz.pinned (.plain (OpenSpec.ofChange syntaxParsesSpec)) syntaxParsesCard

/-- THE TIED CARD OF 'ferretlaw10.SyntaxBrackets'. -/
def syntaxBracketsCard : Claim7 := { stood := { row := syntaxBracketsRow, standIns := [], harness := (true, "fcaa1da9f2e4a6f33b81844af7bfd7db49bf3c5e47a0c657c2e7d39896f4e800"), looks := true }, kinds := [], alts := [], laidByText := true, laidKinds := [.data, .data, .data, .sentinel, .sentinel, .data, .data], laidTests := true, laidLooks := .later }
def SyntaxBracketsCardSaid : Prop := Claim7.holds Tryz.pinned (.plain (OpenSpec.ofChange syntaxBracketsSpec)) syntaxBracketsCard

/-- THE TIED CARD OF 'ferretlaw10.SyntaxFlags'. -/
def syntaxFlagsCard : Claim7 := { stood := { row := syntaxFlagsRow, standIns := [], harness := (true, "fcaa1da9f2e4a6f33b81844af7bfd7db49bf3c5e47a0c657c2e7d39896f4e800"), looks := true }, kinds := [], alts := [], laidByText := true, laidKinds := [.data, .data, .data, .sentinel, .sentinel, .data, .data], laidTests := true, laidLooks := .later }
def SyntaxFlagsCardSaid : Prop := Claim7.holds Tryz.pinned (.plain (OpenSpec.ofChange syntaxFlagsSpec)) syntaxFlagsCard

/-- THE TIED CARD OF 'ferretlaw10.SyntaxTimes'. -/
def syntaxTimesCard : Claim7 := { stood := { row := syntaxTimesRow, standIns := [], harness := (true, "fcaa1da9f2e4a6f33b81844af7bfd7db49bf3c5e47a0c657c2e7d39896f4e800"), looks := true }, kinds := [], alts := [], laidByText := true, laidKinds := [.data, .data, .data, .sentinel, .sentinel, .data, .data], laidTests := true, laidLooks := .later }
def SyntaxTimesCardSaid : Prop := Claim7.holds Tryz.pinned (.plain (OpenSpec.ofChange syntaxTimesSpec)) syntaxTimesCard

/-- THE TIED CARD OF 'ferretlaw10.SyntaxEscapes'. -/
def syntaxEscapesCard : Claim7 := { stood := { row := syntaxEscapesRow, standIns := [], harness := (true, "fcaa1da9f2e4a6f33b81844af7bfd7db49bf3c5e47a0c657c2e7d39896f4e800"), looks := true }, kinds := [], alts := [], laidByText := true, laidKinds := [.data, .data, .data, .sentinel, .sentinel, .data, .data], laidTests := true, laidLooks := .later }
def SyntaxEscapesCardSaid : Prop := Claim7.holds Tryz.pinned (.plain (OpenSpec.ofChange syntaxEscapesSpec)) syntaxEscapesCard

/-- THE TIED CARD OF 'ferretlaw10.SyntaxGroups'. -/
def syntaxGroupsCard : Claim7 := { stood := { row := syntaxGroupsRow, standIns := [], harness := (true, "fcaa1da9f2e4a6f33b81844af7bfd7db49bf3c5e47a0c657c2e7d39896f4e800"), looks := true }, kinds := [], alts := [], laidByText := true, laidKinds := [.data, .data, .data, .sentinel, .sentinel, .data, .data], laidTests := true, laidLooks := .later }
def SyntaxGroupsCardSaid : Prop := Claim7.holds Tryz.pinned (.plain (OpenSpec.ofChange syntaxGroupsSpec)) syntaxGroupsCard

/-- THE TIED CARD OF 'ferretlaw10.SyntaxRanges'. -/
def syntaxRangesCard : Claim7 := { stood := { row := syntaxRangesRow, standIns := [], harness := (true, "fcaa1da9f2e4a6f33b81844af7bfd7db49bf3c5e47a0c657c2e7d39896f4e800"), looks := true }, kinds := [], alts := [], laidByText := true, laidKinds := [.data, .data, .data, .sentinel, .sentinel, .data, .data], laidTests := true, laidLooks := .later }
def SyntaxRangesCardSaid : Prop := Claim7.holds Tryz.pinned (.plain (OpenSpec.ofChange syntaxRangesSpec)) syntaxRangesCard

/-- THE TIED CARD OF 'ferrettop.TopClasses'. -/
def topClassesCard : Claim7 := { stood := { row := topClassesRow, standIns := [], harness := (true, "fcaa1da9f2e4a6f33b81844af7bfd7db49bf3c5e47a0c657c2e7d39896f4e800"), looks := true }, kinds := [], alts := [], laidByText := true, laidKinds := [.data, .data, .data, .sentinel, .sentinel, .data, .data], laidTests := true, laidLooks := .later }
def TopClassesCardSaid : Prop := Claim7.holds Tryz.pinned (.plain (OpenSpec.ofChange topClassesSpec)) topClassesCard

/-- THE SECOND FORM's CARD OF 'ferretlaw10.SyntaxParses'. -/
def syntaxParsesUptoCard : Claim7 := { stood := { row := syntaxParsesUptoRow, standIns := [], harness := (true, "fcaa1da9f2e4a6f33b81844af7bfd7db49bf3c5e47a0c657c2e7d39896f4e800"), looks := true }, kinds := [], alts := [], laidByText := true, laidKinds := [.data, .data, .data, .sentinel, .sentinel, .data, .data], laidTests := true, laidLooks := .later }
def SyntaxParsesUptoCardSaid : Prop := Claim7.holds Tryz.pinned (.plain (OpenSpec.upto syntaxParsesSpec)) syntaxParsesUptoCard

/-- THE SECOND FORM's CARD OF 'ferretlaw10.SyntaxBrackets'. -/
def syntaxBracketsUptoCard : Claim7 := { stood := { row := syntaxBracketsUptoRow, standIns := [], harness := (true, "fcaa1da9f2e4a6f33b81844af7bfd7db49bf3c5e47a0c657c2e7d39896f4e800"), looks := true }, kinds := [], alts := [], laidByText := true, laidKinds := [.data, .data, .data, .sentinel, .sentinel, .data, .data], laidTests := true, laidLooks := .later }
def SyntaxBracketsUptoCardSaid : Prop := Claim7.holds Tryz.pinned (.plain (OpenSpec.upto syntaxBracketsSpec)) syntaxBracketsUptoCard

/-- THE SECOND FORM's CARD OF 'ferretlaw10.SyntaxFlags'. -/
def syntaxFlagsUptoCard : Claim7 := { stood := { row := syntaxFlagsUptoRow, standIns := [], harness := (true, "fcaa1da9f2e4a6f33b81844af7bfd7db49bf3c5e47a0c657c2e7d39896f4e800"), looks := true }, kinds := [], alts := [], laidByText := true, laidKinds := [.data, .data, .data, .sentinel, .sentinel, .data, .data], laidTests := true, laidLooks := .later }
def SyntaxFlagsUptoCardSaid : Prop := Claim7.holds Tryz.pinned (.plain (OpenSpec.upto syntaxFlagsSpec)) syntaxFlagsUptoCard

/-- THE SECOND FORM's CARD OF 'ferretlaw10.SyntaxTimes'. -/
def syntaxTimesUptoCard : Claim7 := { stood := { row := syntaxTimesUptoRow, standIns := [], harness := (true, "fcaa1da9f2e4a6f33b81844af7bfd7db49bf3c5e47a0c657c2e7d39896f4e800"), looks := true }, kinds := [], alts := [], laidByText := true, laidKinds := [.data, .data, .data, .sentinel, .sentinel, .data, .data], laidTests := true, laidLooks := .later }
def SyntaxTimesUptoCardSaid : Prop := Claim7.holds Tryz.pinned (.plain (OpenSpec.upto syntaxTimesSpec)) syntaxTimesUptoCard

/-- THE SECOND FORM's CARD OF 'ferretlaw10.SyntaxEscapes'. -/
def syntaxEscapesUptoCard : Claim7 := { stood := { row := syntaxEscapesUptoRow, standIns := [], harness := (true, "fcaa1da9f2e4a6f33b81844af7bfd7db49bf3c5e47a0c657c2e7d39896f4e800"), looks := true }, kinds := [], alts := [], laidByText := true, laidKinds := [.data, .data, .data, .sentinel, .sentinel, .data, .data], laidTests := true, laidLooks := .later }
def SyntaxEscapesUptoCardSaid : Prop := Claim7.holds Tryz.pinned (.plain (OpenSpec.upto syntaxEscapesSpec)) syntaxEscapesUptoCard

/-- THE SECOND FORM's CARD OF 'ferretlaw10.SyntaxGroups'. -/
def syntaxGroupsUptoCard : Claim7 := { stood := { row := syntaxGroupsUptoRow, standIns := [], harness := (true, "fcaa1da9f2e4a6f33b81844af7bfd7db49bf3c5e47a0c657c2e7d39896f4e800"), looks := true }, kinds := [], alts := [], laidByText := true, laidKinds := [.data, .data, .data, .sentinel, .sentinel, .data, .data], laidTests := true, laidLooks := .later }
def SyntaxGroupsUptoCardSaid : Prop := Claim7.holds Tryz.pinned (.plain (OpenSpec.upto syntaxGroupsSpec)) syntaxGroupsUptoCard

/-- THE SECOND FORM's CARD OF 'ferretlaw10.SyntaxRanges'. -/
def syntaxRangesUptoCard : Claim7 := { stood := { row := syntaxRangesUptoRow, standIns := [], harness := (true, "fcaa1da9f2e4a6f33b81844af7bfd7db49bf3c5e47a0c657c2e7d39896f4e800"), looks := true }, kinds := [], alts := [], laidByText := true, laidKinds := [.data, .data, .data, .sentinel, .sentinel, .data, .data], laidTests := true, laidLooks := .later }
def SyntaxRangesUptoCardSaid : Prop := Claim7.holds Tryz.pinned (.plain (OpenSpec.upto syntaxRangesSpec)) syntaxRangesUptoCard

/-- THE SECOND FORM's CARD OF 'ferrettop.TopClasses'. -/
def topClassesUptoCard : Claim7 := { stood := { row := topClassesUptoRow, standIns := [], harness := (true, "fcaa1da9f2e4a6f33b81844af7bfd7db49bf3c5e47a0c657c2e7d39896f4e800"), looks := true }, kinds := [], alts := [], laidByText := true, laidKinds := [.data, .data, .data, .sentinel, .sentinel, .data, .data], laidTests := true, laidLooks := .later }
def TopClassesUptoCardSaid : Prop := Claim7.holds Tryz.pinned (.plain (OpenSpec.upto topClassesSpec)) topClassesUptoCard
end Rows
end Go.Proofs.YtdhhcefmmojcmaaGreatDoor
