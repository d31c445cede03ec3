/-
  DERIVED. GIVEN WITH THE SEED: THE CARDS: each row of YtnohikoeaepfpaaDoorRows.lean that lists a variable, with what it lists TIED to the program's text (the seventh form; the later family's looks); each row that meets fmt, with fmt's text TOLD by the authors' own Lean function (tested against real Go, not proved from fmt's source: count such statements apart). THE CARD IS WHAT COUNTS. Prove the row's statement (the work); the ties are given (YtnohikoeaepfpaaDoorTie.lean); close each card by the builder's one call (the guide's Derived/Test/ToyasCard.lean, 'card_holds'). Laid BY PROGRAM, IN A SANDBOX (cutbox-door.mjs). By AI agents, Wed Nov 11 2026. No macro, syntax, notation, axiom, sorry.
-/
import Derived.Test.YtnohikoeaepfpaaDoorRows
import GoSem.ClaimSeven
namespace Go.Proofs.YtnohikoeaepfpaaDoor
namespace Rows

/-- THE TIED CARD OF 'ferretlaw21.TemplPlain'. -/
def templPlainCard : Claim7 := { stood := { row := templPlainRow, standIns := [], harness := (true, "53b6da45bd332377f52ffcf0492570a5b04d895b50bc6fde6649d54b571f0d61"), looks := true }, kinds := [], alts := [], laidByText := true, laidKinds := [.data, .data, .data, .sentinel, .sentinel], laidTests := true, laidLooks := .later }
def TemplPlainCardSaid : Prop := Claim7.holds Tryd.pinned (.plain (OpenSpec.ofChange templPlainSpec)) templPlainCard

/-- THE TIED CARD OF 'ferretlaw21.TemplNumbers'. -/
def templNumbersCard : Claim7 := { stood := { row := templNumbersRow, standIns := [], harness := (true, "53b6da45bd332377f52ffcf0492570a5b04d895b50bc6fde6649d54b571f0d61"), looks := true }, kinds := [], alts := [], laidByText := true, laidKinds := [.data, .data, .data, .sentinel, .sentinel], laidTests := true, laidLooks := .later }
def TemplNumbersCardSaid : Prop := Claim7.holds Tryd.pinned (.plain (OpenSpec.ofChange templNumbersSpec)) templNumbersCard

/-- THE TIED CARD OF 'ferretlaw21.TemplParses'. -/
def templParsesCard : Claim7 := { stood := { row := templParsesRow, standIns := [], harness := (true, "53b6da45bd332377f52ffcf0492570a5b04d895b50bc6fde6649d54b571f0d61"), looks := true }, kinds := [], alts := [], laidByText := true, laidKinds := [.data, .data, .data, .sentinel, .sentinel], laidTests := true, laidLooks := .later }
def TemplParsesCardSaid : Prop := Claim7.holds Tryd.pinned (.plain (OpenSpec.ofChange templParsesSpec)) templParsesCard

/-- THE SECOND FORM's CARD OF 'ferretlaw21.TemplPlain'. -/
def templPlainUptoCard : Claim7 := { stood := { row := templPlainUptoRow, standIns := [], harness := (true, "53b6da45bd332377f52ffcf0492570a5b04d895b50bc6fde6649d54b571f0d61"), looks := true }, kinds := [], alts := [], laidByText := true, laidKinds := [.data, .data, .data, .sentinel, .sentinel], laidTests := true, laidLooks := .later }
def TemplPlainUptoCardSaid : Prop := Claim7.holds Tryd.pinned (.plain (OpenSpec.upto templPlainSpec)) templPlainUptoCard

/-- THE SECOND FORM's CARD OF 'ferretlaw21.TemplNumbers'. -/
def templNumbersUptoCard : Claim7 := { stood := { row := templNumbersUptoRow, standIns := [], harness := (true, "53b6da45bd332377f52ffcf0492570a5b04d895b50bc6fde6649d54b571f0d61"), looks := true }, kinds := [], alts := [], laidByText := true, laidKinds := [.data, .data, .data, .sentinel, .sentinel], laidTests := true, laidLooks := .later }
def TemplNumbersUptoCardSaid : Prop := Claim7.holds Tryd.pinned (.plain (OpenSpec.upto templNumbersSpec)) templNumbersUptoCard

/-- THE SECOND FORM's CARD OF 'ferretlaw21.TemplParses'. -/
def templParsesUptoCard : Claim7 := { stood := { row := templParsesUptoRow, standIns := [], harness := (true, "53b6da45bd332377f52ffcf0492570a5b04d895b50bc6fde6649d54b571f0d61"), looks := true }, kinds := [], alts := [], laidByText := true, laidKinds := [.data, .data, .data, .sentinel, .sentinel], laidTests := true, laidLooks := .later }
def TemplParsesUptoCardSaid : Prop := Claim7.holds Tryd.pinned (.plain (OpenSpec.upto templParsesSpec)) templParsesUptoCard
end Rows
end Go.Proofs.YtnohikoeaepfpaaDoor
