/-
  NARROWER THAN 'FOR EVERY INPUT', by the rows' own cells (each row's printed sentence says how): UcdOrbits: laid · UcdPairs: laid · UcdParts: laid · UcdTurned: laid · UcdClasses: laid · UcdCloses: laid.
  DERIVED. THE GIVEN ROWS OF THIS SEAT. 6 by the template 'for every input the law returns true; each argument reads behind the call as it read before'; 0 by the template 'total and deterministic' (their statements: YtnngemdpoemhgaaDoorTotals.lean).
  GIVEN WITH THE SEED: the statements are not yours to turn. If you find one false, say at which input.
  Laid BY PROGRAM, IN A SANDBOX (cutbox-rows.mjs): the forced cells as the released guide's own fill.sh prints them over the translation b5f0169339d4cfc4… (all of the seat's roots in one cut). By AI agents, Wed Nov 11 2026. No macro, syntax, notation, axiom, sorry.
-/
import Derived.Test.YtnngemdpoemhgaaDoorChecked
import GoSem.Claim
import GoSem.ClaimJoined
import GoSem.ClaimMapViews
import Derived.JoinedTies
import Derived.KernelRfl
namespace Go.Proofs.YtnngemdpoemhgaaDoor
/- THE CELL 'sum', in the pinned program and in every row, IS THE sha256 OF THE DUMP (.gsa) THAT YtnngemdpoemhgaaDoorProg.lean LOADS. Nothing in Lean hashes anything: it is a label: what it is worth is what the hold of that sum in a sandbox is worth. -/
noncomputable def Tryd.pinned : Pinned := { name := "ytnngemdpoemhgaadoor", sum := "b5f0169339d4cfc445bc66ef75689079bf93d21b33db84bf3fea8672c79b2d01", checked := Tryd.checked }
namespace Rows
def none {H : Type} : Left H := { results := [], args := [] }

/- WHAT THE LISTED PACKAGE-LEVEL VARIABLES READ AS WHEN THE CALL BEGINS. Each datum BY PROGRAM (the guide's laid-datum.mjs) off the statement by which the dump's own 'gosem.cut.vars' lays the variable. In a bare row this is a premise. The card (YtnngemdpoemhgaaDoorCards.lean) ties it to the program's text. -/
def laid_ferret_ucd_allPairs {H : Type} : DataW H := .agg [.agg [.lit (.int .i64 65), .lit (.int .i64 90), .lit (.int .i64 32)], .agg [.lit (.int .i64 192), .lit (.int .i64 214), .lit (.int .i64 32)], .agg [.lit (.int .i64 216), .lit (.int .i64 222), .lit (.int .i64 32)], .agg [.lit (.int .i64 913), .lit (.int .i64 929), .lit (.int .i64 32)], .agg [.lit (.int .i64 931), .lit (.int .i64 937), .lit (.int .i64 32)], .agg [.lit (.int .i64 1040), .lit (.int .i64 1071), .lit (.int .i64 32)], .agg [.lit (.int .i64 66560), .lit (.int .i64 66599), .lit (.int .i64 40)]]
def laid_ferret_ucd_thirds {H : Type} : DataW H := .agg [.agg [.lit (.int .i64 8490), .lit (.int .i64 75)], .agg [.lit (.int .i64 383), .lit (.int .i64 83)], .agg [.lit (.int .i64 8491), .lit (.int .i64 197)], .agg [.lit (.int .i64 181), .lit (.int .i64 924)], .agg [.lit (.int .i64 962), .lit (.int .i64 931)]]

/-- 'ferretlaw09.UcdOrbits': WHATEVER THE INPUT: true; the input reads as it did. -/
def ucdOrbitsSpec : ChangeSpec := { name := "ucdOrbits", fn := fun _ => fun
  | [d] => { results := [.lit (.bool true)], args := [d] }
  | _ => none }
def ucdOrbitsRow : OpenClaim := { program := "ytnngemdpoemhgaadoor", sum := "b5f0169339d4cfc445bc66ef75689079bf93d21b33db84bf3fea8672c79b2d01", func := "ferret/ferretlaw09.UcdOrbits", spec := "ucdOrbits", recurses := true, named := ["ferret/ucd.allPairs", "ferret/ucd.thirds"], apart := false, laid := [("ferret/ucd.allPairs", laid_ferret_ucd_allPairs), ("ferret/ucd.thirds", laid_ferret_ucd_thirds)] }
def UcdOrbitsSaid : Prop := ucdOrbitsRow.holds Tryd.pinned (OpenSpec.ofChange ucdOrbitsSpec)

/-- ITS FALSE NEIGHBOUR: 'it returns false'. Refute it at one input. -/
def ucdOrbitsWrong : ChangeSpec := { name := "ucdOrbits", fn := fun _ => fun
  | [d] => { results := [.lit (.bool false)], args := [d] }
  | _ => none }
def UcdOrbitsWrongFalsely : Prop := ucdOrbitsRow.holds Tryd.pinned (OpenSpec.ofChange ucdOrbitsWrong)

/-- 'ferretlaw09.UcdPairs': WHATEVER THE INPUT: true; the input reads as it did. -/
def ucdPairsSpec : ChangeSpec := { name := "ucdPairs", fn := fun _ => fun
  | [d] => { results := [.lit (.bool true)], args := [d] }
  | _ => none }
def ucdPairsRow : OpenClaim := { program := "ytnngemdpoemhgaadoor", sum := "b5f0169339d4cfc445bc66ef75689079bf93d21b33db84bf3fea8672c79b2d01", func := "ferret/ferretlaw09.UcdPairs", spec := "ucdPairs", unfollowed := true, recurses := true, named := ["ferret/ucd.allPairs", "ferret/ucd.thirds"], apart := false, laid := [("ferret/ucd.allPairs", laid_ferret_ucd_allPairs), ("ferret/ucd.thirds", laid_ferret_ucd_thirds)] }
def UcdPairsSaid : Prop := ucdPairsRow.holds Tryd.pinned (OpenSpec.ofChange ucdPairsSpec)

/-- ITS FALSE NEIGHBOUR: 'it returns false'. Refute it at one input. -/
def ucdPairsWrong : ChangeSpec := { name := "ucdPairs", fn := fun _ => fun
  | [d] => { results := [.lit (.bool false)], args := [d] }
  | _ => none }
def UcdPairsWrongFalsely : Prop := ucdPairsRow.holds Tryd.pinned (OpenSpec.ofChange ucdPairsWrong)

/-- 'ferretlaw09.UcdParts': WHATEVER THE INPUT: true; the input reads as it did. -/
def ucdPartsSpec : ChangeSpec := { name := "ucdParts", fn := fun _ => fun
  | [d] => { results := [.lit (.bool true)], args := [d] }
  | _ => none }
def ucdPartsRow : OpenClaim := { program := "ytnngemdpoemhgaadoor", sum := "b5f0169339d4cfc445bc66ef75689079bf93d21b33db84bf3fea8672c79b2d01", func := "ferret/ferretlaw09.UcdParts", spec := "ucdParts", unfollowed := true, recurses := true, named := ["ferret/ucd.allPairs", "ferret/ucd.thirds"], apart := false, laid := [("ferret/ucd.allPairs", laid_ferret_ucd_allPairs), ("ferret/ucd.thirds", laid_ferret_ucd_thirds)] }
def UcdPartsSaid : Prop := ucdPartsRow.holds Tryd.pinned (OpenSpec.ofChange ucdPartsSpec)

/-- ITS FALSE NEIGHBOUR: 'it returns false'. Refute it at one input. -/
def ucdPartsWrong : ChangeSpec := { name := "ucdParts", fn := fun _ => fun
  | [d] => { results := [.lit (.bool false)], args := [d] }
  | _ => none }
def UcdPartsWrongFalsely : Prop := ucdPartsRow.holds Tryd.pinned (OpenSpec.ofChange ucdPartsWrong)

/-- 'ferretlaw09.UcdTurned': WHATEVER THE INPUT: true; the input reads as it did. -/
def ucdTurnedSpec : ChangeSpec := { name := "ucdTurned", fn := fun _ => fun
  | [d] => { results := [.lit (.bool true)], args := [d] }
  | _ => none }
def ucdTurnedRow : OpenClaim := { program := "ytnngemdpoemhgaadoor", sum := "b5f0169339d4cfc445bc66ef75689079bf93d21b33db84bf3fea8672c79b2d01", func := "ferret/ferretlaw09.UcdTurned", spec := "ucdTurned", unfollowed := true, recurses := true, named := ["ferret/ucd.allPairs", "ferret/ucd.thirds"], apart := false, laid := [("ferret/ucd.allPairs", laid_ferret_ucd_allPairs), ("ferret/ucd.thirds", laid_ferret_ucd_thirds)] }
def UcdTurnedSaid : Prop := ucdTurnedRow.holds Tryd.pinned (OpenSpec.ofChange ucdTurnedSpec)

/-- ITS FALSE NEIGHBOUR: 'it returns false'. Refute it at one input. -/
def ucdTurnedWrong : ChangeSpec := { name := "ucdTurned", fn := fun _ => fun
  | [d] => { results := [.lit (.bool false)], args := [d] }
  | _ => none }
def UcdTurnedWrongFalsely : Prop := ucdTurnedRow.holds Tryd.pinned (OpenSpec.ofChange ucdTurnedWrong)

/-- 'ferretlaw09.UcdClasses': WHATEVER THE INPUT: true; the input reads as it did. -/
def ucdClassesSpec : ChangeSpec := { name := "ucdClasses", fn := fun _ => fun
  | [d1, d2, d3] => { results := [.lit (.bool true)], args := [d1, d2, d3] }
  | _ => none }
def ucdClassesRow : OpenClaim := { program := "ytnngemdpoemhgaadoor", sum := "b5f0169339d4cfc445bc66ef75689079bf93d21b33db84bf3fea8672c79b2d01", func := "ferret/ferretlaw09.UcdClasses", spec := "ucdClasses", unfollowed := true, recurses := true, named := ["ferret/ucd.allPairs", "ferret/ucd.thirds"], apart := false, laid := [("ferret/ucd.allPairs", laid_ferret_ucd_allPairs), ("ferret/ucd.thirds", laid_ferret_ucd_thirds)] }
def UcdClassesSaid : Prop := ucdClassesRow.holds Tryd.pinned (OpenSpec.ofChange ucdClassesSpec)

/-- ITS FALSE NEIGHBOUR: 'it returns false'. Refute it at one input. -/
def ucdClassesWrong : ChangeSpec := { name := "ucdClasses", fn := fun _ => fun
  | [d1, d2, d3] => { results := [.lit (.bool false)], args := [d1, d2, d3] }
  | _ => none }
def UcdClassesWrongFalsely : Prop := ucdClassesRow.holds Tryd.pinned (OpenSpec.ofChange ucdClassesWrong)

/-- 'ferretlaw09.UcdCloses': WHATEVER THE INPUT: true; the input reads as it did. -/
def ucdClosesSpec : ChangeSpec := { name := "ucdCloses", fn := fun _ => fun
  | [d1, d2] => { results := [.lit (.bool true)], args := [d1, d2] }
  | _ => none }
def ucdClosesRow : OpenClaim := { program := "ytnngemdpoemhgaadoor", sum := "b5f0169339d4cfc445bc66ef75689079bf93d21b33db84bf3fea8672c79b2d01", func := "ferret/ferretlaw09.UcdCloses", spec := "ucdCloses", unfollowed := true, recurses := true, named := ["ferret/ucd.allPairs", "ferret/ucd.thirds"], apart := false, laid := [("ferret/ucd.allPairs", laid_ferret_ucd_allPairs), ("ferret/ucd.thirds", laid_ferret_ucd_thirds)] }
def UcdClosesSaid : Prop := ucdClosesRow.holds Tryd.pinned (OpenSpec.ofChange ucdClosesSpec)

/-- ITS FALSE NEIGHBOUR: 'it returns false'. Refute it at one input. -/
def ucdClosesWrong : ChangeSpec := { name := "ucdCloses", fn := fun _ => fun
  | [d1, d2] => { results := [.lit (.bool false)], args := [d1, d2] }
  | _ => none }
def UcdClosesWrongFalsely : Prop := ucdClosesRow.holds Tryd.pinned (OpenSpec.ofChange ucdClosesWrong)

/- THE SECOND FORM. 'bulk': how many values and letters a reading holds, each counted each time it is reached (what is shared counts as often as it is met; a slice's spare places count too). A statement '..UptoSaid' is the law's where the arguments, and the package variables that the reading takes, are together of bulk at most 1048576: NARROWER than '..Said'. Prove '..Said' where nothing that the law and all that it calls make is longer than what came in: it says more and counts as full. Else prove '..UptoSaid'. A law counts once. -/
mutual
def uptoBulk {H : Type} : DataW H → Nat
  | .lit (.string bytes) => bytes.length + 1
  | .lit _ => 1
  | .nil => 1
  | .ptr d => uptoBulk d + 1
  | .slice elems spare => uptoBulkAll elems + uptoBulkAll spare + 1
  | .agg parts => uptoBulkAll parts + 1
  | .iface _ d => uptoBulk d + 1
  | .map entries => uptoBulkEntries entries + 1
  | .held _ => 1
def uptoBulkAll {H : Type} : List (DataW H) → Nat
  | [] => 0
  | d :: r => uptoBulk d + uptoBulkAll r
def uptoBulkEntries {H : Type} : List (Lit × DataW H) → Nat
  | [] => 0
  | x :: r => uptoBulkEntry x + uptoBulkEntries r
def uptoBulkEntry {H : Type} : Lit × DataW H → Nat
  | (.string bytes, d) => bytes.length + uptoBulk d + 1
  | (_, d) => uptoBulk d + 1
 end
def uptoSmall : (H : Type) → List (DataW H) → Bool := fun _ ds => decide (uptoBulkAll ds ≤ 1048576)
def OpenSpec.upto (s : _root_.Go.ChangeSpec) : _root_.Go.OpenSpec := { _root_.Go.OpenSpec.ofChange s with cond := some uptoSmall }

/-- 'ferretlaw09.UcdOrbits', WHERE WHAT IT READS IS OF BULK AT MOST 1048576: true; the input reads as it did. -/
def ucdOrbitsUptoRow : OpenClaim := { program := "ytnngemdpoemhgaadoor", sum := "b5f0169339d4cfc445bc66ef75689079bf93d21b33db84bf3fea8672c79b2d01", func := "ferret/ferretlaw09.UcdOrbits", spec := "ucdOrbits", recurses := true, named := ["ferret/ucd.allPairs", "ferret/ucd.thirds"], apart := false, laid := [("ferret/ucd.allPairs", laid_ferret_ucd_allPairs), ("ferret/ucd.thirds", laid_ferret_ucd_thirds)], narrowed := true }
def UcdOrbitsUptoSaid : Prop := ucdOrbitsUptoRow.holds Tryd.pinned (OpenSpec.upto ucdOrbitsSpec)

/-- 'ferretlaw09.UcdPairs', WHERE WHAT IT READS IS OF BULK AT MOST 1048576: true; the input reads as it did. -/
def ucdPairsUptoRow : OpenClaim := { program := "ytnngemdpoemhgaadoor", sum := "b5f0169339d4cfc445bc66ef75689079bf93d21b33db84bf3fea8672c79b2d01", func := "ferret/ferretlaw09.UcdPairs", spec := "ucdPairs", unfollowed := true, recurses := true, named := ["ferret/ucd.allPairs", "ferret/ucd.thirds"], apart := false, laid := [("ferret/ucd.allPairs", laid_ferret_ucd_allPairs), ("ferret/ucd.thirds", laid_ferret_ucd_thirds)], narrowed := true }
def UcdPairsUptoSaid : Prop := ucdPairsUptoRow.holds Tryd.pinned (OpenSpec.upto ucdPairsSpec)

/-- 'ferretlaw09.UcdParts', WHERE WHAT IT READS IS OF BULK AT MOST 1048576: true; the input reads as it did. -/
def ucdPartsUptoRow : OpenClaim := { program := "ytnngemdpoemhgaadoor", sum := "b5f0169339d4cfc445bc66ef75689079bf93d21b33db84bf3fea8672c79b2d01", func := "ferret/ferretlaw09.UcdParts", spec := "ucdParts", unfollowed := true, recurses := true, named := ["ferret/ucd.allPairs", "ferret/ucd.thirds"], apart := false, laid := [("ferret/ucd.allPairs", laid_ferret_ucd_allPairs), ("ferret/ucd.thirds", laid_ferret_ucd_thirds)], narrowed := true }
def UcdPartsUptoSaid : Prop := ucdPartsUptoRow.holds Tryd.pinned (OpenSpec.upto ucdPartsSpec)

/-- 'ferretlaw09.UcdTurned', WHERE WHAT IT READS IS OF BULK AT MOST 1048576: true; the input reads as it did. -/
def ucdTurnedUptoRow : OpenClaim := { program := "ytnngemdpoemhgaadoor", sum := "b5f0169339d4cfc445bc66ef75689079bf93d21b33db84bf3fea8672c79b2d01", func := "ferret/ferretlaw09.UcdTurned", spec := "ucdTurned", unfollowed := true, recurses := true, named := ["ferret/ucd.allPairs", "ferret/ucd.thirds"], apart := false, laid := [("ferret/ucd.allPairs", laid_ferret_ucd_allPairs), ("ferret/ucd.thirds", laid_ferret_ucd_thirds)], narrowed := true }
def UcdTurnedUptoSaid : Prop := ucdTurnedUptoRow.holds Tryd.pinned (OpenSpec.upto ucdTurnedSpec)

/-- 'ferretlaw09.UcdClasses', WHERE WHAT IT READS IS OF BULK AT MOST 1048576: true; the input reads as it did. -/
def ucdClassesUptoRow : OpenClaim := { program := "ytnngemdpoemhgaadoor", sum := "b5f0169339d4cfc445bc66ef75689079bf93d21b33db84bf3fea8672c79b2d01", func := "ferret/ferretlaw09.UcdClasses", spec := "ucdClasses", unfollowed := true, recurses := true, named := ["ferret/ucd.allPairs", "ferret/ucd.thirds"], apart := false, laid := [("ferret/ucd.allPairs", laid_ferret_ucd_allPairs), ("ferret/ucd.thirds", laid_ferret_ucd_thirds)], narrowed := true }
def UcdClassesUptoSaid : Prop := ucdClassesUptoRow.holds Tryd.pinned (OpenSpec.upto ucdClassesSpec)

/-- 'ferretlaw09.UcdCloses', WHERE WHAT IT READS IS OF BULK AT MOST 1048576: true; the input reads as it did. -/
def ucdClosesUptoRow : OpenClaim := { program := "ytnngemdpoemhgaadoor", sum := "b5f0169339d4cfc445bc66ef75689079bf93d21b33db84bf3fea8672c79b2d01", func := "ferret/ferretlaw09.UcdCloses", spec := "ucdCloses", unfollowed := true, recurses := true, named := ["ferret/ucd.allPairs", "ferret/ucd.thirds"], apart := false, laid := [("ferret/ucd.allPairs", laid_ferret_ucd_allPairs), ("ferret/ucd.thirds", laid_ferret_ucd_thirds)], narrowed := true }
def UcdClosesUptoSaid : Prop := ucdClosesUptoRow.holds Tryd.pinned (OpenSpec.upto ucdClosesSpec)

end Rows
end Go.Proofs.YtnngemdpoemhgaaDoor
