/-
  NARROWER THAN 'FOR EVERY INPUT', by the rows' own cells (each row's printed sentence says how): GzMagic: laid · GzBounds: laid · GzTurned: laid.
  DERIVED. THE GIVEN ROWS OF THIS SEAT. 3 by the template 'for every input the law returns true; each argument reads behind the call as it read before'; 0 by the template 'total and deterministic' (their statements: YtffjkceedbblgaaGreatDoorTotals.lean).
  GIVEN WITH THE SEED: the statements are not yours to turn. If you find one false, say at which input.
  Laid BY PROGRAM, IN A SANDBOX (cutbox-rows.mjs): the forced cells as the released guide's own fill.sh prints them over the translation e5c8af2a6a40969c… (all of the seat's roots in one cut). By AI agents, Wed Nov 11 2026. No macro, syntax, notation, axiom, sorry.
-/
import Derived.Test.YtffjkceedbblgaaGreatDoorChecked
import GoSem.Claim
import GoSem.ClaimJoined
import GoSem.ClaimMapViews
import Derived.JoinedTies
import Derived.KernelRfl
namespace Go.Proofs.YtffjkceedbblgaaGreatDoor
/- THE CELL 'sum', in the pinned program and in every row, IS THE sha256 OF THE DUMP (.gsa) THAT YtffjkceedbblgaaGreatDoorProg.lean LOADS. Nothing in Lean hashes anything: it is a label: what it is worth is what the hold of that sum in a sandbox is worth. -/
noncomputable def Tryz.pinned : Pinned := { name := "ytffjkceedbblgaagreatdoor", sum := "e5c8af2a6a40969c7be5a59210aa180cb55b48edb2a0fe6821416ca9c1489269", checked := Tryz.checked }
namespace Rows
def none {H : Type} : Left H := { results := [], args := [] }

/- WHAT THE LISTED PACKAGE-LEVEL VARIABLES READ AS WHEN THE CALL BEGINS. Each datum BY PROGRAM (the guide's laid-datum.mjs) off the statement by which the dump's own 'gosem.cut.vars' lays the variable. In a bare row this is a premise. The card (YtffjkceedbblgaaGreatDoorCards.lean) ties it to the program's text. -/
def laid_ferret_gz_quarters {H : Type} : DataW H := .agg [.lit (.int .u32 0), .lit (.int .u32 498536548), .lit (.int .u32 997073096), .lit (.int .u32 651767980), .lit (.int .u32 1994146192), .lit (.int .u32 1802195444), .lit (.int .u32 1303535960), .lit (.int .u32 1342533948), .lit (.int .u32 3988292384), .lit (.int .u32 4027552580), .lit (.int .u32 3604390888), .lit (.int .u32 3412177804), .lit (.int .u32 2607071920), .lit (.int .u32 2262029012), .lit (.int .u32 2685067896), .lit (.int .u32 3183342108)]

/-- 'ferretlaw05.GzMagic': WHATEVER THE INPUT: true; the input reads as it did. -/
def gzMagicSpec : ChangeSpec := { name := "gzMagic", fn := fun _ => fun
  | [d] => { results := [.lit (.bool true)], args := [d] }
  | _ => none }
def gzMagicRow : OpenClaim := { program := "ytffjkceedbblgaagreatdoor", sum := "e5c8af2a6a40969c7be5a59210aa180cb55b48edb2a0fe6821416ca9c1489269", func := "ferret/ferretlaw05.GzMagic", spec := "gzMagic", inPlace := ["internal/bytealg.IndexByteString", "internal/abi.NoEscape"], unfollowed := true, recurses := true, named := ["ferret/gz.quarters"], apart := false, laid := [("ferret/gz.quarters", laid_ferret_gz_quarters)] }
def GzMagicSaid : Prop := gzMagicRow.holds Tryz.pinned (OpenSpec.ofChange gzMagicSpec)

/-- ITS FALSE NEIGHBOUR: 'it returns false'. Refute it at one input. -/
def gzMagicWrong : ChangeSpec := { name := "gzMagic", fn := fun _ => fun
  | [d] => { results := [.lit (.bool false)], args := [d] }
  | _ => none }
def GzMagicWrongFalsely : Prop := gzMagicRow.holds Tryz.pinned (OpenSpec.ofChange gzMagicWrong)

/-- 'ferretlaw05.GzBounds': WHATEVER THE INPUT: true; the input reads as it did. -/
def gzBoundsSpec : ChangeSpec := { name := "gzBounds", fn := fun _ => fun
  | [d] => { results := [.lit (.bool true)], args := [d] }
  | _ => none }
def gzBoundsRow : OpenClaim := { program := "ytffjkceedbblgaagreatdoor", sum := "e5c8af2a6a40969c7be5a59210aa180cb55b48edb2a0fe6821416ca9c1489269", func := "ferret/ferretlaw05.GzBounds", spec := "gzBounds", inPlace := ["internal/bytealg.IndexByteString", "internal/abi.NoEscape"], unfollowed := true, recurses := true, named := ["ferret/gz.quarters"], apart := false, laid := [("ferret/gz.quarters", laid_ferret_gz_quarters)] }
def GzBoundsSaid : Prop := gzBoundsRow.holds Tryz.pinned (OpenSpec.ofChange gzBoundsSpec)

/-- ITS FALSE NEIGHBOUR: 'it returns false'. Refute it at one input. -/
def gzBoundsWrong : ChangeSpec := { name := "gzBounds", fn := fun _ => fun
  | [d] => { results := [.lit (.bool false)], args := [d] }
  | _ => none }
def GzBoundsWrongFalsely : Prop := gzBoundsRow.holds Tryz.pinned (OpenSpec.ofChange gzBoundsWrong)

/-- 'ferretlaw05.GzTurned': WHATEVER THE INPUT: true; the input reads as it did. -/
def gzTurnedSpec : ChangeSpec := { name := "gzTurned", fn := fun _ => fun
  | [d1, d2] => { results := [.lit (.bool true)], args := [d1, d2] }
  | _ => none }
def gzTurnedRow : OpenClaim := { program := "ytffjkceedbblgaagreatdoor", sum := "e5c8af2a6a40969c7be5a59210aa180cb55b48edb2a0fe6821416ca9c1489269", func := "ferret/ferretlaw05.GzTurned", spec := "gzTurned", inPlace := ["internal/bytealg.IndexByteString", "internal/abi.NoEscape"], unfollowed := true, recurses := true, named := ["ferret/gz.quarters"], apart := false, laid := [("ferret/gz.quarters", laid_ferret_gz_quarters)] }
def GzTurnedSaid : Prop := gzTurnedRow.holds Tryz.pinned (OpenSpec.ofChange gzTurnedSpec)

/-- ITS FALSE NEIGHBOUR: 'it returns false'. Refute it at one input. -/
def gzTurnedWrong : ChangeSpec := { name := "gzTurned", fn := fun _ => fun
  | [d1, d2] => { results := [.lit (.bool false)], args := [d1, d2] }
  | _ => none }
def GzTurnedWrongFalsely : Prop := gzTurnedRow.holds Tryz.pinned (OpenSpec.ofChange gzTurnedWrong)

/- THE SECOND FORM. 'bulk': how many values and letters a reading holds, each counted each time it is reached (what is shared counts as often as it is met; a slice's spare places count too). A statement '..UptoSaid' is the law's where the arguments, and the package variables that the reading takes, are together of bulk at most 1048576: NARROWER than '..Said'. Prove '..Said' where nothing that the law and all that it calls make is longer than what came in: it says more and counts as full. Else prove '..UptoSaid'. A law counts once. -/
mutual
def uptoBulk {H : Type} : DataW H → Nat
  | .lit (.string bytes) => bytes.length + 1
  | .lit _ => 1
  | .nil => 1
  | .ptr d => uptoBulk d + 1
  | .slice elems spare => uptoBulkAll elems + uptoBulkAll spare + 1
  | .agg parts => uptoBulkAll parts + 1
  | .iface _ d => uptoBulk d + 1
  | .map entries => uptoBulkEntries entries + 1
  | .held _ => 1
def uptoBulkAll {H : Type} : List (DataW H) → Nat
  | [] => 0
  | d :: r => uptoBulk d + uptoBulkAll r
def uptoBulkEntries {H : Type} : List (Lit × DataW H) → Nat
  | [] => 0
  | x :: r => uptoBulkEntry x + uptoBulkEntries r
def uptoBulkEntry {H : Type} : Lit × DataW H → Nat
  | (.string bytes, d) => bytes.length + uptoBulk d + 1
  | (_, d) => uptoBulk d + 1
 end
def uptoSmall : (H : Type) → List (DataW H) → Bool := fun _ ds => decide (uptoBulkAll ds ≤ 1048576)
def OpenSpec.upto (s : _root_.Go.ChangeSpec) : _root_.Go.OpenSpec := { _root_.Go.OpenSpec.ofChange s with cond := some uptoSmall }

/-- 'ferretlaw05.GzMagic', WHERE WHAT IT READS IS OF BULK AT MOST 1048576: true; the input reads as it did. -/
def gzMagicUptoRow : OpenClaim := { program := "ytffjkceedbblgaagreatdoor", sum := "e5c8af2a6a40969c7be5a59210aa180cb55b48edb2a0fe6821416ca9c1489269", func := "ferret/ferretlaw05.GzMagic", spec := "gzMagic", inPlace := ["internal/bytealg.IndexByteString", "internal/abi.NoEscape"], unfollowed := true, recurses := true, named := ["ferret/gz.quarters"], apart := false, laid := [("ferret/gz.quarters", laid_ferret_gz_quarters)], narrowed := true }
def GzMagicUptoSaid : Prop := gzMagicUptoRow.holds Tryz.pinned (OpenSpec.upto gzMagicSpec)

/-- 'ferretlaw05.GzBounds', WHERE WHAT IT READS IS OF BULK AT MOST 1048576: true; the input reads as it did. -/
def gzBoundsUptoRow : OpenClaim := { program := "ytffjkceedbblgaagreatdoor", sum := "e5c8af2a6a40969c7be5a59210aa180cb55b48edb2a0fe6821416ca9c1489269", func := "ferret/ferretlaw05.GzBounds", spec := "gzBounds", inPlace := ["internal/bytealg.IndexByteString", "internal/abi.NoEscape"], unfollowed := true, recurses := true, named := ["ferret/gz.quarters"], apart := false, laid := [("ferret/gz.quarters", laid_ferret_gz_quarters)], narrowed := true }
def GzBoundsUptoSaid : Prop := gzBoundsUptoRow.holds Tryz.pinned (OpenSpec.upto gzBoundsSpec)

/-- 'ferretlaw05.GzTurned', WHERE WHAT IT READS IS OF BULK AT MOST 1048576: true; the input reads as it did. -/
def gzTurnedUptoRow : OpenClaim := { program := "ytffjkceedbblgaagreatdoor", sum := "e5c8af2a6a40969c7be5a59210aa180cb55b48edb2a0fe6821416ca9c1489269", func := "ferret/ferretlaw05.GzTurned", spec := "gzTurned", inPlace := ["internal/bytealg.IndexByteString", "internal/abi.NoEscape"], unfollowed := true, recurses := true, named := ["ferret/gz.quarters"], apart := false, laid := [("ferret/gz.quarters", laid_ferret_gz_quarters)], narrowed := true }
def GzTurnedUptoSaid : Prop := gzTurnedUptoRow.holds Tryz.pinned (OpenSpec.upto gzTurnedSpec)

end Rows
end Go.Proofs.YtffjkceedbblgaaGreatDoor
