/-
  NARROWER THAN 'FOR EVERY INPUT', by the rows' own cells (each row's printed sentence says how): CodingBytes: laid · CodingDecodes: laid · CodingPlaces: laid · CodingEncodes: laid · CodingJoined: laid · CodingAlike: laid.
  DERIVED. THE GIVEN ROWS OF THIS SEAT. 6 by the template 'for every input the law returns true; each argument reads behind the call as it read before'; 0 by the template 'total and deterministic' (their statements: YtpjnnbegimaaeaaDoorTotals.lean).
  GIVEN WITH THE SEED: the statements are not yours to turn. If you find one false, say at which input.
  Laid BY PROGRAM, IN A SANDBOX (cutbox-rows.mjs): the forced cells as the released guide's own fill.sh prints them over the translation 8e68cb9ded954f04… (all of the seat's roots in one cut). By AI agents, Wed Nov 11 2026. No macro, syntax, notation, axiom, sorry.
-/
import Derived.Test.YtpjnnbegimaaeaaDoorChecked
import GoSem.Claim
import GoSem.ClaimJoined
import GoSem.ClaimMapViews
import Derived.JoinedTies
import Derived.KernelRfl
namespace Go.Proofs.YtpjnnbegimaaeaaDoor
/- THE CELL 'sum', in the pinned program and in every row, IS THE sha256 OF THE DUMP (.gsa) THAT YtpjnnbegimaaeaaDoorProg.lean LOADS. Nothing in Lean hashes anything: it is a label: what it is worth is what the hold of that sum in a sandbox is worth. -/
noncomputable def Tryd.pinned : Pinned := { name := "ytpjnnbegimaaeaadoor", sum := "8e68cb9ded954f0496304ea9de9106b3434c1ec062f69aaef6a6eeffe076c605", checked := Tryd.checked }
namespace Rows
def none {H : Type} : Left H := { results := [], args := [] }

/- WHAT THE LISTED PACKAGE-LEVEL VARIABLES READ AS WHEN THE CALL BEGINS. Each datum BY PROGRAM (the guide's laid-datum.mjs) off the statement by which the dump's own 'gosem.cut.vars' lays the variable. In a bare row this is a premise. The card (YtpjnnbegimaaeaaDoorCards.lean) ties it to the program's text. -/
def laid_ferret_coding_marks {H : Type} : DataW H := .agg [.lit (.string []), .lit (.string [239, 187, 191]), .lit (.string [255, 254]), .lit (.string [254, 255]), .lit (.string [])]
def laid_ferret_coding_leads {H : Type} : DataW H := .agg [.agg [.lit (.int .u8 0), .lit (.int .u8 127), .lit (.int .i64 0), .lit (.int .u8 0), .lit (.int .u8 0)], .agg [.lit (.int .u8 194), .lit (.int .u8 223), .lit (.int .i64 1), .lit (.int .u8 128), .lit (.int .u8 191)], .agg [.lit (.int .u8 224), .lit (.int .u8 224), .lit (.int .i64 2), .lit (.int .u8 160), .lit (.int .u8 191)], .agg [.lit (.int .u8 225), .lit (.int .u8 236), .lit (.int .i64 2), .lit (.int .u8 128), .lit (.int .u8 191)], .agg [.lit (.int .u8 237), .lit (.int .u8 237), .lit (.int .i64 2), .lit (.int .u8 128), .lit (.int .u8 159)], .agg [.lit (.int .u8 238), .lit (.int .u8 239), .lit (.int .i64 2), .lit (.int .u8 128), .lit (.int .u8 191)], .agg [.lit (.int .u8 240), .lit (.int .u8 240), .lit (.int .i64 3), .lit (.int .u8 144), .lit (.int .u8 191)], .agg [.lit (.int .u8 241), .lit (.int .u8 243), .lit (.int .i64 3), .lit (.int .u8 128), .lit (.int .u8 191)], .agg [.lit (.int .u8 244), .lit (.int .u8 244), .lit (.int .i64 3), .lit (.int .u8 128), .lit (.int .u8 143)]]

/-- 'ferretlaw07.CodingBytes': WHATEVER THE INPUT: true; the input reads as it did. -/
def codingBytesSpec : ChangeSpec := { name := "codingBytes", fn := fun _ => fun
  | [d1, d2] => { results := [.lit (.bool true)], args := [d1, d2] }
  | _ => none }
def codingBytesRow : OpenClaim := { program := "ytpjnnbegimaaeaadoor", sum := "8e68cb9ded954f0496304ea9de9106b3434c1ec062f69aaef6a6eeffe076c605", func := "ferret/ferretlaw07.CodingBytes", spec := "codingBytes", unfollowed := true, recurses := true, named := ["ferret/coding.marks", "ferret/coding.leads"], apart := false, laid := [("ferret/coding.marks", laid_ferret_coding_marks), ("ferret/coding.leads", laid_ferret_coding_leads)] }
def CodingBytesSaid : Prop := codingBytesRow.holds Tryd.pinned (OpenSpec.ofChange codingBytesSpec)

/-- ITS FALSE NEIGHBOUR: 'it returns false'. Refute it at one input. -/
def codingBytesWrong : ChangeSpec := { name := "codingBytes", fn := fun _ => fun
  | [d1, d2] => { results := [.lit (.bool false)], args := [d1, d2] }
  | _ => none }
def CodingBytesWrongFalsely : Prop := codingBytesRow.holds Tryd.pinned (OpenSpec.ofChange codingBytesWrong)

/-- 'ferretlaw07.CodingDecodes': WHATEVER THE INPUT: true; the input reads as it did. -/
def codingDecodesSpec : ChangeSpec := { name := "codingDecodes", fn := fun _ => fun
  | [d1, d2, d3] => { results := [.lit (.bool true)], args := [d1, d2, d3] }
  | _ => none }
def codingDecodesRow : OpenClaim := { program := "ytpjnnbegimaaeaadoor", sum := "8e68cb9ded954f0496304ea9de9106b3434c1ec062f69aaef6a6eeffe076c605", func := "ferret/ferretlaw07.CodingDecodes", spec := "codingDecodes", unfollowed := true, recurses := true, named := ["ferret/coding.marks", "ferret/coding.leads"], apart := false, laid := [("ferret/coding.marks", laid_ferret_coding_marks), ("ferret/coding.leads", laid_ferret_coding_leads)] }
def CodingDecodesSaid : Prop := codingDecodesRow.holds Tryd.pinned (OpenSpec.ofChange codingDecodesSpec)

/-- ITS FALSE NEIGHBOUR: 'it returns false'. Refute it at one input. -/
def codingDecodesWrong : ChangeSpec := { name := "codingDecodes", fn := fun _ => fun
  | [d1, d2, d3] => { results := [.lit (.bool false)], args := [d1, d2, d3] }
  | _ => none }
def CodingDecodesWrongFalsely : Prop := codingDecodesRow.holds Tryd.pinned (OpenSpec.ofChange codingDecodesWrong)

/-- 'ferretlaw07.CodingPlaces': WHATEVER THE INPUT: true; the input reads as it did. -/
def codingPlacesSpec : ChangeSpec := { name := "codingPlaces", fn := fun _ => fun
  | [d1, d2] => { results := [.lit (.bool true)], args := [d1, d2] }
  | _ => none }
def codingPlacesRow : OpenClaim := { program := "ytpjnnbegimaaeaadoor", sum := "8e68cb9ded954f0496304ea9de9106b3434c1ec062f69aaef6a6eeffe076c605", func := "ferret/ferretlaw07.CodingPlaces", spec := "codingPlaces", unfollowed := true, recurses := true, named := ["ferret/coding.marks", "ferret/coding.leads"], apart := false, laid := [("ferret/coding.marks", laid_ferret_coding_marks), ("ferret/coding.leads", laid_ferret_coding_leads)] }
def CodingPlacesSaid : Prop := codingPlacesRow.holds Tryd.pinned (OpenSpec.ofChange codingPlacesSpec)

/-- ITS FALSE NEIGHBOUR: 'it returns false'. Refute it at one input. -/
def codingPlacesWrong : ChangeSpec := { name := "codingPlaces", fn := fun _ => fun
  | [d1, d2] => { results := [.lit (.bool false)], args := [d1, d2] }
  | _ => none }
def CodingPlacesWrongFalsely : Prop := codingPlacesRow.holds Tryd.pinned (OpenSpec.ofChange codingPlacesWrong)

/-- 'ferretlaw07.CodingEncodes': WHATEVER THE INPUT: true; the input reads as it did. -/
def codingEncodesSpec : ChangeSpec := { name := "codingEncodes", fn := fun _ => fun
  | [d1, d2, d3] => { results := [.lit (.bool true)], args := [d1, d2, d3] }
  | _ => none }
def codingEncodesRow : OpenClaim := { program := "ytpjnnbegimaaeaadoor", sum := "8e68cb9ded954f0496304ea9de9106b3434c1ec062f69aaef6a6eeffe076c605", func := "ferret/ferretlaw07.CodingEncodes", spec := "codingEncodes", unfollowed := true, recurses := true, named := ["ferret/coding.marks", "ferret/coding.leads"], apart := false, laid := [("ferret/coding.marks", laid_ferret_coding_marks), ("ferret/coding.leads", laid_ferret_coding_leads)] }
def CodingEncodesSaid : Prop := codingEncodesRow.holds Tryd.pinned (OpenSpec.ofChange codingEncodesSpec)

/-- ITS FALSE NEIGHBOUR: 'it returns false'. Refute it at one input. -/
def codingEncodesWrong : ChangeSpec := { name := "codingEncodes", fn := fun _ => fun
  | [d1, d2, d3] => { results := [.lit (.bool false)], args := [d1, d2, d3] }
  | _ => none }
def CodingEncodesWrongFalsely : Prop := codingEncodesRow.holds Tryd.pinned (OpenSpec.ofChange codingEncodesWrong)

/-- 'ferretlaw07.CodingJoined': WHATEVER THE INPUT: true; the input reads as it did. -/
def codingJoinedSpec : ChangeSpec := { name := "codingJoined", fn := fun _ => fun
  | [d1, d2, d3] => { results := [.lit (.bool true)], args := [d1, d2, d3] }
  | _ => none }
def codingJoinedRow : OpenClaim := { program := "ytpjnnbegimaaeaadoor", sum := "8e68cb9ded954f0496304ea9de9106b3434c1ec062f69aaef6a6eeffe076c605", func := "ferret/ferretlaw07.CodingJoined", spec := "codingJoined", unfollowed := true, recurses := true, named := ["ferret/coding.marks", "ferret/coding.leads"], apart := false, laid := [("ferret/coding.marks", laid_ferret_coding_marks), ("ferret/coding.leads", laid_ferret_coding_leads)] }
def CodingJoinedSaid : Prop := codingJoinedRow.holds Tryd.pinned (OpenSpec.ofChange codingJoinedSpec)

/-- ITS FALSE NEIGHBOUR: 'it returns false'. Refute it at one input. -/
def codingJoinedWrong : ChangeSpec := { name := "codingJoined", fn := fun _ => fun
  | [d1, d2, d3] => { results := [.lit (.bool false)], args := [d1, d2, d3] }
  | _ => none }
def CodingJoinedWrongFalsely : Prop := codingJoinedRow.holds Tryd.pinned (OpenSpec.ofChange codingJoinedWrong)

/-- 'ferretlaw07.CodingAlike': WHATEVER THE INPUT: true; the input reads as it did. -/
def codingAlikeSpec : ChangeSpec := { name := "codingAlike", fn := fun _ => fun
  | [d] => { results := [.lit (.bool true)], args := [d] }
  | _ => none }
def codingAlikeRow : OpenClaim := { program := "ytpjnnbegimaaeaadoor", sum := "8e68cb9ded954f0496304ea9de9106b3434c1ec062f69aaef6a6eeffe076c605", func := "ferret/ferretlaw07.CodingAlike", spec := "codingAlike", unfollowed := true, recurses := true, named := ["ferret/coding.marks", "ferret/coding.leads"], apart := false, laid := [("ferret/coding.marks", laid_ferret_coding_marks), ("ferret/coding.leads", laid_ferret_coding_leads)] }
def CodingAlikeSaid : Prop := codingAlikeRow.holds Tryd.pinned (OpenSpec.ofChange codingAlikeSpec)

/-- ITS FALSE NEIGHBOUR: 'it returns false'. Refute it at one input. -/
def codingAlikeWrong : ChangeSpec := { name := "codingAlike", fn := fun _ => fun
  | [d] => { results := [.lit (.bool false)], args := [d] }
  | _ => none }
def CodingAlikeWrongFalsely : Prop := codingAlikeRow.holds Tryd.pinned (OpenSpec.ofChange codingAlikeWrong)

/- THE SECOND FORM. 'bulk': how many values and letters a reading holds, each counted each time it is reached (what is shared counts as often as it is met; a slice's spare places count too). A statement '..UptoSaid' is the law's where the arguments, and the package variables that the reading takes, are together of bulk at most 1048576: NARROWER than '..Said'. Prove '..Said' where nothing that the law and all that it calls make is longer than what came in: it says more and counts as full. Else prove '..UptoSaid'. A law counts once. -/
mutual
def uptoBulk {H : Type} : DataW H → Nat
  | .lit (.string bytes) => bytes.length + 1
  | .lit _ => 1
  | .nil => 1
  | .ptr d => uptoBulk d + 1
  | .slice elems spare => uptoBulkAll elems + uptoBulkAll spare + 1
  | .agg parts => uptoBulkAll parts + 1
  | .iface _ d => uptoBulk d + 1
  | .map entries => uptoBulkEntries entries + 1
  | .held _ => 1
def uptoBulkAll {H : Type} : List (DataW H) → Nat
  | [] => 0
  | d :: r => uptoBulk d + uptoBulkAll r
def uptoBulkEntries {H : Type} : List (Lit × DataW H) → Nat
  | [] => 0
  | x :: r => uptoBulkEntry x + uptoBulkEntries r
def uptoBulkEntry {H : Type} : Lit × DataW H → Nat
  | (.string bytes, d) => bytes.length + uptoBulk d + 1
  | (_, d) => uptoBulk d + 1
 end
def uptoSmall : (H : Type) → List (DataW H) → Bool := fun _ ds => decide (uptoBulkAll ds ≤ 1048576)
def OpenSpec.upto (s : _root_.Go.ChangeSpec) : _root_.Go.OpenSpec := { _root_.Go.OpenSpec.ofChange s with cond := some uptoSmall }

/-- 'ferretlaw07.CodingBytes', WHERE WHAT IT READS IS OF BULK AT MOST 1048576: true; the input reads as it did. -/
def codingBytesUptoRow : OpenClaim := { program := "ytpjnnbegimaaeaadoor", sum := "8e68cb9ded954f0496304ea9de9106b3434c1ec062f69aaef6a6eeffe076c605", func := "ferret/ferretlaw07.CodingBytes", spec := "codingBytes", unfollowed := true, recurses := true, named := ["ferret/coding.marks", "ferret/coding.leads"], apart := false, laid := [("ferret/coding.marks", laid_ferret_coding_marks), ("ferret/coding.leads", laid_ferret_coding_leads)], narrowed := true }
def CodingBytesUptoSaid : Prop := codingBytesUptoRow.holds Tryd.pinned (OpenSpec.upto codingBytesSpec)

/-- 'ferretlaw07.CodingDecodes', WHERE WHAT IT READS IS OF BULK AT MOST 1048576: true; the input reads as it did. -/
def codingDecodesUptoRow : OpenClaim := { program := "ytpjnnbegimaaeaadoor", sum := "8e68cb9ded954f0496304ea9de9106b3434c1ec062f69aaef6a6eeffe076c605", func := "ferret/ferretlaw07.CodingDecodes", spec := "codingDecodes", unfollowed := true, recurses := true, named := ["ferret/coding.marks", "ferret/coding.leads"], apart := false, laid := [("ferret/coding.marks", laid_ferret_coding_marks), ("ferret/coding.leads", laid_ferret_coding_leads)], narrowed := true }
def CodingDecodesUptoSaid : Prop := codingDecodesUptoRow.holds Tryd.pinned (OpenSpec.upto codingDecodesSpec)

/-- 'ferretlaw07.CodingPlaces', WHERE WHAT IT READS IS OF BULK AT MOST 1048576: true; the input reads as it did. -/
def codingPlacesUptoRow : OpenClaim := { program := "ytpjnnbegimaaeaadoor", sum := "8e68cb9ded954f0496304ea9de9106b3434c1ec062f69aaef6a6eeffe076c605", func := "ferret/ferretlaw07.CodingPlaces", spec := "codingPlaces", unfollowed := true, recurses := true, named := ["ferret/coding.marks", "ferret/coding.leads"], apart := false, laid := [("ferret/coding.marks", laid_ferret_coding_marks), ("ferret/coding.leads", laid_ferret_coding_leads)], narrowed := true }
def CodingPlacesUptoSaid : Prop := codingPlacesUptoRow.holds Tryd.pinned (OpenSpec.upto codingPlacesSpec)

/-- 'ferretlaw07.CodingEncodes', WHERE WHAT IT READS IS OF BULK AT MOST 1048576: true; the input reads as it did. -/
def codingEncodesUptoRow : OpenClaim := { program := "ytpjnnbegimaaeaadoor", sum := "8e68cb9ded954f0496304ea9de9106b3434c1ec062f69aaef6a6eeffe076c605", func := "ferret/ferretlaw07.CodingEncodes", spec := "codingEncodes", unfollowed := true, recurses := true, named := ["ferret/coding.marks", "ferret/coding.leads"], apart := false, laid := [("ferret/coding.marks", laid_ferret_coding_marks), ("ferret/coding.leads", laid_ferret_coding_leads)], narrowed := true }
def CodingEncodesUptoSaid : Prop := codingEncodesUptoRow.holds Tryd.pinned (OpenSpec.upto codingEncodesSpec)

/-- 'ferretlaw07.CodingJoined', WHERE WHAT IT READS IS OF BULK AT MOST 1048576: true; the input reads as it did. -/
def codingJoinedUptoRow : OpenClaim := { program := "ytpjnnbegimaaeaadoor", sum := "8e68cb9ded954f0496304ea9de9106b3434c1ec062f69aaef6a6eeffe076c605", func := "ferret/ferretlaw07.CodingJoined", spec := "codingJoined", unfollowed := true, recurses := true, named := ["ferret/coding.marks", "ferret/coding.leads"], apart := false, laid := [("ferret/coding.marks", laid_ferret_coding_marks), ("ferret/coding.leads", laid_ferret_coding_leads)], narrowed := true }
def CodingJoinedUptoSaid : Prop := codingJoinedUptoRow.holds Tryd.pinned (OpenSpec.upto codingJoinedSpec)

/-- 'ferretlaw07.CodingAlike', WHERE WHAT IT READS IS OF BULK AT MOST 1048576: true; the input reads as it did. -/
def codingAlikeUptoRow : OpenClaim := { program := "ytpjnnbegimaaeaadoor", sum := "8e68cb9ded954f0496304ea9de9106b3434c1ec062f69aaef6a6eeffe076c605", func := "ferret/ferretlaw07.CodingAlike", spec := "codingAlike", unfollowed := true, recurses := true, named := ["ferret/coding.marks", "ferret/coding.leads"], apart := false, laid := [("ferret/coding.marks", laid_ferret_coding_marks), ("ferret/coding.leads", laid_ferret_coding_leads)], narrowed := true }
def CodingAlikeUptoSaid : Prop := codingAlikeUptoRow.holds Tryd.pinned (OpenSpec.upto codingAlikeSpec)

end Rows
end Go.Proofs.YtpjnnbegimaaeaaDoor
