/-
  NARROWER THAN 'FOR EVERY INPUT', by the rows' own cells (each row's printed sentence says how): SyntaxParses: laid · SyntaxBrackets: laid · SyntaxFlags: laid · SyntaxTimes: laid · SyntaxEscapes: laid · SyntaxGroups: laid · SyntaxRanges: laid · TopClasses: laid.
  DERIVED. THE GIVEN ROWS OF THIS SEAT. 8 by the template 'for every input the law returns true; each argument reads behind the call as it read before'; 0 by the template 'total and deterministic' (their statements: YtdhhcefmmojcmaaGreatDoorTotals.lean).
  GIVEN WITH THE SEED: the statements are not yours to turn. If you find one false, say at which input.
  Laid BY PROGRAM, IN A SANDBOX (cutbox-rows.mjs): the forced cells as the released guide's own fill.sh prints them over the translation 0c29ca3ab17d7fa0… (all of the seat's roots in one cut). By AI agents, Wed Nov 11 2026. No macro, syntax, notation, axiom, sorry.
-/
import Derived.Test.YtdhhcefmmojcmaaGreatDoorChecked
import GoSem.Claim
import GoSem.ClaimJoined
import GoSem.ClaimMapViews
import Derived.JoinedTies
import Derived.KernelRfl
namespace Go.Proofs.YtdhhcefmmojcmaaGreatDoor
/- THE CELL 'sum', in the pinned program and in every row, IS THE sha256 OF THE DUMP (.gsa) THAT YtdhhcefmmojcmaaGreatDoorProg.lean LOADS. Nothing in Lean hashes anything: it is a label: what it is worth is what the hold of that sum in a sandbox is worth. -/
noncomputable def Tryz.pinned : Pinned := { name := "ytdhhcefmmojcmaagreatdoor", sum := "0c29ca3ab17d7fa065a5aee5e9b759907741e0655dd6e72241ef00db7a831ec5", checked := Tryz.checked }
namespace Rows
def none {H : Type} : Left H := { results := [], args := [] }

/- WHAT THE LISTED PACKAGE-LEVEL VARIABLES READ AS WHEN THE CALL BEGINS. Each datum BY PROGRAM (the guide's laid-datum.mjs) off the statement by which the dump's own 'gosem.cut.vars' lays the variable. In a bare row this is a premise. The card (YtdhhcefmmojcmaaGreatDoorCards.lean) ties it to the program's text. -/
def laid_math_bits_deBruijn32tab {H : Type} : DataW H := .agg [.lit (.int .u8 0), .lit (.int .u8 1), .lit (.int .u8 28), .lit (.int .u8 2), .lit (.int .u8 29), .lit (.int .u8 14), .lit (.int .u8 24), .lit (.int .u8 3), .lit (.int .u8 30), .lit (.int .u8 22), .lit (.int .u8 20), .lit (.int .u8 15), .lit (.int .u8 25), .lit (.int .u8 17), .lit (.int .u8 4), .lit (.int .u8 8), .lit (.int .u8 31), .lit (.int .u8 27), .lit (.int .u8 13), .lit (.int .u8 23), .lit (.int .u8 21), .lit (.int .u8 19), .lit (.int .u8 16), .lit (.int .u8 7), .lit (.int .u8 26), .lit (.int .u8 12), .lit (.int .u8 18), .lit (.int .u8 6), .lit (.int .u8 11), .lit (.int .u8 5), .lit (.int .u8 10), .lit (.int .u8 9)]
def laid_math_bits_deBruijn64tab {H : Type} : DataW H := .agg [.lit (.int .u8 0), .lit (.int .u8 1), .lit (.int .u8 56), .lit (.int .u8 2), .lit (.int .u8 57), .lit (.int .u8 49), .lit (.int .u8 28), .lit (.int .u8 3), .lit (.int .u8 61), .lit (.int .u8 58), .lit (.int .u8 42), .lit (.int .u8 50), .lit (.int .u8 38), .lit (.int .u8 29), .lit (.int .u8 17), .lit (.int .u8 4), .lit (.int .u8 62), .lit (.int .u8 47), .lit (.int .u8 59), .lit (.int .u8 36), .lit (.int .u8 45), .lit (.int .u8 43), .lit (.int .u8 51), .lit (.int .u8 22), .lit (.int .u8 53), .lit (.int .u8 39), .lit (.int .u8 33), .lit (.int .u8 30), .lit (.int .u8 24), .lit (.int .u8 18), .lit (.int .u8 12), .lit (.int .u8 5), .lit (.int .u8 63), .lit (.int .u8 55), .lit (.int .u8 48), .lit (.int .u8 27), .lit (.int .u8 60), .lit (.int .u8 41), .lit (.int .u8 37), .lit (.int .u8 16), .lit (.int .u8 46), .lit (.int .u8 35), .lit (.int .u8 44), .lit (.int .u8 21), .lit (.int .u8 52), .lit (.int .u8 32), .lit (.int .u8 23), .lit (.int .u8 11), .lit (.int .u8 54), .lit (.int .u8 26), .lit (.int .u8 40), .lit (.int .u8 15), .lit (.int .u8 34), .lit (.int .u8 20), .lit (.int .u8 31), .lit (.int .u8 10), .lit (.int .u8 25), .lit (.int .u8 14), .lit (.int .u8 19), .lit (.int .u8 9), .lit (.int .u8 13), .lit (.int .u8 8), .lit (.int .u8 7), .lit (.int .u8 6)]
def laid_internal_strconv_uint64pow10 {H : Type} : DataW H := .agg [.lit (.int .u64 1), .lit (.int .u64 10), .lit (.int .u64 100), .lit (.int .u64 1000), .lit (.int .u64 10000), .lit (.int .u64 100000), .lit (.int .u64 1000000), .lit (.int .u64 10000000), .lit (.int .u64 100000000), .lit (.int .u64 1000000000), .lit (.int .u64 10000000000), .lit (.int .u64 100000000000), .lit (.int .u64 1000000000000), .lit (.int .u64 10000000000000), .lit (.int .u64 100000000000000), .lit (.int .u64 1000000000000000), .lit (.int .u64 10000000000000000), .lit (.int .u64 100000000000000000), .lit (.int .u64 1000000000000000000), .lit (.int .u64 10000000000000000000)]
def laid_strconv_ErrRange {H : Type} : DataW H := .iface "*errors.errorString" (.ptr (.agg [.lit (.string [118, 97, 108, 117, 101, 32, 111, 117, 116, 32, 111, 102, 32, 114, 97, 110, 103, 101])]))
def laid_strconv_ErrSyntax {H : Type} : DataW H := .iface "*errors.errorString" (.ptr (.agg [.lit (.string [105, 110, 118, 97, 108, 105, 100, 32, 115, 121, 110, 116, 97, 120])]))
def laid_ferret_coding_marks {H : Type} : DataW H := .agg [.lit (.string []), .lit (.string [239, 187, 191]), .lit (.string [255, 254]), .lit (.string [254, 255]), .lit (.string [])]
def laid_ferret_coding_leads {H : Type} : DataW H := .agg [.agg [.lit (.int .u8 0), .lit (.int .u8 127), .lit (.int .i64 0), .lit (.int .u8 0), .lit (.int .u8 0)], .agg [.lit (.int .u8 194), .lit (.int .u8 223), .lit (.int .i64 1), .lit (.int .u8 128), .lit (.int .u8 191)], .agg [.lit (.int .u8 224), .lit (.int .u8 224), .lit (.int .i64 2), .lit (.int .u8 160), .lit (.int .u8 191)], .agg [.lit (.int .u8 225), .lit (.int .u8 236), .lit (.int .i64 2), .lit (.int .u8 128), .lit (.int .u8 191)], .agg [.lit (.int .u8 237), .lit (.int .u8 237), .lit (.int .i64 2), .lit (.int .u8 128), .lit (.int .u8 159)], .agg [.lit (.int .u8 238), .lit (.int .u8 239), .lit (.int .i64 2), .lit (.int .u8 128), .lit (.int .u8 191)], .agg [.lit (.int .u8 240), .lit (.int .u8 240), .lit (.int .i64 3), .lit (.int .u8 144), .lit (.int .u8 191)], .agg [.lit (.int .u8 241), .lit (.int .u8 243), .lit (.int .i64 3), .lit (.int .u8 128), .lit (.int .u8 191)], .agg [.lit (.int .u8 244), .lit (.int .u8 244), .lit (.int .i64 3), .lit (.int .u8 128), .lit (.int .u8 143)]]

/-- 'ferretlaw10.SyntaxParses': WHATEVER THE INPUT: true; the input reads as it did. -/
def syntaxParsesSpec : ChangeSpec := { name := "syntaxParses", fn := fun _ => fun
  | [d1, d2] => { results := [.lit (.bool true)], args := [d1, d2] }
  | _ => none }
def syntaxParsesRow : OpenClaim := { program := "ytdhhcefmmojcmaagreatdoor", sum := "0c29ca3ab17d7fa065a5aee5e9b759907741e0655dd6e72241ef00db7a831ec5", func := "ferret/ferretlaw10.SyntaxParses", spec := "syntaxParses", unfollowed := true, recurses := true, named := ["ferret/coding.marks", "ferret/coding.leads", "strconv.ErrSyntax", "strconv.ErrRange", "internal/strconv.uint64pow10", "math/bits.deBruijn32tab", "math/bits.deBruijn64tab"], apart := false, laid := [("math/bits.deBruijn32tab", laid_math_bits_deBruijn32tab), ("math/bits.deBruijn64tab", laid_math_bits_deBruijn64tab), ("internal/strconv.uint64pow10", laid_internal_strconv_uint64pow10), ("strconv.ErrRange", laid_strconv_ErrRange), ("strconv.ErrSyntax", laid_strconv_ErrSyntax), ("ferret/coding.marks", laid_ferret_coding_marks), ("ferret/coding.leads", laid_ferret_coding_leads)] }
def SyntaxParsesSaid : Prop := syntaxParsesRow.holds Tryz.pinned (OpenSpec.ofChange syntaxParsesSpec)

/-- ITS FALSE NEIGHBOUR: 'it returns false'. Refute it at one input. -/
def syntaxParsesWrong : ChangeSpec := { name := "syntaxParses", fn := fun _ => fun
  | [d1, d2] => { results := [.lit (.bool false)], args := [d1, d2] }
  | _ => none }
def SyntaxParsesWrongFalsely : Prop := syntaxParsesRow.holds Tryz.pinned (OpenSpec.ofChange syntaxParsesWrong)

/-- 'ferretlaw10.SyntaxBrackets': WHATEVER THE INPUT: true; the input reads as it did. -/
def syntaxBracketsSpec : ChangeSpec := { name := "syntaxBrackets", fn := fun _ => fun
  | [d] => { results := [.lit (.bool true)], args := [d] }
  | _ => none }
def syntaxBracketsRow : OpenClaim := { program := "ytdhhcefmmojcmaagreatdoor", sum := "0c29ca3ab17d7fa065a5aee5e9b759907741e0655dd6e72241ef00db7a831ec5", func := "ferret/ferretlaw10.SyntaxBrackets", spec := "syntaxBrackets", unfollowed := true, recurses := true, named := ["ferret/coding.marks", "ferret/coding.leads", "strconv.ErrSyntax", "strconv.ErrRange", "internal/strconv.uint64pow10", "math/bits.deBruijn32tab", "math/bits.deBruijn64tab"], apart := false, laid := [("math/bits.deBruijn32tab", laid_math_bits_deBruijn32tab), ("math/bits.deBruijn64tab", laid_math_bits_deBruijn64tab), ("internal/strconv.uint64pow10", laid_internal_strconv_uint64pow10), ("strconv.ErrRange", laid_strconv_ErrRange), ("strconv.ErrSyntax", laid_strconv_ErrSyntax), ("ferret/coding.marks", laid_ferret_coding_marks), ("ferret/coding.leads", laid_ferret_coding_leads)] }
def SyntaxBracketsSaid : Prop := syntaxBracketsRow.holds Tryz.pinned (OpenSpec.ofChange syntaxBracketsSpec)

/-- ITS FALSE NEIGHBOUR: 'it returns false'. Refute it at one input. -/
def syntaxBracketsWrong : ChangeSpec := { name := "syntaxBrackets", fn := fun _ => fun
  | [d] => { results := [.lit (.bool false)], args := [d] }
  | _ => none }
def SyntaxBracketsWrongFalsely : Prop := syntaxBracketsRow.holds Tryz.pinned (OpenSpec.ofChange syntaxBracketsWrong)

/-- 'ferretlaw10.SyntaxFlags': WHATEVER THE INPUT: true; the input reads as it did. -/
def syntaxFlagsSpec : ChangeSpec := { name := "syntaxFlags", fn := fun _ => fun
  | [d1, d2] => { results := [.lit (.bool true)], args := [d1, d2] }
  | _ => none }
def syntaxFlagsRow : OpenClaim := { program := "ytdhhcefmmojcmaagreatdoor", sum := "0c29ca3ab17d7fa065a5aee5e9b759907741e0655dd6e72241ef00db7a831ec5", func := "ferret/ferretlaw10.SyntaxFlags", spec := "syntaxFlags", unfollowed := true, recurses := true, named := ["ferret/coding.marks", "ferret/coding.leads", "strconv.ErrSyntax", "strconv.ErrRange", "internal/strconv.uint64pow10", "math/bits.deBruijn32tab", "math/bits.deBruijn64tab"], apart := false, laid := [("math/bits.deBruijn32tab", laid_math_bits_deBruijn32tab), ("math/bits.deBruijn64tab", laid_math_bits_deBruijn64tab), ("internal/strconv.uint64pow10", laid_internal_strconv_uint64pow10), ("strconv.ErrRange", laid_strconv_ErrRange), ("strconv.ErrSyntax", laid_strconv_ErrSyntax), ("ferret/coding.marks", laid_ferret_coding_marks), ("ferret/coding.leads", laid_ferret_coding_leads)] }
def SyntaxFlagsSaid : Prop := syntaxFlagsRow.holds Tryz.pinned (OpenSpec.ofChange syntaxFlagsSpec)

/-- ITS FALSE NEIGHBOUR: 'it returns false'. Refute it at one input. -/
def syntaxFlagsWrong : ChangeSpec := { name := "syntaxFlags", fn := fun _ => fun
  | [d1, d2] => { results := [.lit (.bool false)], args := [d1, d2] }
  | _ => none }
def SyntaxFlagsWrongFalsely : Prop := syntaxFlagsRow.holds Tryz.pinned (OpenSpec.ofChange syntaxFlagsWrong)

/-- 'ferretlaw10.SyntaxTimes': WHATEVER THE INPUT: true; the input reads as it did. -/
def syntaxTimesSpec : ChangeSpec := { name := "syntaxTimes", fn := fun _ => fun
  | [d1, d2, d3] => { results := [.lit (.bool true)], args := [d1, d2, d3] }
  | _ => none }
def syntaxTimesRow : OpenClaim := { program := "ytdhhcefmmojcmaagreatdoor", sum := "0c29ca3ab17d7fa065a5aee5e9b759907741e0655dd6e72241ef00db7a831ec5", func := "ferret/ferretlaw10.SyntaxTimes", spec := "syntaxTimes", unfollowed := true, recurses := true, named := ["ferret/coding.marks", "ferret/coding.leads", "strconv.ErrSyntax", "strconv.ErrRange", "internal/strconv.uint64pow10", "math/bits.deBruijn32tab", "math/bits.deBruijn64tab"], apart := false, laid := [("math/bits.deBruijn32tab", laid_math_bits_deBruijn32tab), ("math/bits.deBruijn64tab", laid_math_bits_deBruijn64tab), ("internal/strconv.uint64pow10", laid_internal_strconv_uint64pow10), ("strconv.ErrRange", laid_strconv_ErrRange), ("strconv.ErrSyntax", laid_strconv_ErrSyntax), ("ferret/coding.marks", laid_ferret_coding_marks), ("ferret/coding.leads", laid_ferret_coding_leads)] }
def SyntaxTimesSaid : Prop := syntaxTimesRow.holds Tryz.pinned (OpenSpec.ofChange syntaxTimesSpec)

/-- ITS FALSE NEIGHBOUR: 'it returns false'. Refute it at one input. -/
def syntaxTimesWrong : ChangeSpec := { name := "syntaxTimes", fn := fun _ => fun
  | [d1, d2, d3] => { results := [.lit (.bool false)], args := [d1, d2, d3] }
  | _ => none }
def SyntaxTimesWrongFalsely : Prop := syntaxTimesRow.holds Tryz.pinned (OpenSpec.ofChange syntaxTimesWrong)

/-- 'ferretlaw10.SyntaxEscapes': WHATEVER THE INPUT: true; the input reads as it did. -/
def syntaxEscapesSpec : ChangeSpec := { name := "syntaxEscapes", fn := fun _ => fun
  | [d] => { results := [.lit (.bool true)], args := [d] }
  | _ => none }
def syntaxEscapesRow : OpenClaim := { program := "ytdhhcefmmojcmaagreatdoor", sum := "0c29ca3ab17d7fa065a5aee5e9b759907741e0655dd6e72241ef00db7a831ec5", func := "ferret/ferretlaw10.SyntaxEscapes", spec := "syntaxEscapes", unfollowed := true, recurses := true, named := ["ferret/coding.marks", "ferret/coding.leads", "strconv.ErrSyntax", "strconv.ErrRange", "internal/strconv.uint64pow10", "math/bits.deBruijn32tab", "math/bits.deBruijn64tab"], apart := false, laid := [("math/bits.deBruijn32tab", laid_math_bits_deBruijn32tab), ("math/bits.deBruijn64tab", laid_math_bits_deBruijn64tab), ("internal/strconv.uint64pow10", laid_internal_strconv_uint64pow10), ("strconv.ErrRange", laid_strconv_ErrRange), ("strconv.ErrSyntax", laid_strconv_ErrSyntax), ("ferret/coding.marks", laid_ferret_coding_marks), ("ferret/coding.leads", laid_ferret_coding_leads)] }
def SyntaxEscapesSaid : Prop := syntaxEscapesRow.holds Tryz.pinned (OpenSpec.ofChange syntaxEscapesSpec)

/-- ITS FALSE NEIGHBOUR: 'it returns false'. Refute it at one input. -/
def syntaxEscapesWrong : ChangeSpec := { name := "syntaxEscapes", fn := fun _ => fun
  | [d] => { results := [.lit (.bool false)], args := [d] }
  | _ => none }
def SyntaxEscapesWrongFalsely : Prop := syntaxEscapesRow.holds Tryz.pinned (OpenSpec.ofChange syntaxEscapesWrong)

/-- 'ferretlaw10.SyntaxGroups': WHATEVER THE INPUT: true; the input reads as it did. -/
def syntaxGroupsSpec : ChangeSpec := { name := "syntaxGroups", fn := fun _ => fun
  | [d] => { results := [.lit (.bool true)], args := [d] }
  | _ => none }
def syntaxGroupsRow : OpenClaim := { program := "ytdhhcefmmojcmaagreatdoor", sum := "0c29ca3ab17d7fa065a5aee5e9b759907741e0655dd6e72241ef00db7a831ec5", func := "ferret/ferretlaw10.SyntaxGroups", spec := "syntaxGroups", unfollowed := true, recurses := true, named := ["ferret/coding.marks", "ferret/coding.leads", "strconv.ErrSyntax", "strconv.ErrRange", "internal/strconv.uint64pow10", "math/bits.deBruijn32tab", "math/bits.deBruijn64tab"], apart := false, laid := [("math/bits.deBruijn32tab", laid_math_bits_deBruijn32tab), ("math/bits.deBruijn64tab", laid_math_bits_deBruijn64tab), ("internal/strconv.uint64pow10", laid_internal_strconv_uint64pow10), ("strconv.ErrRange", laid_strconv_ErrRange), ("strconv.ErrSyntax", laid_strconv_ErrSyntax), ("ferret/coding.marks", laid_ferret_coding_marks), ("ferret/coding.leads", laid_ferret_coding_leads)] }
def SyntaxGroupsSaid : Prop := syntaxGroupsRow.holds Tryz.pinned (OpenSpec.ofChange syntaxGroupsSpec)

/-- ITS FALSE NEIGHBOUR: 'it returns false'. Refute it at one input. -/
def syntaxGroupsWrong : ChangeSpec := { name := "syntaxGroups", fn := fun _ => fun
  | [d] => { results := [.lit (.bool false)], args := [d] }
  | _ => none }
def SyntaxGroupsWrongFalsely : Prop := syntaxGroupsRow.holds Tryz.pinned (OpenSpec.ofChange syntaxGroupsWrong)

/-- 'ferretlaw10.SyntaxRanges': WHATEVER THE INPUT: true; the input reads as it did. -/
def syntaxRangesSpec : ChangeSpec := { name := "syntaxRanges", fn := fun _ => fun
  | [d1, d2, d3] => { results := [.lit (.bool true)], args := [d1, d2, d3] }
  | _ => none }
def syntaxRangesRow : OpenClaim := { program := "ytdhhcefmmojcmaagreatdoor", sum := "0c29ca3ab17d7fa065a5aee5e9b759907741e0655dd6e72241ef00db7a831ec5", func := "ferret/ferretlaw10.SyntaxRanges", spec := "syntaxRanges", unfollowed := true, recurses := true, named := ["ferret/coding.marks", "ferret/coding.leads", "strconv.ErrSyntax", "strconv.ErrRange", "internal/strconv.uint64pow10", "math/bits.deBruijn32tab", "math/bits.deBruijn64tab"], apart := false, laid := [("math/bits.deBruijn32tab", laid_math_bits_deBruijn32tab), ("math/bits.deBruijn64tab", laid_math_bits_deBruijn64tab), ("internal/strconv.uint64pow10", laid_internal_strconv_uint64pow10), ("strconv.ErrRange", laid_strconv_ErrRange), ("strconv.ErrSyntax", laid_strconv_ErrSyntax), ("ferret/coding.marks", laid_ferret_coding_marks), ("ferret/coding.leads", laid_ferret_coding_leads)] }
def SyntaxRangesSaid : Prop := syntaxRangesRow.holds Tryz.pinned (OpenSpec.ofChange syntaxRangesSpec)

/-- ITS FALSE NEIGHBOUR: 'it returns false'. Refute it at one input. -/
def syntaxRangesWrong : ChangeSpec := { name := "syntaxRanges", fn := fun _ => fun
  | [d1, d2, d3] => { results := [.lit (.bool false)], args := [d1, d2, d3] }
  | _ => none }
def SyntaxRangesWrongFalsely : Prop := syntaxRangesRow.holds Tryz.pinned (OpenSpec.ofChange syntaxRangesWrong)

/-- 'ferrettop.TopClasses': WHATEVER THE INPUT: true; the input reads as it did. -/
def topClassesSpec : ChangeSpec := { name := "topClasses", fn := fun _ => fun
  | [d1, d2, d3] => { results := [.lit (.bool true)], args := [d1, d2, d3] }
  | _ => none }
def topClassesRow : OpenClaim := { program := "ytdhhcefmmojcmaagreatdoor", sum := "0c29ca3ab17d7fa065a5aee5e9b759907741e0655dd6e72241ef00db7a831ec5", func := "ferret/ferrettop.TopClasses", spec := "topClasses", unfollowed := true, recurses := true, named := ["ferret/coding.marks", "ferret/coding.leads", "strconv.ErrSyntax", "strconv.ErrRange", "internal/strconv.uint64pow10", "math/bits.deBruijn32tab", "math/bits.deBruijn64tab"], apart := false, laid := [("math/bits.deBruijn32tab", laid_math_bits_deBruijn32tab), ("math/bits.deBruijn64tab", laid_math_bits_deBruijn64tab), ("internal/strconv.uint64pow10", laid_internal_strconv_uint64pow10), ("strconv.ErrRange", laid_strconv_ErrRange), ("strconv.ErrSyntax", laid_strconv_ErrSyntax), ("ferret/coding.marks", laid_ferret_coding_marks), ("ferret/coding.leads", laid_ferret_coding_leads)] }
def TopClassesSaid : Prop := topClassesRow.holds Tryz.pinned (OpenSpec.ofChange topClassesSpec)

/-- ITS FALSE NEIGHBOUR: 'it returns false'. Refute it at one input. -/
def topClassesWrong : ChangeSpec := { name := "topClasses", fn := fun _ => fun
  | [d1, d2, d3] => { results := [.lit (.bool false)], args := [d1, d2, d3] }
  | _ => none }
def TopClassesWrongFalsely : Prop := topClassesRow.holds Tryz.pinned (OpenSpec.ofChange topClassesWrong)

/- THE SECOND FORM. 'bulk': how many values and letters a reading holds, each counted each time it is reached (what is shared counts as often as it is met; a slice's spare places count too). A statement '..UptoSaid' is the law's where the arguments, and the package variables that the reading takes, are together of bulk at most 1048576: NARROWER than '..Said'. Prove '..Said' where nothing that the law and all that it calls make is longer than what came in: it says more and counts as full. Else prove '..UptoSaid'. A law counts once. -/
mutual
def uptoBulk {H : Type} : DataW H → Nat
  | .lit (.string bytes) => bytes.length + 1
  | .lit _ => 1
  | .nil => 1
  | .ptr d => uptoBulk d + 1
  | .slice elems spare => uptoBulkAll elems + uptoBulkAll spare + 1
  | .agg parts => uptoBulkAll parts + 1
  | .iface _ d => uptoBulk d + 1
  | .map entries => uptoBulkEntries entries + 1
  | .held _ => 1
def uptoBulkAll {H : Type} : List (DataW H) → Nat
  | [] => 0
  | d :: r => uptoBulk d + uptoBulkAll r
def uptoBulkEntries {H : Type} : List (Lit × DataW H) → Nat
  | [] => 0
  | x :: r => uptoBulkEntry x + uptoBulkEntries r
def uptoBulkEntry {H : Type} : Lit × DataW H → Nat
  | (.string bytes, d) => bytes.length + uptoBulk d + 1
  | (_, d) => uptoBulk d + 1
 end
def uptoSmall : (H : Type) → List (DataW H) → Bool := fun _ ds => decide (uptoBulkAll ds ≤ 1048576)
def OpenSpec.upto (s : _root_.Go.ChangeSpec) : _root_.Go.OpenSpec := { _root_.Go.OpenSpec.ofChange s with cond := some uptoSmall }

/-- 'ferretlaw10.SyntaxParses', WHERE WHAT IT READS IS OF BULK AT MOST 1048576: true; the input reads as it did. -/
def syntaxParsesUptoRow : OpenClaim := { program := "ytdhhcefmmojcmaagreatdoor", sum := "0c29ca3ab17d7fa065a5aee5e9b759907741e0655dd6e72241ef00db7a831ec5", func := "ferret/ferretlaw10.SyntaxParses", spec := "syntaxParses", unfollowed := true, recurses := true, named := ["ferret/coding.marks", "ferret/coding.leads", "strconv.ErrSyntax", "strconv.ErrRange", "internal/strconv.uint64pow10", "math/bits.deBruijn32tab", "math/bits.deBruijn64tab"], apart := false, laid := [("math/bits.deBruijn32tab", laid_math_bits_deBruijn32tab), ("math/bits.deBruijn64tab", laid_math_bits_deBruijn64tab), ("internal/strconv.uint64pow10", laid_internal_strconv_uint64pow10), ("strconv.ErrRange", laid_strconv_ErrRange), ("strconv.ErrSyntax", laid_strconv_ErrSyntax), ("ferret/coding.marks", laid_ferret_coding_marks), ("ferret/coding.leads", laid_ferret_coding_leads)], narrowed := true }
def SyntaxParsesUptoSaid : Prop := syntaxParsesUptoRow.holds Tryz.pinned (OpenSpec.upto syntaxParsesSpec)

/-- 'ferretlaw10.SyntaxBrackets', WHERE WHAT IT READS IS OF BULK AT MOST 1048576: true; the input reads as it did. -/
def syntaxBracketsUptoRow : OpenClaim := { program := "ytdhhcefmmojcmaagreatdoor", sum := "0c29ca3ab17d7fa065a5aee5e9b759907741e0655dd6e72241ef00db7a831ec5", func := "ferret/ferretlaw10.SyntaxBrackets", spec := "syntaxBrackets", unfollowed := true, recurses := true, named := ["ferret/coding.marks", "ferret/coding.leads", "strconv.ErrSyntax", "strconv.ErrRange", "internal/strconv.uint64pow10", "math/bits.deBruijn32tab", "math/bits.deBruijn64tab"], apart := false, laid := [("math/bits.deBruijn32tab", laid_math_bits_deBruijn32tab), ("math/bits.deBruijn64tab", laid_math_bits_deBruijn64tab), ("internal/strconv.uint64pow10", laid_internal_strconv_uint64pow10), ("strconv.ErrRange", laid_strconv_ErrRange), ("strconv.ErrSyntax", laid_strconv_ErrSyntax), ("ferret/coding.marks", laid_ferret_coding_marks), ("ferret/coding.leads", laid_ferret_coding_leads)], narrowed := true }
def SyntaxBracketsUptoSaid : Prop := syntaxBracketsUptoRow.holds Tryz.pinned (OpenSpec.upto syntaxBracketsSpec)

/-- 'ferretlaw10.SyntaxFlags', WHERE WHAT IT READS IS OF BULK AT MOST 1048576: true; the input reads as it did. -/
def syntaxFlagsUptoRow : OpenClaim := { program := "ytdhhcefmmojcmaagreatdoor", sum := "0c29ca3ab17d7fa065a5aee5e9b759907741e0655dd6e72241ef00db7a831ec5", func := "ferret/ferretlaw10.SyntaxFlags", spec := "syntaxFlags", unfollowed := true, recurses := true, named := ["ferret/coding.marks", "ferret/coding.leads", "strconv.ErrSyntax", "strconv.ErrRange", "internal/strconv.uint64pow10", "math/bits.deBruijn32tab", "math/bits.deBruijn64tab"], apart := false, laid := [("math/bits.deBruijn32tab", laid_math_bits_deBruijn32tab), ("math/bits.deBruijn64tab", laid_math_bits_deBruijn64tab), ("internal/strconv.uint64pow10", laid_internal_strconv_uint64pow10), ("strconv.ErrRange", laid_strconv_ErrRange), ("strconv.ErrSyntax", laid_strconv_ErrSyntax), ("ferret/coding.marks", laid_ferret_coding_marks), ("ferret/coding.leads", laid_ferret_coding_leads)], narrowed := true }
def SyntaxFlagsUptoSaid : Prop := syntaxFlagsUptoRow.holds Tryz.pinned (OpenSpec.upto syntaxFlagsSpec)

/-- 'ferretlaw10.SyntaxTimes', WHERE WHAT IT READS IS OF BULK AT MOST 1048576: true; the input reads as it did. -/
def syntaxTimesUptoRow : OpenClaim := { program := "ytdhhcefmmojcmaagreatdoor", sum := "0c29ca3ab17d7fa065a5aee5e9b759907741e0655dd6e72241ef00db7a831ec5", func := "ferret/ferretlaw10.SyntaxTimes", spec := "syntaxTimes", unfollowed := true, recurses := true, named := ["ferret/coding.marks", "ferret/coding.leads", "strconv.ErrSyntax", "strconv.ErrRange", "internal/strconv.uint64pow10", "math/bits.deBruijn32tab", "math/bits.deBruijn64tab"], apart := false, laid := [("math/bits.deBruijn32tab", laid_math_bits_deBruijn32tab), ("math/bits.deBruijn64tab", laid_math_bits_deBruijn64tab), ("internal/strconv.uint64pow10", laid_internal_strconv_uint64pow10), ("strconv.ErrRange", laid_strconv_ErrRange), ("strconv.ErrSyntax", laid_strconv_ErrSyntax), ("ferret/coding.marks", laid_ferret_coding_marks), ("ferret/coding.leads", laid_ferret_coding_leads)], narrowed := true }
def SyntaxTimesUptoSaid : Prop := syntaxTimesUptoRow.holds Tryz.pinned (OpenSpec.upto syntaxTimesSpec)

/-- 'ferretlaw10.SyntaxEscapes', WHERE WHAT IT READS IS OF BULK AT MOST 1048576: true; the input reads as it did. -/
def syntaxEscapesUptoRow : OpenClaim := { program := "ytdhhcefmmojcmaagreatdoor", sum := "0c29ca3ab17d7fa065a5aee5e9b759907741e0655dd6e72241ef00db7a831ec5", func := "ferret/ferretlaw10.SyntaxEscapes", spec := "syntaxEscapes", unfollowed := true, recurses := true, named := ["ferret/coding.marks", "ferret/coding.leads", "strconv.ErrSyntax", "strconv.ErrRange", "internal/strconv.uint64pow10", "math/bits.deBruijn32tab", "math/bits.deBruijn64tab"], apart := false, laid := [("math/bits.deBruijn32tab", laid_math_bits_deBruijn32tab), ("math/bits.deBruijn64tab", laid_math_bits_deBruijn64tab), ("internal/strconv.uint64pow10", laid_internal_strconv_uint64pow10), ("strconv.ErrRange", laid_strconv_ErrRange), ("strconv.ErrSyntax", laid_strconv_ErrSyntax), ("ferret/coding.marks", laid_ferret_coding_marks), ("ferret/coding.leads", laid_ferret_coding_leads)], narrowed := true }
def SyntaxEscapesUptoSaid : Prop := syntaxEscapesUptoRow.holds Tryz.pinned (OpenSpec.upto syntaxEscapesSpec)

/-- 'ferretlaw10.SyntaxGroups', WHERE WHAT IT READS IS OF BULK AT MOST 1048576: true; the input reads as it did. -/
def syntaxGroupsUptoRow : OpenClaim := { program := "ytdhhcefmmojcmaagreatdoor", sum := "0c29ca3ab17d7fa065a5aee5e9b759907741e0655dd6e72241ef00db7a831ec5", func := "ferret/ferretlaw10.SyntaxGroups", spec := "syntaxGroups", unfollowed := true, recurses := true, named := ["ferret/coding.marks", "ferret/coding.leads", "strconv.ErrSyntax", "strconv.ErrRange", "internal/strconv.uint64pow10", "math/bits.deBruijn32tab", "math/bits.deBruijn64tab"], apart := false, laid := [("math/bits.deBruijn32tab", laid_math_bits_deBruijn32tab), ("math/bits.deBruijn64tab", laid_math_bits_deBruijn64tab), ("internal/strconv.uint64pow10", laid_internal_strconv_uint64pow10), ("strconv.ErrRange", laid_strconv_ErrRange), ("strconv.ErrSyntax", laid_strconv_ErrSyntax), ("ferret/coding.marks", laid_ferret_coding_marks), ("ferret/coding.leads", laid_ferret_coding_leads)], narrowed := true }
def SyntaxGroupsUptoSaid : Prop := syntaxGroupsUptoRow.holds Tryz.pinned (OpenSpec.upto syntaxGroupsSpec)

/-- 'ferretlaw10.SyntaxRanges', WHERE WHAT IT READS IS OF BULK AT MOST 1048576: true; the input reads as it did. -/
def syntaxRangesUptoRow : OpenClaim := { program := "ytdhhcefmmojcmaagreatdoor", sum := "0c29ca3ab17d7fa065a5aee5e9b759907741e0655dd6e72241ef00db7a831ec5", func := "ferret/ferretlaw10.SyntaxRanges", spec := "syntaxRanges", unfollowed := true, recurses := true, named := ["ferret/coding.marks", "ferret/coding.leads", "strconv.ErrSyntax", "strconv.ErrRange", "internal/strconv.uint64pow10", "math/bits.deBruijn32tab", "math/bits.deBruijn64tab"], apart := false, laid := [("math/bits.deBruijn32tab", laid_math_bits_deBruijn32tab), ("math/bits.deBruijn64tab", laid_math_bits_deBruijn64tab), ("internal/strconv.uint64pow10", laid_internal_strconv_uint64pow10), ("strconv.ErrRange", laid_strconv_ErrRange), ("strconv.ErrSyntax", laid_strconv_ErrSyntax), ("ferret/coding.marks", laid_ferret_coding_marks), ("ferret/coding.leads", laid_ferret_coding_leads)], narrowed := true }
def SyntaxRangesUptoSaid : Prop := syntaxRangesUptoRow.holds Tryz.pinned (OpenSpec.upto syntaxRangesSpec)

/-- 'ferrettop.TopClasses', WHERE WHAT IT READS IS OF BULK AT MOST 1048576: true; the input reads as it did. -/
def topClassesUptoRow : OpenClaim := { program := "ytdhhcefmmojcmaagreatdoor", sum := "0c29ca3ab17d7fa065a5aee5e9b759907741e0655dd6e72241ef00db7a831ec5", func := "ferret/ferrettop.TopClasses", spec := "topClasses", unfollowed := true, recurses := true, named := ["ferret/coding.marks", "ferret/coding.leads", "strconv.ErrSyntax", "strconv.ErrRange", "internal/strconv.uint64pow10", "math/bits.deBruijn32tab", "math/bits.deBruijn64tab"], apart := false, laid := [("math/bits.deBruijn32tab", laid_math_bits_deBruijn32tab), ("math/bits.deBruijn64tab", laid_math_bits_deBruijn64tab), ("internal/strconv.uint64pow10", laid_internal_strconv_uint64pow10), ("strconv.ErrRange", laid_strconv_ErrRange), ("strconv.ErrSyntax", laid_strconv_ErrSyntax), ("ferret/coding.marks", laid_ferret_coding_marks), ("ferret/coding.leads", laid_ferret_coding_leads)], narrowed := true }
def TopClassesUptoSaid : Prop := topClassesUptoRow.holds Tryz.pinned (OpenSpec.upto topClassesSpec)

end Rows
end Go.Proofs.YtdhhcefmmojcmaaGreatDoor
