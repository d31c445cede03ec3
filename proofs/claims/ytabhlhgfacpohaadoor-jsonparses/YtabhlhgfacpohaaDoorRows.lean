/-
  NARROWER THAN 'FOR EVERY INPUT', by the rows' own cells (each row's printed sentence says how): JsonNumbers: laid · JsonQuotes: laid · JsonLists: laid · JsonKeys: laid · JsonParses: laid.
  DERIVED. THE GIVEN ROWS OF THIS SEAT. 5 by the template 'for every input the law returns true; each argument reads behind the call as it read before'; 0 by the template 'total and deterministic' (their statements: YtabhlhgfacpohaaDoorTotals.lean).
  GIVEN WITH THE SEED: the statements are not yours to turn. If you find one false, say at which input.
  Laid BY PROGRAM, IN A SANDBOX (cutbox-rows.mjs): the forced cells as the released guide's own fill.sh prints them over the translation d3752c009198a7cf… (all of the seat's roots in one cut). By AI agents, Wed Nov 11 2026. No macro, syntax, notation, axiom, sorry.
-/
import Derived.Test.YtabhlhgfacpohaaDoorChecked
import GoSem.Claim
import GoSem.ClaimJoined
import GoSem.ClaimMapViews
import Derived.JoinedTies
import Derived.KernelRfl
namespace Go.Proofs.YtabhlhgfacpohaaDoor
/- THE CELL 'sum', in the pinned program and in every row, IS THE sha256 OF THE DUMP (.gsa) THAT YtabhlhgfacpohaaDoorProg.lean LOADS. Nothing in Lean hashes anything: it is a label: what it is worth is what the hold of that sum in a sandbox is worth. -/
noncomputable def Tryd.pinned : Pinned := { name := "ytabhlhgfacpohaadoor", sum := "d3752c009198a7cf0488fa9941f74771a97b301fce6e2dd1a30cb69dff0b3312", checked := Tryd.checked }
namespace Rows
def none {H : Type} : Left H := { results := [], args := [] }

/- WHAT THE LISTED PACKAGE-LEVEL VARIABLES READ AS WHEN THE CALL BEGINS. Each datum BY PROGRAM (the guide's laid-datum.mjs) off the statement by which the dump's own 'gosem.cut.vars' lays the variable. In a bare row this is a premise. The card (YtabhlhgfacpohaaDoorCards.lean) ties it to the program's text. -/
def laid_ferret_coding_marks {H : Type} : DataW H := .agg [.lit (.string []), .lit (.string [239, 187, 191]), .lit (.string [255, 254]), .lit (.string [254, 255]), .lit (.string [])]
def laid_ferret_coding_leads {H : Type} : DataW H := .agg [.agg [.lit (.int .u8 0), .lit (.int .u8 127), .lit (.int .i64 0), .lit (.int .u8 0), .lit (.int .u8 0)], .agg [.lit (.int .u8 194), .lit (.int .u8 223), .lit (.int .i64 1), .lit (.int .u8 128), .lit (.int .u8 191)], .agg [.lit (.int .u8 224), .lit (.int .u8 224), .lit (.int .i64 2), .lit (.int .u8 160), .lit (.int .u8 191)], .agg [.lit (.int .u8 225), .lit (.int .u8 236), .lit (.int .i64 2), .lit (.int .u8 128), .lit (.int .u8 191)], .agg [.lit (.int .u8 237), .lit (.int .u8 237), .lit (.int .i64 2), .lit (.int .u8 128), .lit (.int .u8 159)], .agg [.lit (.int .u8 238), .lit (.int .u8 239), .lit (.int .i64 2), .lit (.int .u8 128), .lit (.int .u8 191)], .agg [.lit (.int .u8 240), .lit (.int .u8 240), .lit (.int .i64 3), .lit (.int .u8 144), .lit (.int .u8 191)], .agg [.lit (.int .u8 241), .lit (.int .u8 243), .lit (.int .i64 3), .lit (.int .u8 128), .lit (.int .u8 191)], .agg [.lit (.int .u8 244), .lit (.int .u8 244), .lit (.int .i64 3), .lit (.int .u8 128), .lit (.int .u8 143)]]

/-- 'ferretlaw22.JsonNumbers': WHATEVER THE INPUT: true; the input reads as it did. -/
def jsonNumbersSpec : ChangeSpec := { name := "jsonNumbers", fn := fun _ => fun
  | [d] => { results := [.lit (.bool true)], args := [d] }
  | _ => none }
def jsonNumbersRow : OpenClaim := { program := "ytabhlhgfacpohaadoor", sum := "d3752c009198a7cf0488fa9941f74771a97b301fce6e2dd1a30cb69dff0b3312", func := "ferret/ferretlaw22.JsonNumbers", spec := "jsonNumbers", inPlace := ["internal/bytealg.IndexByteString", "internal/bytealg.IndexString"], unfollowed := true, recurses := true, named := ["ferret/coding.marks", "ferret/coding.leads", "internal/bytealg.MaxLen"], apart := false, laid := [("ferret/coding.marks", laid_ferret_coding_marks), ("ferret/coding.leads", laid_ferret_coding_leads)] }
def JsonNumbersSaid : Prop := jsonNumbersRow.holds Tryd.pinned (OpenSpec.ofChange jsonNumbersSpec)

/-- ITS FALSE NEIGHBOUR: 'it returns false'. Refute it at one input. -/
def jsonNumbersWrong : ChangeSpec := { name := "jsonNumbers", fn := fun _ => fun
  | [d] => { results := [.lit (.bool false)], args := [d] }
  | _ => none }
def JsonNumbersWrongFalsely : Prop := jsonNumbersRow.holds Tryd.pinned (OpenSpec.ofChange jsonNumbersWrong)

/-- 'ferretlaw22.JsonQuotes': WHATEVER THE INPUT: true; the input reads as it did. -/
def jsonQuotesSpec : ChangeSpec := { name := "jsonQuotes", fn := fun _ => fun
  | [d] => { results := [.lit (.bool true)], args := [d] }
  | _ => none }
def jsonQuotesRow : OpenClaim := { program := "ytabhlhgfacpohaadoor", sum := "d3752c009198a7cf0488fa9941f74771a97b301fce6e2dd1a30cb69dff0b3312", func := "ferret/ferretlaw22.JsonQuotes", spec := "jsonQuotes", inPlace := ["internal/bytealg.IndexByteString", "internal/bytealg.IndexString"], unfollowed := true, recurses := true, named := ["ferret/coding.marks", "ferret/coding.leads", "internal/bytealg.MaxLen"], apart := false, laid := [("ferret/coding.marks", laid_ferret_coding_marks), ("ferret/coding.leads", laid_ferret_coding_leads)] }
def JsonQuotesSaid : Prop := jsonQuotesRow.holds Tryd.pinned (OpenSpec.ofChange jsonQuotesSpec)

/-- ITS FALSE NEIGHBOUR: 'it returns false'. Refute it at one input. -/
def jsonQuotesWrong : ChangeSpec := { name := "jsonQuotes", fn := fun _ => fun
  | [d] => { results := [.lit (.bool false)], args := [d] }
  | _ => none }
def JsonQuotesWrongFalsely : Prop := jsonQuotesRow.holds Tryd.pinned (OpenSpec.ofChange jsonQuotesWrong)

/-- 'ferretlaw22.JsonLists': WHATEVER THE INPUT: true; the input reads as it did. -/
def jsonListsSpec : ChangeSpec := { name := "jsonLists", fn := fun _ => fun
  | [d1, d2] => { results := [.lit (.bool true)], args := [d1, d2] }
  | _ => none }
def jsonListsRow : OpenClaim := { program := "ytabhlhgfacpohaadoor", sum := "d3752c009198a7cf0488fa9941f74771a97b301fce6e2dd1a30cb69dff0b3312", func := "ferret/ferretlaw22.JsonLists", spec := "jsonLists", inPlace := ["internal/bytealg.IndexByteString", "internal/bytealg.IndexString"], unfollowed := true, recurses := true, named := ["ferret/coding.marks", "ferret/coding.leads", "internal/bytealg.MaxLen"], apart := false, laid := [("ferret/coding.marks", laid_ferret_coding_marks), ("ferret/coding.leads", laid_ferret_coding_leads)] }
def JsonListsSaid : Prop := jsonListsRow.holds Tryd.pinned (OpenSpec.ofChange jsonListsSpec)

/-- ITS FALSE NEIGHBOUR: 'it returns false'. Refute it at one input. -/
def jsonListsWrong : ChangeSpec := { name := "jsonLists", fn := fun _ => fun
  | [d1, d2] => { results := [.lit (.bool false)], args := [d1, d2] }
  | _ => none }
def JsonListsWrongFalsely : Prop := jsonListsRow.holds Tryd.pinned (OpenSpec.ofChange jsonListsWrong)

/-- 'ferretlaw22.JsonKeys': WHATEVER THE INPUT: true; the input reads as it did. -/
def jsonKeysSpec : ChangeSpec := { name := "jsonKeys", fn := fun _ => fun
  | [d1, d2] => { results := [.lit (.bool true)], args := [d1, d2] }
  | _ => none }
def jsonKeysRow : OpenClaim := { program := "ytabhlhgfacpohaadoor", sum := "d3752c009198a7cf0488fa9941f74771a97b301fce6e2dd1a30cb69dff0b3312", func := "ferret/ferretlaw22.JsonKeys", spec := "jsonKeys", inPlace := ["internal/bytealg.IndexByteString", "internal/bytealg.IndexString"], unfollowed := true, recurses := true, named := ["ferret/coding.marks", "ferret/coding.leads", "internal/bytealg.MaxLen"], apart := false, laid := [("ferret/coding.marks", laid_ferret_coding_marks), ("ferret/coding.leads", laid_ferret_coding_leads)] }
def JsonKeysSaid : Prop := jsonKeysRow.holds Tryd.pinned (OpenSpec.ofChange jsonKeysSpec)

/-- ITS FALSE NEIGHBOUR: 'it returns false'. Refute it at one input. -/
def jsonKeysWrong : ChangeSpec := { name := "jsonKeys", fn := fun _ => fun
  | [d1, d2] => { results := [.lit (.bool false)], args := [d1, d2] }
  | _ => none }
def JsonKeysWrongFalsely : Prop := jsonKeysRow.holds Tryd.pinned (OpenSpec.ofChange jsonKeysWrong)

/-- 'ferretlaw22.JsonParses': WHATEVER THE INPUT: true; the input reads as it did. -/
def jsonParsesSpec : ChangeSpec := { name := "jsonParses", fn := fun _ => fun
  | [d] => { results := [.lit (.bool true)], args := [d] }
  | _ => none }
def jsonParsesRow : OpenClaim := { program := "ytabhlhgfacpohaadoor", sum := "d3752c009198a7cf0488fa9941f74771a97b301fce6e2dd1a30cb69dff0b3312", func := "ferret/ferretlaw22.JsonParses", spec := "jsonParses", inPlace := ["internal/bytealg.IndexByteString", "internal/bytealg.IndexString"], unfollowed := true, recurses := true, named := ["ferret/coding.marks", "ferret/coding.leads", "internal/bytealg.MaxLen"], apart := false, laid := [("ferret/coding.marks", laid_ferret_coding_marks), ("ferret/coding.leads", laid_ferret_coding_leads)] }
def JsonParsesSaid : Prop := jsonParsesRow.holds Tryd.pinned (OpenSpec.ofChange jsonParsesSpec)

/-- ITS FALSE NEIGHBOUR: 'it returns false'. Refute it at one input. -/
def jsonParsesWrong : ChangeSpec := { name := "jsonParses", fn := fun _ => fun
  | [d] => { results := [.lit (.bool false)], args := [d] }
  | _ => none }
def JsonParsesWrongFalsely : Prop := jsonParsesRow.holds Tryd.pinned (OpenSpec.ofChange jsonParsesWrong)

/- THE SECOND FORM. 'bulk': how many values and letters a reading holds, each counted each time it is reached (what is shared counts as often as it is met; a slice's spare places count too). A statement '..UptoSaid' is the law's where the arguments, and the package variables that the reading takes, are together of bulk at most 1048576: NARROWER than '..Said'. Prove '..Said' where nothing that the law and all that it calls make is longer than what came in: it says more and counts as full. Else prove '..UptoSaid'. A law counts once. -/
mutual
def uptoBulk {H : Type} : DataW H → Nat
  | .lit (.string bytes) => bytes.length + 1
  | .lit _ => 1
  | .nil => 1
  | .ptr d => uptoBulk d + 1
  | .slice elems spare => uptoBulkAll elems + uptoBulkAll spare + 1
  | .agg parts => uptoBulkAll parts + 1
  | .iface _ d => uptoBulk d + 1
  | .map entries => uptoBulkEntries entries + 1
  | .held _ => 1
def uptoBulkAll {H : Type} : List (DataW H) → Nat
  | [] => 0
  | d :: r => uptoBulk d + uptoBulkAll r
def uptoBulkEntries {H : Type} : List (Lit × DataW H) → Nat
  | [] => 0
  | x :: r => uptoBulkEntry x + uptoBulkEntries r
def uptoBulkEntry {H : Type} : Lit × DataW H → Nat
  | (.string bytes, d) => bytes.length + uptoBulk d + 1
  | (_, d) => uptoBulk d + 1
 end
def uptoSmall : (H : Type) → List (DataW H) → Bool := fun _ ds => decide (uptoBulkAll ds ≤ 1048576)
def OpenSpec.upto (s : _root_.Go.ChangeSpec) : _root_.Go.OpenSpec := { _root_.Go.OpenSpec.ofChange s with cond := some uptoSmall }

/-- 'ferretlaw22.JsonNumbers', WHERE WHAT IT READS IS OF BULK AT MOST 1048576: true; the input reads as it did. -/
def jsonNumbersUptoRow : OpenClaim := { program := "ytabhlhgfacpohaadoor", sum := "d3752c009198a7cf0488fa9941f74771a97b301fce6e2dd1a30cb69dff0b3312", func := "ferret/ferretlaw22.JsonNumbers", spec := "jsonNumbers", inPlace := ["internal/bytealg.IndexByteString", "internal/bytealg.IndexString"], unfollowed := true, recurses := true, named := ["ferret/coding.marks", "ferret/coding.leads", "internal/bytealg.MaxLen"], apart := false, laid := [("ferret/coding.marks", laid_ferret_coding_marks), ("ferret/coding.leads", laid_ferret_coding_leads)], narrowed := true }
def JsonNumbersUptoSaid : Prop := jsonNumbersUptoRow.holds Tryd.pinned (OpenSpec.upto jsonNumbersSpec)

/-- 'ferretlaw22.JsonQuotes', WHERE WHAT IT READS IS OF BULK AT MOST 1048576: true; the input reads as it did. -/
def jsonQuotesUptoRow : OpenClaim := { program := "ytabhlhgfacpohaadoor", sum := "d3752c009198a7cf0488fa9941f74771a97b301fce6e2dd1a30cb69dff0b3312", func := "ferret/ferretlaw22.JsonQuotes", spec := "jsonQuotes", inPlace := ["internal/bytealg.IndexByteString", "internal/bytealg.IndexString"], unfollowed := true, recurses := true, named := ["ferret/coding.marks", "ferret/coding.leads", "internal/bytealg.MaxLen"], apart := false, laid := [("ferret/coding.marks", laid_ferret_coding_marks), ("ferret/coding.leads", laid_ferret_coding_leads)], narrowed := true }
def JsonQuotesUptoSaid : Prop := jsonQuotesUptoRow.holds Tryd.pinned (OpenSpec.upto jsonQuotesSpec)

/-- 'ferretlaw22.JsonLists', WHERE WHAT IT READS IS OF BULK AT MOST 1048576: true; the input reads as it did. -/
def jsonListsUptoRow : OpenClaim := { program := "ytabhlhgfacpohaadoor", sum := "d3752c009198a7cf0488fa9941f74771a97b301fce6e2dd1a30cb69dff0b3312", func := "ferret/ferretlaw22.JsonLists", spec := "jsonLists", inPlace := ["internal/bytealg.IndexByteString", "internal/bytealg.IndexString"], unfollowed := true, recurses := true, named := ["ferret/coding.marks", "ferret/coding.leads", "internal/bytealg.MaxLen"], apart := false, laid := [("ferret/coding.marks", laid_ferret_coding_marks), ("ferret/coding.leads", laid_ferret_coding_leads)], narrowed := true }
def JsonListsUptoSaid : Prop := jsonListsUptoRow.holds Tryd.pinned (OpenSpec.upto jsonListsSpec)

/-- 'ferretlaw22.JsonKeys', WHERE WHAT IT READS IS OF BULK AT MOST 1048576: true; the input reads as it did. -/
def jsonKeysUptoRow : OpenClaim := { program := "ytabhlhgfacpohaadoor", sum := "d3752c009198a7cf0488fa9941f74771a97b301fce6e2dd1a30cb69dff0b3312", func := "ferret/ferretlaw22.JsonKeys", spec := "jsonKeys", inPlace := ["internal/bytealg.IndexByteString", "internal/bytealg.IndexString"], unfollowed := true, recurses := true, named := ["ferret/coding.marks", "ferret/coding.leads", "internal/bytealg.MaxLen"], apart := false, laid := [("ferret/coding.marks", laid_ferret_coding_marks), ("ferret/coding.leads", laid_ferret_coding_leads)], narrowed := true }
def JsonKeysUptoSaid : Prop := jsonKeysUptoRow.holds Tryd.pinned (OpenSpec.upto jsonKeysSpec)

/-- 'ferretlaw22.JsonParses', WHERE WHAT IT READS IS OF BULK AT MOST 1048576: true; the input reads as it did. -/
def jsonParsesUptoRow : OpenClaim := { program := "ytabhlhgfacpohaadoor", sum := "d3752c009198a7cf0488fa9941f74771a97b301fce6e2dd1a30cb69dff0b3312", func := "ferret/ferretlaw22.JsonParses", spec := "jsonParses", inPlace := ["internal/bytealg.IndexByteString", "internal/bytealg.IndexString"], unfollowed := true, recurses := true, named := ["ferret/coding.marks", "ferret/coding.leads", "internal/bytealg.MaxLen"], apart := false, laid := [("ferret/coding.marks", laid_ferret_coding_marks), ("ferret/coding.leads", laid_ferret_coding_leads)], narrowed := true }
def JsonParsesUptoSaid : Prop := jsonParsesUptoRow.holds Tryd.pinned (OpenSpec.upto jsonParsesSpec)

end Rows
end Go.Proofs.YtabhlhgfacpohaaDoor
