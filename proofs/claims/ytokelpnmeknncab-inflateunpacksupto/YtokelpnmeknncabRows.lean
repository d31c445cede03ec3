/-
  No cell of these rows narrows 'for every input' (looked for: loops, veiled, ifaces, maps, wideKeys, modest, calm, conditions, laid).
  DERIVED. THE GIVEN ROWS OF THIS SEAT. 6 by the template 'for every input the law returns true; each argument reads behind the call as it read before'; 0 by the template 'total and deterministic' (their statements: YtokelpnmeknncabTotals.lean).
  GIVEN WITH THE SEED: the statements are not yours to turn. If you find one false, say at which input.
  Laid BY PROGRAM, IN A SANDBOX (cutbox-rows.mjs): the forced cells as the released guide's own fill.sh prints them over the translation 1376d1926932a694… (all of the seat's roots in one cut). By AI agents, Wed Nov 11 2026. No macro, syntax, notation, axiom, sorry.
-/
import Derived.Test.YtokelpnmeknncabChecked
import GoSem.Claim
import GoSem.ClaimJoined
import GoSem.ClaimMapViews
import Derived.JoinedTies
import Derived.KernelRfl
namespace Go.Proofs.Ytokelpnmeknncab
/- THE CELL 'sum', in the pinned program and in every row, IS THE sha256 OF THE DUMP (.gsa) THAT YtokelpnmeknncabProg.lean LOADS. Nothing in Lean hashes anything: it is a label: what it is worth is what the hold of that sum in a sandbox is worth. -/
noncomputable def Try.pinned : Pinned := { name := "ytokelpnmeknncab", sum := "1376d1926932a69431964091553d5ea914dd349a99fe6c5c103bfddea9bc8acb", checked := Try.checked }
namespace Rows
def none {H : Type} : Left H := { results := [], args := [] }

/-- 'ferrettop.TopCodes': WHATEVER THE INPUT: true; the input reads as it did. -/
def topCodesSpec : ChangeSpec := { name := "topCodes", fn := fun _ => fun
  | [d1, d2] => { results := [.lit (.bool true)], args := [d1, d2] }
  | _ => none }
def topCodesRow : OpenClaim := { program := "ytokelpnmeknncab", sum := "1376d1926932a69431964091553d5ea914dd349a99fe6c5c103bfddea9bc8acb", func := "ferret/ferrettop.TopCodes", spec := "topCodes", apart := false }
def TopCodesSaid : Prop := topCodesRow.holds Try.pinned (OpenSpec.ofChange topCodesSpec)

/-- ITS FALSE NEIGHBOUR: 'it returns false'. Refute it at one input. -/
def topCodesWrong : ChangeSpec := { name := "topCodes", fn := fun _ => fun
  | [d1, d2] => { results := [.lit (.bool false)], args := [d1, d2] }
  | _ => none }
def TopCodesWrongFalsely : Prop := topCodesRow.holds Try.pinned (OpenSpec.ofChange topCodesWrong)

/-- 'ferretlaw03.InflateSymbols': WHATEVER THE INPUT: true; the input reads as it did. -/
def inflateSymbolsSpec : ChangeSpec := { name := "inflateSymbols", fn := fun _ => fun
  | [d1, d2, d3] => { results := [.lit (.bool true)], args := [d1, d2, d3] }
  | _ => none }
def inflateSymbolsRow : OpenClaim := { program := "ytokelpnmeknncab", sum := "1376d1926932a69431964091553d5ea914dd349a99fe6c5c103bfddea9bc8acb", func := "ferret/ferretlaw03.InflateSymbols", spec := "inflateSymbols", apart := false }
def InflateSymbolsSaid : Prop := inflateSymbolsRow.holds Try.pinned (OpenSpec.ofChange inflateSymbolsSpec)

/-- ITS FALSE NEIGHBOUR: 'it returns false'. Refute it at one input. -/
def inflateSymbolsWrong : ChangeSpec := { name := "inflateSymbols", fn := fun _ => fun
  | [d1, d2, d3] => { results := [.lit (.bool false)], args := [d1, d2, d3] }
  | _ => none }
def InflateSymbolsWrongFalsely : Prop := inflateSymbolsRow.holds Try.pinned (OpenSpec.ofChange inflateSymbolsWrong)

/-- 'ferretlaw03.InflateUnpacks': WHATEVER THE INPUT: true; the input reads as it did. -/
def inflateUnpacksSpec : ChangeSpec := { name := "inflateUnpacks", fn := fun _ => fun
  | [d1, d2, d3] => { results := [.lit (.bool true)], args := [d1, d2, d3] }
  | _ => none }
def inflateUnpacksRow : OpenClaim := { program := "ytokelpnmeknncab", sum := "1376d1926932a69431964091553d5ea914dd349a99fe6c5c103bfddea9bc8acb", func := "ferret/ferretlaw03.InflateUnpacks", spec := "inflateUnpacks", apart := false }
def InflateUnpacksSaid : Prop := inflateUnpacksRow.holds Try.pinned (OpenSpec.ofChange inflateUnpacksSpec)

/-- ITS FALSE NEIGHBOUR: 'it returns false'. Refute it at one input. -/
def inflateUnpacksWrong : ChangeSpec := { name := "inflateUnpacks", fn := fun _ => fun
  | [d1, d2, d3] => { results := [.lit (.bool false)], args := [d1, d2, d3] }
  | _ => none }
def InflateUnpacksWrongFalsely : Prop := inflateUnpacksRow.holds Try.pinned (OpenSpec.ofChange inflateUnpacksWrong)

/-- 'ferretlaw03.InflateMore': WHATEVER THE INPUT: true; the input reads as it did. -/
def inflateMoreSpec : ChangeSpec := { name := "inflateMore", fn := fun _ => fun
  | [d1, d2, d3] => { results := [.lit (.bool true)], args := [d1, d2, d3] }
  | _ => none }
def inflateMoreRow : OpenClaim := { program := "ytokelpnmeknncab", sum := "1376d1926932a69431964091553d5ea914dd349a99fe6c5c103bfddea9bc8acb", func := "ferret/ferretlaw03.InflateMore", spec := "inflateMore", apart := false }
def InflateMoreSaid : Prop := inflateMoreRow.holds Try.pinned (OpenSpec.ofChange inflateMoreSpec)

/-- ITS FALSE NEIGHBOUR: 'it returns false'. Refute it at one input. -/
def inflateMoreWrong : ChangeSpec := { name := "inflateMore", fn := fun _ => fun
  | [d1, d2, d3] => { results := [.lit (.bool false)], args := [d1, d2, d3] }
  | _ => none }
def InflateMoreWrongFalsely : Prop := inflateMoreRow.holds Try.pinned (OpenSpec.ofChange inflateMoreWrong)

/-- 'ferretlaw03.InflateStored': WHATEVER THE INPUT: true; the input reads as it did. -/
def inflateStoredSpec : ChangeSpec := { name := "inflateStored", fn := fun _ => fun
  | [d] => { results := [.lit (.bool true)], args := [d] }
  | _ => none }
def inflateStoredRow : OpenClaim := { program := "ytokelpnmeknncab", sum := "1376d1926932a69431964091553d5ea914dd349a99fe6c5c103bfddea9bc8acb", func := "ferret/ferretlaw03.InflateStored", spec := "inflateStored", apart := false }
def InflateStoredSaid : Prop := inflateStoredRow.holds Try.pinned (OpenSpec.ofChange inflateStoredSpec)

/-- ITS FALSE NEIGHBOUR: 'it returns false'. Refute it at one input. -/
def inflateStoredWrong : ChangeSpec := { name := "inflateStored", fn := fun _ => fun
  | [d] => { results := [.lit (.bool false)], args := [d] }
  | _ => none }
def InflateStoredWrongFalsely : Prop := inflateStoredRow.holds Try.pinned (OpenSpec.ofChange inflateStoredWrong)

/-- 'ferretlaw03.InflateCut': WHATEVER THE INPUT: true; the input reads as it did. -/
def inflateCutSpec : ChangeSpec := { name := "inflateCut", fn := fun _ => fun
  | [d1, d2] => { results := [.lit (.bool true)], args := [d1, d2] }
  | _ => none }
def inflateCutRow : OpenClaim := { program := "ytokelpnmeknncab", sum := "1376d1926932a69431964091553d5ea914dd349a99fe6c5c103bfddea9bc8acb", func := "ferret/ferretlaw03.InflateCut", spec := "inflateCut", apart := false }
def InflateCutSaid : Prop := inflateCutRow.holds Try.pinned (OpenSpec.ofChange inflateCutSpec)

/-- ITS FALSE NEIGHBOUR: 'it returns false'. Refute it at one input. -/
def inflateCutWrong : ChangeSpec := { name := "inflateCut", fn := fun _ => fun
  | [d1, d2] => { results := [.lit (.bool false)], args := [d1, d2] }
  | _ => none }
def InflateCutWrongFalsely : Prop := inflateCutRow.holds Try.pinned (OpenSpec.ofChange inflateCutWrong)

/- THE SECOND FORM. 'bulk': how many values and letters a reading holds, each counted each time it is reached (what is shared counts as often as it is met; a slice's spare places count too). A statement '..UptoSaid' is the law's where the arguments, and the package variables that the reading takes, are together of bulk at most 1048576: NARROWER than '..Said'. Prove '..Said' where nothing that the law and all that it calls make is longer than what came in: it says more and counts as full. Else prove '..UptoSaid'. A law counts once. -/
mutual
def uptoBulk {H : Type} : DataW H → Nat
  | .lit (.string bytes) => bytes.length + 1
  | .lit _ => 1
  | .nil => 1
  | .ptr d => uptoBulk d + 1
  | .slice elems spare => uptoBulkAll elems + uptoBulkAll spare + 1
  | .agg parts => uptoBulkAll parts + 1
  | .iface _ d => uptoBulk d + 1
  | .map entries => uptoBulkEntries entries + 1
  | .held _ => 1
def uptoBulkAll {H : Type} : List (DataW H) → Nat
  | [] => 0
  | d :: r => uptoBulk d + uptoBulkAll r
def uptoBulkEntries {H : Type} : List (Lit × DataW H) → Nat
  | [] => 0
  | x :: r => uptoBulkEntry x + uptoBulkEntries r
def uptoBulkEntry {H : Type} : Lit × DataW H → Nat
  | (.string bytes, d) => bytes.length + uptoBulk d + 1
  | (_, d) => uptoBulk d + 1
 end
def uptoSmall : (H : Type) → List (DataW H) → Bool := fun _ ds => decide (uptoBulkAll ds ≤ 1048576)
def OpenSpec.upto (s : _root_.Go.ChangeSpec) : _root_.Go.OpenSpec := { _root_.Go.OpenSpec.ofChange s with cond := some uptoSmall }

/-- 'ferrettop.TopCodes', WHERE WHAT IT READS IS OF BULK AT MOST 1048576: true; the input reads as it did. -/
def topCodesUptoRow : OpenClaim := { program := "ytokelpnmeknncab", sum := "1376d1926932a69431964091553d5ea914dd349a99fe6c5c103bfddea9bc8acb", func := "ferret/ferrettop.TopCodes", spec := "topCodes", apart := false, narrowed := true }
def TopCodesUptoSaid : Prop := topCodesUptoRow.holds Try.pinned (OpenSpec.upto topCodesSpec)

/-- 'ferretlaw03.InflateSymbols', WHERE WHAT IT READS IS OF BULK AT MOST 1048576: true; the input reads as it did. -/
def inflateSymbolsUptoRow : OpenClaim := { program := "ytokelpnmeknncab", sum := "1376d1926932a69431964091553d5ea914dd349a99fe6c5c103bfddea9bc8acb", func := "ferret/ferretlaw03.InflateSymbols", spec := "inflateSymbols", apart := false, narrowed := true }
def InflateSymbolsUptoSaid : Prop := inflateSymbolsUptoRow.holds Try.pinned (OpenSpec.upto inflateSymbolsSpec)

/-- 'ferretlaw03.InflateUnpacks', WHERE WHAT IT READS IS OF BULK AT MOST 1048576: true; the input reads as it did. -/
def inflateUnpacksUptoRow : OpenClaim := { program := "ytokelpnmeknncab", sum := "1376d1926932a69431964091553d5ea914dd349a99fe6c5c103bfddea9bc8acb", func := "ferret/ferretlaw03.InflateUnpacks", spec := "inflateUnpacks", apart := false, narrowed := true }
def InflateUnpacksUptoSaid : Prop := inflateUnpacksUptoRow.holds Try.pinned (OpenSpec.upto inflateUnpacksSpec)

/-- 'ferretlaw03.InflateMore', WHERE WHAT IT READS IS OF BULK AT MOST 1048576: true; the input reads as it did. -/
def inflateMoreUptoRow : OpenClaim := { program := "ytokelpnmeknncab", sum := "1376d1926932a69431964091553d5ea914dd349a99fe6c5c103bfddea9bc8acb", func := "ferret/ferretlaw03.InflateMore", spec := "inflateMore", apart := false, narrowed := true }
def InflateMoreUptoSaid : Prop := inflateMoreUptoRow.holds Try.pinned (OpenSpec.upto inflateMoreSpec)

/-- 'ferretlaw03.InflateStored', WHERE WHAT IT READS IS OF BULK AT MOST 1048576: true; the input reads as it did. -/
def inflateStoredUptoRow : OpenClaim := { program := "ytokelpnmeknncab", sum := "1376d1926932a69431964091553d5ea914dd349a99fe6c5c103bfddea9bc8acb", func := "ferret/ferretlaw03.InflateStored", spec := "inflateStored", apart := false, narrowed := true }
def InflateStoredUptoSaid : Prop := inflateStoredUptoRow.holds Try.pinned (OpenSpec.upto inflateStoredSpec)

/-- 'ferretlaw03.InflateCut', WHERE WHAT IT READS IS OF BULK AT MOST 1048576: true; the input reads as it did. -/
def inflateCutUptoRow : OpenClaim := { program := "ytokelpnmeknncab", sum := "1376d1926932a69431964091553d5ea914dd349a99fe6c5c103bfddea9bc8acb", func := "ferret/ferretlaw03.InflateCut", spec := "inflateCut", apart := false, narrowed := true }
def InflateCutUptoSaid : Prop := inflateCutUptoRow.holds Try.pinned (OpenSpec.upto inflateCutSpec)

end Rows
end Go.Proofs.Ytokelpnmeknncab
