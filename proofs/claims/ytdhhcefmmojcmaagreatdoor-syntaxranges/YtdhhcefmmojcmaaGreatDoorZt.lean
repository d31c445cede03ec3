/- What the frames of the Syntax laws lean on: the library's variables and coding's tables; no condition. -/
import Derived.Test.YtdhhcefmmojcmaaGreatDoorCards
import Derived.Test.YtdhhcefmmojcmaaGreatDoorTie
import Derived.Test.YtdhhcefmmojcmaaGreatDoorM7
import Derived.Test.YtdhhcefmmojcmaaGreatDoorKTb
import Derived.WalkKit
import Derived.ProofKit
import Derived.OpenShut
import Derived.ShutString
import Derived.Below
import Derived.Carry
import Derived.ChangeArms
import Derived.ChangeSame
import Derived.ChangeOld
import Derived.Deep.Slices
import Derived.Lib.SmallJoins
import Derived.Deep.DeepHandedRow
import Derived.Deep.DeepWitnessRowRef
import Derived.Lib.LaidTab
import Derived.Stop.LaidErr
import Derived.FnData
import Derived.SevenTiedAt
import Derived.LaidLaws
namespace Go.Proofs.YtdhhcefmmojcmaaGreatDoor
open Go.ChangeShapes Go.WideShapes Go.ChangeAt Go.RowKit
theorem own : ownKnob Tryz.prog.godebug = none := by kernel_rfl
theorem gES : Tryz.prog.globalNamed "strconv.ErrSyntax" = some 2 := by kernel_rfl
theorem gESType : (Tryz.prog.globals[2]?).map (·.type) = some 192 := by kernel_rfl
theorem gER : Tryz.prog.globalNamed "strconv.ErrRange" = some 3 := by kernel_rfl
theorem gERType : (Tryz.prog.globals[3]?).map (·.type) = some 192 := by kernel_rfl
theorem g64 : Tryz.prog.globalNamed "math/bits.deBruijn64tab" = some 6 := by kernel_rfl
theorem cells215 : Tryz.prog.cellsOf 215 = 1 := by kernel_rfl
theorem cells9 : Tryz.prog.cellsOf 9 = 1 := by kernel_rfl
theorem star : "*" ++ "errors.errorString" = "*errors.errorString" := by decide
theorem row213 (u : TypeId) (h : Tryz.prog.typeName? 3 u = some "*errors.errorString") : u = 213 :=
  typeName_ptr_named (nm := "errors.errorString") (by rw [star]; kernel_rfl) (by kernel_rfl) (by decide) u (by rw [star]; exact h)
/-- What the laws ask of the memory that they begin with. -/
structure Env (W : World) : Prop where
  tabs : TabsK W
  sx : Sx W
  low : 7 ≤ W.heap.size
theorem env_of {W : World} (h : laidMet Tryz.prog Rows.syntaxEscapesRow.laid W) : Env W := by
  refine ⟨tabs_of h.tail.tail.tail.tail.tail, ⟨?_, ?_⟩, ?_⟩
  · have h5 := h.tail.tail.tail.tail
    obtain ⟨a, s, hv, -, -, -⟩ := laid_sentinel h5 gES gESType Tryz.underlying192 row213 Tryz.underlying213 Tryz.underlying215 rfl rfl Tryz.underlying9 cells215 cells9
    have h0 := World.var?_cell gES hv 0
    exact ⟨_, by simpa using h0, .inr ⟨_, _, rfl⟩⟩
  · have h4 := h.tail.tail.tail
    obtain ⟨a, s, hv, -, -, -⟩ := laid_sentinel h4 gER gERType Tryz.underlying192 row213 Tryz.underlying213 Tryz.underlying215 rfl rfl Tryz.underlying9 cells215 cells9
    have h0 := World.var?_cell gER hv 0
    exact ⟨_, by simpa using h0, .inr ⟨_, _, rfl⟩⟩
  · have h2 := h.tail
    obtain ⟨ps, ⟨g, t, cs, fuel, p, q, hg, ht, hvar, _⟩, _⟩ := h2
    unfold World.var? at hvar
    rw [g64] at hvar
    simp only [Option.bind_some] at hvar
    rcases Nat.lt_or_ge 6 W.heap.size with e | e
    · exact e
    · rw [Array.getElem?_eq_none e] at hvar
      cases hvar
/-- A block that holds other cells. -/
def setC (cs : Array Value) : Obj → Obj
  | .cells _ t frozen => .cells cs t frozen
  | o => o
def pow10C : Array Value := #[.int .u64 1, .int .u64 10, .int .u64 100, .int .u64 1000, .int .u64 10000, .int .u64 100000, .int .u64 1000000, .int .u64 10000000, .int .u64 100000000, .int .u64 1000000000, .int .u64 10000000000, .int .u64 100000000000, .int .u64 1000000000000, .int .u64 10000000000000, .int .u64 100000000000000, .int .u64 1000000000000000, .int .u64 10000000000000000, .int .u64 100000000000000000, .int .u64 1000000000000000000, .int .u64 10000000000000000000]
def tab32C : Array Value := #[.int .u8 0, .int .u8 1, .int .u8 28, .int .u8 2, .int .u8 29, .int .u8 14, .int .u8 24, .int .u8 3, .int .u8 30, .int .u8 22, .int .u8 20, .int .u8 15, .int .u8 25, .int .u8 17, .int .u8 4, .int .u8 8, .int .u8 31, .int .u8 27, .int .u8 13, .int .u8 23, .int .u8 21, .int .u8 19, .int .u8 16, .int .u8 7, .int .u8 26, .int .u8 12, .int .u8 18, .int .u8 6, .int .u8 11, .int .u8 5, .int .u8 10, .int .u8 9]
def tab64C : Array Value := #[.int .u8 0, .int .u8 1, .int .u8 56, .int .u8 2, .int .u8 57, .int .u8 49, .int .u8 28, .int .u8 3, .int .u8 61, .int .u8 58, .int .u8 42, .int .u8 50, .int .u8 38, .int .u8 29, .int .u8 17, .int .u8 4, .int .u8 62, .int .u8 47, .int .u8 59, .int .u8 36, .int .u8 45, .int .u8 43, .int .u8 51, .int .u8 22, .int .u8 53, .int .u8 39, .int .u8 33, .int .u8 30, .int .u8 24, .int .u8 18, .int .u8 12, .int .u8 5, .int .u8 63, .int .u8 55, .int .u8 48, .int .u8 27, .int .u8 60, .int .u8 41, .int .u8 37, .int .u8 16, .int .u8 46, .int .u8 35, .int .u8 44, .int .u8 21, .int .u8 52, .int .u8 32, .int .u8 23, .int .u8 11, .int .u8 54, .int .u8 26, .int .u8 40, .int .u8 15, .int .u8 34, .int .u8 20, .int .u8 31, .int .u8 10, .int .u8 25, .int .u8 14, .int .u8 19, .int .u8 9, .int .u8 13, .int .u8 8, .int .u8 7, .int .u8 6]
/-- So many blocks has the settled world. -/
noncomputable def low : Nat := (World.holding Tryz.prog default ⟨#[], #[], []⟩).heap.size
def errAt (b : Nat) : Array Value := #[.iface 213 (.pointer (some ⟨b, 0, none⟩))]
/-- A world for the witness: the settled one with two blocks more, the sentinels' texts; the seven variables holding what their initialisers lay. -/
noncomputable def laidWorld (os : Os) : World :=
  let w0 := World.holding Tryz.prog os ⟨#[.cells #[.string ⟨#[105, 110, 118, 97, 108, 105, 100, 32, 115, 121, 110, 116, 97, 120]⟩] 215, .cells #[.string ⟨#[118, 97, 108, 117, 101, 32, 111, 117, 116, 32, 111, 102, 32, 114, 97, 110, 103, 101]⟩] 215], #[], []⟩
  { w0 with heap := ((((((w0.heap.modify 2 (setC (errAt low))).modify 3 (setC (errAt (low + 1)))).modify 4 (setC pow10C)).modify 5 (setC tab32C)).modify 6 (setC tab64C)).modify 0 (setC marksC)).modify 1 (setC leadsC) }
end Go.Proofs.YtdhhcefmmojcmaaGreatDoor
