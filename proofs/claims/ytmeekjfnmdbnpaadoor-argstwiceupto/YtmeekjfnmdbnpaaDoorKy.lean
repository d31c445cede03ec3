/- The keys of a request; no condition. -/
import Derived.Test.YtmeekjfnmdbnpaaDoorSk
import Derived.Deep.RegionLaw
import Derived.Test.YtmeekjfnmdbnpaaDoorLx
import Derived.Lib.SliceRun
import Derived.Lib.LazyBuf
namespace Go.Proofs.YtmeekjfnmdbnpaaDoor
open Go.RowKit
open Go.Lib

/-- The keys' words, in their order. -/
def words : List Bs := [[99, 111, 110, 116, 97, 105, 110, 101, 114], [99, 111, 100, 105, 110, 103], [109, 111, 100, 101], [109, 111, 115, 116], [115, 116, 97, 116, 101, 115], [115, 116, 114, 105, 99, 116], [105, 110, 118, 101, 114, 116], [109, 117, 108, 116, 105], [110, 97, 109, 101, 100], [102, 111, 108, 100], [108, 105, 110, 101, 115], [100, 111, 116], [115, 104, 111, 114, 116], [108, 97, 122, 121], [119, 111, 114, 100, 115], [112, 97, 116, 116, 101, 114, 110], [116, 101, 109, 112, 108, 97, 116, 101], [98, 108, 111, 98]]
/-- Where in a request each one's value is kept. -/
def offs : List Nat := [0, 1, 2, 3, 14, 4, 5, 6, 7, 8, 9, 10, 11, 12, 13, 15, 16, 17]
def kd (k : Nat) : TypeId := if k < 5 then 93 else if k < 15 then 96 else 99
def wordB (k : Nat) : Bs := words.getD k []
def offK (k : Nat) : Nat := offs.getD k 0
def kv (b k : Nat) : Value := .iface (kd k) (.agg #[.pointer (some ⟨b, offK k, none⟩)])
def kcell (b k : Nat) : List Value := [sv (wordB k), kv b k]
def flatK (b : Nat) (l : List Nat) : List Value := l.flatMap (kcell b)
noncomputable def keysOps : List Oper := match Tryd.f31.body with
  | some c => opsOf c 1 ++ opsOf c 0
  | none => []
theorem k_len : keysOps.length = 134 := by kernel_rfl
theorem k_sel : Region.noSelect keysOps.toArray = true := by kernel_rfl
theorem k_chain : Region.chainB .any keysOps.toArray 132 = true := by kernel_rfl
theorem k_sink : Region.sinkB .any keysOps.toArray 132 = true := by kernel_rfl
theorem k_pair : pairB keysOps.toArray 0 keysOps 132 = true := by kernel_rfl
theorem k_seq : Region.seqB .any keysOps.toArray (keysOps.length - 132) 132 (upTo keysOps.length 132) = true := by kernel_rfl
theorem k_lex {l : List Oper} (h : l = keysOps) : Region.lexTailB .any l.toArray 132 = true := by
  subst h
  exact lexTail_of keysOps 132 k_sel (by rw [k_len]; decide) k_sink k_chain k_pair k_seq
theorem list_hide {P : Program} {ops : Array Oper} {w : World} {Q : Exit → Act → World → Prop} {l : List Oper} {a : Act} (h : ∀ ops' : Array Oper, wpList P ops' Q l a w) : wpList P ops Q l a w := h _
theorem still_hide {P : Program} {ops : Array Oper} {w : World} {Q : Act → Prop} {l : List Oper} {a : Act} (h : ∀ (ops' : Array Oper) (Qs : Act → Prop), (∀ a', Q a' → Qs a') → wpStill P ops' w Qs l a) : wpStill P ops w Q l a := h _ _ (fun _ h => h)
set_option maxRecDepth 100000 in
set_option maxHeartbeats 8000000 in
theorem keys_any (b : Nat) (w : World) :
    Calls Tryd.prog 31 #[.pointer (some ⟨b, 0, none⟩)] w fun e w' => e = .returned (.slice (some ⟨w.heap.size, 0, none⟩) 18 18) ∧ w' = w.drew.alloc (.cells (flatK b (List.range 18)).toArray 87) := by
  go_enter Tryd.func31, Tryd.ntmps31
  go_wp2_with fail
  dsimp only [List.append]
  refine wp_region_still_tail 132 (by kernel_rfl) (k_lex (by kernel_rfl)) ?_
  refine still_hide ?_
  intro ops' Qs hQs
  generalize hWD : ({ w with drawn := w.drawn + 1 } : World) = wd at *
  dsimp only [List.take_succ_cons, List.take_zero]
  iterate 7 still_step
  obtain ⟨K0, hK0⟩ : ∃ K, K = Value.agg #[Value.string ⟨#[99, 111, 110, 116, 97, 105, 110, 101, 114]⟩, Value.iface 93 (Value.agg #[Value.pointer (some ⟨b, 0, none⟩)])] := ⟨_, rfl⟩
  rw [← hK0]
  have HK0 := hid hK0
  clear hK0
  generalize Value.iface 93 (Value.agg #[Value.pointer (some ⟨b, 0, none⟩)]) = I0
  generalize Value.agg #[Value.pointer (some ⟨b, 0, none⟩)] = A0
  iterate 7 still_step
  obtain ⟨K1, hK1⟩ : ∃ K, K = Value.agg #[Value.string ⟨#[99, 111, 100, 105, 110, 103]⟩, Value.iface 93 (Value.agg #[Value.pointer (some ⟨b, 1, none⟩)])] := ⟨_, rfl⟩
  rw [← hK1]
  have HK1 := hid hK1
  clear hK1
  generalize Value.iface 93 (Value.agg #[Value.pointer (some ⟨b, 1, none⟩)]) = I1
  generalize Value.agg #[Value.pointer (some ⟨b, 1, none⟩)] = A1
  iterate 7 still_step
  obtain ⟨K2, hK2⟩ : ∃ K, K = Value.agg #[Value.string ⟨#[109, 111, 100, 101]⟩, Value.iface 93 (Value.agg #[Value.pointer (some ⟨b, 2, none⟩)])] := ⟨_, rfl⟩
  rw [← hK2]
  have HK2 := hid hK2
  clear hK2
  generalize Value.iface 93 (Value.agg #[Value.pointer (some ⟨b, 2, none⟩)]) = I2
  generalize Value.agg #[Value.pointer (some ⟨b, 2, none⟩)] = A2
  iterate 7 still_step
  obtain ⟨K3, hK3⟩ : ∃ K, K = Value.agg #[Value.string ⟨#[109, 111, 115, 116]⟩, Value.iface 93 (Value.agg #[Value.pointer (some ⟨b, 3, none⟩)])] := ⟨_, rfl⟩
  rw [← hK3]
  have HK3 := hid hK3
  clear hK3
  generalize Value.iface 93 (Value.agg #[Value.pointer (some ⟨b, 3, none⟩)]) = I3
  generalize Value.agg #[Value.pointer (some ⟨b, 3, none⟩)] = A3
  iterate 8 still_step
  obtain ⟨K4, hK4⟩ : ∃ K, K = Value.agg #[Value.string ⟨#[115, 116, 97, 116, 101, 115]⟩, Value.iface 93 (Value.agg #[Value.pointer (some ⟨b, 14, none⟩)])] := ⟨_, rfl⟩
  rw [← hK4]
  have HK4 := hid hK4
  clear hK4
  generalize Value.iface 93 (Value.agg #[Value.pointer (some ⟨b, 14, none⟩)]) = I4
  generalize Value.agg #[Value.pointer (some ⟨b, 14, none⟩)] = A4
  iterate 7 still_step
  obtain ⟨K5, hK5⟩ : ∃ K, K = Value.agg #[Value.string ⟨#[115, 116, 114, 105, 99, 116]⟩, Value.iface 96 (Value.agg #[Value.pointer (some ⟨b, 4, none⟩)])] := ⟨_, rfl⟩
  rw [← hK5]
  have HK5 := hid hK5
  clear hK5
  generalize Value.iface 96 (Value.agg #[Value.pointer (some ⟨b, 4, none⟩)]) = I5
  generalize Value.agg #[Value.pointer (some ⟨b, 4, none⟩)] = A5
  iterate 7 still_step
  obtain ⟨K6, hK6⟩ : ∃ K, K = Value.agg #[Value.string ⟨#[105, 110, 118, 101, 114, 116]⟩, Value.iface 96 (Value.agg #[Value.pointer (some ⟨b, 5, none⟩)])] := ⟨_, rfl⟩
  rw [← hK6]
  have HK6 := hid hK6
  clear hK6
  generalize Value.iface 96 (Value.agg #[Value.pointer (some ⟨b, 5, none⟩)]) = I6
  generalize Value.agg #[Value.pointer (some ⟨b, 5, none⟩)] = A6
  iterate 7 still_step
  obtain ⟨K7, hK7⟩ : ∃ K, K = Value.agg #[Value.string ⟨#[109, 117, 108, 116, 105]⟩, Value.iface 96 (Value.agg #[Value.pointer (some ⟨b, 6, none⟩)])] := ⟨_, rfl⟩
  rw [← hK7]
  have HK7 := hid hK7
  clear hK7
  generalize Value.iface 96 (Value.agg #[Value.pointer (some ⟨b, 6, none⟩)]) = I7
  generalize Value.agg #[Value.pointer (some ⟨b, 6, none⟩)] = A7
  iterate 7 still_step
  obtain ⟨K8, hK8⟩ : ∃ K, K = Value.agg #[Value.string ⟨#[110, 97, 109, 101, 100]⟩, Value.iface 96 (Value.agg #[Value.pointer (some ⟨b, 7, none⟩)])] := ⟨_, rfl⟩
  rw [← hK8]
  have HK8 := hid hK8
  clear hK8
  generalize Value.iface 96 (Value.agg #[Value.pointer (some ⟨b, 7, none⟩)]) = I8
  generalize Value.agg #[Value.pointer (some ⟨b, 7, none⟩)] = A8
  iterate 8 still_step
  obtain ⟨K9, hK9⟩ : ∃ K, K = Value.agg #[Value.string ⟨#[102, 111, 108, 100]⟩, Value.iface 96 (Value.agg #[Value.pointer (some ⟨b, 8, none⟩)])] := ⟨_, rfl⟩
  rw [← hK9]
  have HK9 := hid hK9
  clear hK9
  generalize Value.iface 96 (Value.agg #[Value.pointer (some ⟨b, 8, none⟩)]) = I9
  generalize Value.agg #[Value.pointer (some ⟨b, 8, none⟩)] = A9
  iterate 8 still_step
  obtain ⟨K10, hK10⟩ : ∃ K, K = Value.agg #[Value.string ⟨#[108, 105, 110, 101, 115]⟩, Value.iface 96 (Value.agg #[Value.pointer (some ⟨b, 9, none⟩)])] := ⟨_, rfl⟩
  rw [← hK10]
  have HK10 := hid hK10
  clear hK10
  generalize Value.iface 96 (Value.agg #[Value.pointer (some ⟨b, 9, none⟩)]) = I10
  generalize Value.agg #[Value.pointer (some ⟨b, 9, none⟩)] = A10
  iterate 8 still_step
  obtain ⟨K11, hK11⟩ : ∃ K, K = Value.agg #[Value.string ⟨#[100, 111, 116]⟩, Value.iface 96 (Value.agg #[Value.pointer (some ⟨b, 10, none⟩)])] := ⟨_, rfl⟩
  rw [← hK11]
  have HK11 := hid hK11
  clear hK11
  generalize Value.iface 96 (Value.agg #[Value.pointer (some ⟨b, 10, none⟩)]) = I11
  generalize Value.agg #[Value.pointer (some ⟨b, 10, none⟩)] = A11
  iterate 8 still_step
  obtain ⟨K12, hK12⟩ : ∃ K, K = Value.agg #[Value.string ⟨#[115, 104, 111, 114, 116]⟩, Value.iface 96 (Value.agg #[Value.pointer (some ⟨b, 11, none⟩)])] := ⟨_, rfl⟩
  rw [← hK12]
  have HK12 := hid hK12
  clear hK12
  generalize Value.iface 96 (Value.agg #[Value.pointer (some ⟨b, 11, none⟩)]) = I12
  generalize Value.agg #[Value.pointer (some ⟨b, 11, none⟩)] = A12
  iterate 8 still_step
  obtain ⟨K13, hK13⟩ : ∃ K, K = Value.agg #[Value.string ⟨#[108, 97, 122, 121]⟩, Value.iface 96 (Value.agg #[Value.pointer (some ⟨b, 12, none⟩)])] := ⟨_, rfl⟩
  rw [← hK13]
  have HK13 := hid hK13
  clear hK13
  generalize Value.iface 96 (Value.agg #[Value.pointer (some ⟨b, 12, none⟩)]) = I13
  generalize Value.agg #[Value.pointer (some ⟨b, 12, none⟩)] = A13
  iterate 8 still_step
  obtain ⟨K14, hK14⟩ : ∃ K, K = Value.agg #[Value.string ⟨#[119, 111, 114, 100, 115]⟩, Value.iface 96 (Value.agg #[Value.pointer (some ⟨b, 13, none⟩)])] := ⟨_, rfl⟩
  rw [← hK14]
  have HK14 := hid hK14
  clear hK14
  generalize Value.iface 96 (Value.agg #[Value.pointer (some ⟨b, 13, none⟩)]) = I14
  generalize Value.agg #[Value.pointer (some ⟨b, 13, none⟩)] = A14
  iterate 7 still_step
  obtain ⟨K15, hK15⟩ : ∃ K, K = Value.agg #[Value.string ⟨#[112, 97, 116, 116, 101, 114, 110]⟩, Value.iface 99 (Value.agg #[Value.pointer (some ⟨b, 15, none⟩)])] := ⟨_, rfl⟩
  rw [← hK15]
  have HK15 := hid hK15
  clear hK15
  generalize Value.iface 99 (Value.agg #[Value.pointer (some ⟨b, 15, none⟩)]) = I15
  generalize Value.agg #[Value.pointer (some ⟨b, 15, none⟩)] = A15
  iterate 7 still_step
  obtain ⟨K16, hK16⟩ : ∃ K, K = Value.agg #[Value.string ⟨#[116, 101, 109, 112, 108, 97, 116, 101]⟩, Value.iface 99 (Value.agg #[Value.pointer (some ⟨b, 16, none⟩)])] := ⟨_, rfl⟩
  rw [← hK16]
  have HK16 := hid hK16
  clear hK16
  generalize Value.iface 99 (Value.agg #[Value.pointer (some ⟨b, 16, none⟩)]) = I16
  generalize Value.agg #[Value.pointer (some ⟨b, 16, none⟩)] = A16
  iterate 6 still_step
  obtain ⟨K17, hK17⟩ : ∃ K, K = Value.agg #[Value.string ⟨#[98, 108, 111, 98]⟩, Value.iface 99 (Value.agg #[Value.pointer (some ⟨b, 17, none⟩)])] := ⟨_, rfl⟩
  rw [← hK17]
  have HK17 := hid hK17
  clear hK17
  generalize Value.iface 99 (Value.agg #[Value.pointer (some ⟨b, 17, none⟩)]) = I17
  generalize Value.agg #[Value.pointer (some ⟨b, 17, none⟩)] = A17
  refine wpStill_nil ?_
  refine hQs _ ?_
  clear hQs Qs ops'
  subst hWD
  refine list_hide ?_
  intro ops2
  have e0 := HK0.out
  subst e0
  clear HK0
  have e1 := HK1.out
  subst e1
  clear HK1
  have e2 := HK2.out
  subst e2
  clear HK2
  have e3 := HK3.out
  subst e3
  clear HK3
  have e4 := HK4.out
  subst e4
  clear HK4
  have e5 := HK5.out
  subst e5
  clear HK5
  have e6 := HK6.out
  subst e6
  clear HK6
  have e7 := HK7.out
  subst e7
  clear HK7
  have e8 := HK8.out
  subst e8
  clear HK8
  have e9 := HK9.out
  subst e9
  clear HK9
  have e10 := HK10.out
  subst e10
  clear HK10
  have e11 := HK11.out
  subst e11
  clear HK11
  have e12 := HK12.out
  subst e12
  clear HK12
  have e13 := HK13.out
  subst e13
  clear HK13
  have e14 := HK14.out
  subst e14
  clear HK14
  have e15 := HK15.out
  subst e15
  clear HK15
  have e16 := HK16.out
  subst e16
  clear HK16
  have e17 := HK17.out
  subst e17
  clear HK17
  go_wp2
  go_ret
  exact ⟨rfl, rfl⟩
end Go.Proofs.YtmeekjfnmdbnpaaDoor
