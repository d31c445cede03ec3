/- Texts of this proof, one behind the other: what each says stands ahead of it. -/
import Derived.Test.YtabhlhgfacpohaaDoorM0
import Derived.Laws.Rows
import Derived.Test.YtabhlhgfacpohaaDoorRows
import Derived.OpenShut
import Derived.ChangeArms
/- The table of first bytes, and the row that a first byte has; condition: the two tables lie there. -/
namespace Go.Proofs.YtabhlhgfacpohaaDoor
open Go.RowKit

/-- A row: first, last, how many follow, the second's least and greatest. -/
structure Lead where
  first : Nat
  last : Nat
  more : Nat
  low : Nat
  high : Nat

def leadsL : List Lead := [⟨0, 127, 0, 0, 0⟩, ⟨194, 223, 1, 128, 191⟩, ⟨224, 224, 2, 160, 191⟩, ⟨225, 236, 2, 128, 191⟩, ⟨237, 237, 2, 128, 159⟩, ⟨238, 239, 2, 128, 191⟩, ⟨240, 240, 3, 144, 191⟩, ⟨241, 243, 3, 128, 191⟩, ⟨244, 244, 3, 128, 143⟩]
def leadV (l : Lead) : Array Value := #[.int .u8 l.first, .int .u8 l.last, .int .i64 l.more, .int .u8 l.low, .int .u8 l.high]
def leadsC : Array Value := #[.int .u8 0, .int .u8 127, .int .i64 0, .int .u8 0, .int .u8 0, .int .u8 194, .int .u8 223, .int .i64 1, .int .u8 128, .int .u8 191, .int .u8 224, .int .u8 224, .int .i64 2, .int .u8 160, .int .u8 191, .int .u8 225, .int .u8 236, .int .i64 2, .int .u8 128, .int .u8 191, .int .u8 237, .int .u8 237, .int .i64 2, .int .u8 128, .int .u8 159, .int .u8 238, .int .u8 239, .int .i64 2, .int .u8 128, .int .u8 191, .int .u8 240, .int .u8 240, .int .i64 3, .int .u8 144, .int .u8 191, .int .u8 241, .int .u8 243, .int .i64 3, .int .u8 128, .int .u8 191, .int .u8 244, .int .u8 244, .int .i64 3, .int .u8 128, .int .u8 143]
def marksC : Array Value := #[.string ⟨#[]⟩, .string ⟨#[239, 187, 191]⟩, .string ⟨#[255, 254]⟩, .string ⟨#[254, 255]⟩, .string ⟨#[]⟩]
/-- Both tables lie where they lie. -/
structure Tabs (w : World) : Prop where
  marks : ∃ t, w.heap[0]? = some (.cells marksC t (0, 0))
  leads : ∃ t, w.heap[1]? = some (.cells leadsC t (0, 0))
theorem Tabs.new {w w' : World} (h : Tabs w) (t : Touch (fun _ => False) w w') : Tabs w' := by
  obtain ⟨⟨t0, h0⟩, ⟨t1, h1⟩⟩ := h
  exact ⟨⟨t0, (t.block 0 (lt_of_block h0) id).trans h0⟩, ⟨t1, (t.block 1 (lt_of_block h1) id).trans h1⟩⟩
theorem info70 : (Tryd.prog.info? 104).map (fun i => (i.zero, i.size, i.bytes)) = some (some (.agg #[.int .u8 0, .int .u8 0, .int .i64 0, .int .u8 0, .int .u8 0]), 5, 24) := by kernel_rfl
theorem run_index73 (k : Nat) (l : Lead) (w : World) (hk : k < 9) (hx : leadsL[k]? = some l) : (Instr.index 114 (.agg leadsC) (.int .i64 (k : Int))).run Tryd.prog w = .ok (.agg (leadV l)) w := by
  obtain ⟨i0, h1, hz0, hz1, hz2⟩ := info_parts info70
  rcases (show k = 0 ∨ k = 1 ∨ k = 2 ∨ k = 3 ∨ k = 4 ∨ k = 5 ∨ k = 6 ∨ k = 7 ∨ k = 8 by omega) with rfl | rfl | rfl | rfl | rfl | rfl | rfl | rfl | rfl <;>
    (simp [leadsL] at hx
     subst hx
     simp [Instr.index, run_underlying Tryd.underlying114, asIntOf, go_sem, part, sizeOf, typeInfo, h1, hz1, leadsC, leadV])
def hasLead (b : Nat) (l : Lead) : Bool := decide (l.first ≤ b) && decide (b ≤ l.last)
def leadOf (b : Nat) : Option Lead := leadsL.find? (hasLead b)
theorem find_more {α : Type} (f : α → Bool) (l : List α) (k : Nat) (h : k < l.length) (h0 : (l.take k).find? f = none) : (l.take (k + 1)).find? f = if f l[k] = true then some l[k] else none := by
  rw [List.take_succ_eq_append_getElem h, List.find?_append, h0]
  simp [List.find?_cons]
  split <;> simp_all
theorem find_there {α : Type} (f : α → Bool) (l : List α) (k : Nat) (x : α) (h : (l.take k).find? f = some x) : l.find? f = some x := by
  rw [← List.take_append_drop k l, List.find?_append, h]
  rfl
theorem lead_small : ∀ l ∈ leadsL, l.first < 256 ∧ l.last < 256 ∧ l.more ≤ 3 ∧ l.low < 256 ∧ l.high < 256 := by decide
theorem results_ct {P : Program} {fn : Func} {p q : Tmp} {ty : TypeId} (h : fn.results = #[.cell p ty, .tmp q]) (tmps : Array Value) (w : World) (g : Nat) (et : TypeId) (cs : Array Value) (fr : Nat × Nat) (d : TypeDesc)
    (hp : tmps.getD p undef = .pointer (some ⟨g, 0, none⟩)) (hg : w.heap[g]? = some (.cells cs et fr))
    (hu : P.underlying ty = some d) (hd : (match d with | .struct _ | .array _ _ => true | _ => false) = true) (hi : (P.info? ty).map (·.size) = some cs.size) :
    (results fn tmps).run P w = .ok (.tuple #[.agg cs, tmps.getD q undef]) w := by
  have hp' : tmps[p]?.getD undef = .pointer (some ⟨g, 0, none⟩) := by simpa using hp
  simp [results, h, hp', asAddr, run_loadVar_row w g et ty cs fr d hg hu hd hi]
theorem block_new (w : World) (cs : Array Value) (t : TypeId) : (w.alloc (.cells cs t)).heap[w.heap.size]? = some (.cells cs t (0, 0)) := by
  show (w.heap.push _)[_]? = _
  simp

/-- What leadOf answers. -/
def leadR (b : Nat) : Value := .tuple (match leadOf b with | some l => #[.agg (leadV l), .bool true] | none => #[.agg #[.int .u8 0, .int .u8 0, .int .i64 0, .int .u8 0, .int .u8 0], .bool false])
theorem leadR_some {b : Nat} {l : Lead} (h : leadOf b = some l) : leadR b = .tuple #[.agg (leadV l), .bool true] := by unfold leadR; rw [h]
theorem leadR_none {b : Nat} (h : leadOf b = none) : leadR b = .tuple #[.agg #[.int .u8 0, .int .u8 0, .int .i64 0, .int .u8 0, .int .u8 0], .bool false] := by unfold leadR; rw [h]
/-- Five cells set one behind the other. -/
theorem five_set {w : World} {g : Nat} {t : TypeId} {a0 a1 a2 a3 a4 : Value} (h : w.heap[g]? = some (.cells #[a0, a1, a2, a3, a4] t (0, 0))) (b0 b1 b2 b3 b4 : Value) :
    (((((w.setCell ⟨g, 0, none⟩ b0).setCell ⟨g, 1, none⟩ b1).setCell ⟨g, 2, none⟩ b2).setCell ⟨g, 3, none⟩ b3).setCell ⟨g, 4, none⟩ b4).heap[g]? = some (.cells #[b0, b1, b2, b3, b4] t (0, 0)) :=
  block_set (block_set (block_set (block_set (block_set h 0 b0) 1 b1) 2 b2) 3 b3) 4 b4
theorem five_touch {w0 w : World} {g : Nat} (h : Touch (fun _ => False) w0 w) (hg : w0.heap.size ≤ g) (b0 b1 b2 b3 b4 : Value) :
    Touch (fun _ => False) w0 (((((w.setCell ⟨g, 0, none⟩ b0).setCell ⟨g, 1, none⟩ b1).setCell ⟨g, 2, none⟩ b2).setCell ⟨g, 3, none⟩ b3).setCell ⟨g, 4, none⟩ b4) :=
  ((((h.setCell (p := ⟨g, 0, none⟩) (fun k => absurd k (Nat.not_lt.2 hg)) b0).setCell (p := ⟨g, 1, none⟩) (fun k => absurd k (Nat.not_lt.2 hg)) b1).setCell (p := ⟨g, 2, none⟩) (fun k => absurd k (Nat.not_lt.2 hg)) b2).setCell (p := ⟨g, 3, none⟩) (fun k => absurd k (Nat.not_lt.2 hg)) b3).setCell (p := ⟨g, 4, none⟩) (fun k => absurd k (Nat.not_lt.2 hg)) b4

set_option maxRecDepth 100000 in
set_option maxHeartbeats 4000000 in
theorem leadOf_any (b : Nat) (w : World) (ht : Tabs w) :
    Calls Tryd.prog 71 #[.int .u8 b] w fun e w' => e = .returned (leadR b) ∧ Touch (fun _ => False) w w' := by
  have HT := hid ht
  obtain ⟨_, ⟨t1, h1⟩⟩ := ht
  have B0 := hid (block_new w #[.int .u8 0, .int .u8 0, .int .i64 0, .int .u8 0, .int .u8 0] 104)
  have TA := hid ((Touch.refl (fun _ => False) w).alloc (.cells #[.int .u8 0, .int .u8 0, .int .i64 0, .int .u8 0, .int .u8 0] 104))
  have h1' : (w.alloc (.cells #[.int .u8 0, .int .u8 0, .int .i64 0, .int .u8 0, .int .u8 0] 104)).heap[1]? = some (.cells leadsC t1 (0, 0)) := (TA.out.block 1 (lt_of_block h1) id).trans h1
  go_enter Tryd.func71, Tryd.ntmps71
  go_wp2_with (first | refine wpList_load_row rfl 114 _ rfl 1 rfl t1 leadsC (0, 0) _ h1' Tryd.underlying114 rfl (by kernel_rfl) ?_ | fail)
  generalize (w.alloc (.cells #[.int .u8 0, .int .u8 0, .int .i64 0, .int .u8 0, .int .u8 0] 104)) = w1 at *
  obtain ⟨g, hg⟩ : ∃ g, g = w.heap.size := ⟨_, rfl⟩
  rw [← hg] at B0 ⊢
  have HGW := hid (show w.heap.size ≤ g by omega)
  clear hg h1 h1'
  go_loopg [7] 9 (fun gk i wq => ∃ k : Nat, k + gk = 9 ∧ i = .int .i64 (k : Nat) ∧ (leadsL.take k).find? (hasLead b) = none ∧ Touch (fun _ => False) w1 wq)
  case atStart => exact ⟨0, rfl, rfl, rfl, Touch.refl _ _⟩
  case round =>
    obtain ⟨k, hk, rfl, hno, htc⟩ := hrel
    have TC := hid htc
    have HNO := hid hno
    clear hno htc
    by_cases hlt : k < 9
    · obtain ⟨l, hl⟩ : ∃ l, leadsL[k]? = some l := ⟨leadsL[k]'(by simpa [leadsL] using hlt), List.getElem?_eq_getElem _⟩
      have hix := run_index73 k l wr hlt hl
      have hgk : leadsL[k]'(by simpa [leadsL] using hlt) = l := by
        rw [List.getElem?_eq_getElem (by simpa [leadsL] using hlt)] at hl
        exact Option.some.inj hl
      have HF := hid (find_more (hasLead b) leadsL k (by simpa [leadsL] using hlt) HNO.out)
      rw [hgk] at HF
      have hsm := lead_small l (by rw [← hgk]; exact List.getElem_mem _)
      have hkI : (k : Int) < 9 := by omega
      clear hl hgk
      obtain ⟨x, y, m, lo, hi⟩ := l
      unfold leadV at hix
      dsimp only at hix hsm HF
      have B5 := hid (block_new wr #[.int .u8 x, .int .u8 y, .int .i64 m, .int .u8 lo, .int .u8 hi] 104)
      have T5 := hid (TC.out.alloc (.cells #[.int .u8 x, .int .u8 y, .int .i64 m, .int .u8 lo, .int .u8 hi] 104))
      go_upto_region 4 with fail
      generalize (wr.alloc (.cells #[.int .u8 x, .int .u8 y, .int .i64 m, .int .u8 lo, .int .u8 hi] 104)) = wA at *
      have c0 : wA.cell? ⟨wr.heap.size, 0, none⟩ = some (.int .u8 x) := by simp [World.cell?, B5.out]
      have c1 : wA.cell? ⟨wr.heap.size, 1, none⟩ = some (.int .u8 y) := by simp [World.cell?, B5.out]
      have c2 : wA.cell? ⟨wr.heap.size, 2, none⟩ = some (.int .i64 m) := by simp [World.cell?, B5.out]
      have c3 : wA.cell? ⟨wr.heap.size, 3, none⟩ = some (.int .u8 lo) := by simp [World.cell?, B5.out]
      have c4 : wA.cell? ⟨wr.heap.size, 4, none⟩ = some (.int .u8 hi) := by simp [World.cell?, B5.out]
      have G0 := hid ((T5.out.block g (lt_of_block B0.out) id).trans B0.out)
      have f0 : wA.frozen? ⟨g, 0, none⟩ = false := by simp [World.frozen?, G0.out]
      have f1 : wA.frozen? ⟨g, 1, none⟩ = false := by simp [World.frozen?, G0.out]
      have f2 : wA.frozen? ⟨g, 2, none⟩ = false := by simp [World.frozen?, G0.out]
      have f3 : wA.frozen? ⟨g, 3, none⟩ = false := by simp [World.frozen?, G0.out]
      have f4 : wA.frozen? ⟨g, 4, none⟩ = false := by simp [World.frozen?, G0.out]
      have g0 : wA.cell? ⟨g, 0, none⟩ = some (.int .u8 0) := by simp [World.cell?, G0.out]
      have g1 : wA.cell? ⟨g, 1, none⟩ = some (.int .u8 0) := by simp [World.cell?, G0.out]
      have g2 : wA.cell? ⟨g, 2, none⟩ = some (.int .i64 0) := by simp [World.cell?, G0.out]
      have g3 : wA.cell? ⟨g, 3, none⟩ = some (.int .u8 0) := by simp [World.cell?, G0.out]
      have g4 : wA.cell? ⟨g, 4, none⟩ = some (.int .u8 0) := by simp [World.cell?, G0.out]
      clear hix
      by_cases hx : x ≤ b
      · have hxI : (x : Int) ≤ (b : Int) := by omega
        by_cases hy : b ≤ y
        · have hyI : (b : Int) ≤ (y : Int) := by omega
          have HL := hid (show leadOf b = some ⟨x, y, m, lo, hi⟩ from find_there _ _ (k + 1) _ (by rw [HF.out, if_pos (by simp [hasLead, hx, hy])]))
          have TE := hid (TA.out.trans T5.out (fun _ _ e => e))
          go_wp2
          refine bodyPost_ret (results_ct rfl _ _ g 104 _ (0, 0) _ rfl (five_set G0.out _ _ _ _ _) Tryd.underlying104 rfl (by kernel_rfl)) rfl ?_
          exact ⟨by rw [leadR_some HL.out]; rfl, five_touch TE.out HGW.out _ _ _ _ _⟩
        · have HNX := hid (show (leadsL.take (k + 1)).find? (hasLead b) = none by rw [HF.out, if_neg (by simp [hasLead, hy])])
          have hyd : decide ((b : Int) ≤ (y : Int)) = false := decide_eq_false (by omega)
          go_wp2
          go_roundg (gk - 1)
          case measure => omega
          case rel => exact ⟨k + 1, by omega, by go_num, HNX.out, T5.out⟩
      · have HNX := hid (show (leadsL.take (k + 1)).find? (hasLead b) = none by rw [HF.out, if_neg (by simp [hasLead, hx])])
        have hxd : decide ((x : Int) ≤ (b : Int)) = false := decide_eq_false (by omega)
        go_wp2
        go_roundg (gk - 1)
        case measure => omega
        case rel => exact ⟨k + 1, by omega, by go_num, HNX.out, T5.out⟩
    · obtain rfl : k = 9 := by omega
      have HL := hid (show leadOf b = none from HNO.out)
      have G0 := hid ((TC.out.block g (lt_of_block B0.out) id).trans B0.out)
      have f0 : wr.frozen? ⟨g, 0, none⟩ = false := by simp [World.frozen?, G0.out]
      have f1 : wr.frozen? ⟨g, 1, none⟩ = false := by simp [World.frozen?, G0.out]
      have f2 : wr.frozen? ⟨g, 2, none⟩ = false := by simp [World.frozen?, G0.out]
      have f3 : wr.frozen? ⟨g, 3, none⟩ = false := by simp [World.frozen?, G0.out]
      have f4 : wr.frozen? ⟨g, 4, none⟩ = false := by simp [World.frozen?, G0.out]
      have g0 : wr.cell? ⟨g, 0, none⟩ = some (.int .u8 0) := by simp [World.cell?, G0.out]
      have g1 : wr.cell? ⟨g, 1, none⟩ = some (.int .u8 0) := by simp [World.cell?, G0.out]
      have g2 : wr.cell? ⟨g, 2, none⟩ = some (.int .i64 0) := by simp [World.cell?, G0.out]
      have g3 : wr.cell? ⟨g, 3, none⟩ = some (.int .u8 0) := by simp [World.cell?, G0.out]
      have g4 : wr.cell? ⟨g, 4, none⟩ = some (.int .u8 0) := by simp [World.cell?, G0.out]
      have TE := hid (TA.out.trans TC.out (fun _ _ e => e))
      go_wp2
      refine bodyPost_ret (results_ct rfl _ _ g 104 _ (0, 0) _ rfl (five_set G0.out _ _ _ _ _) Tryd.underlying104 rfl (by kernel_rfl)) rfl ?_
      exact ⟨by rw [leadR_none HL.out]; rfl, five_touch TE.out HGW.out _ _ _ _ _⟩
end Go.Proofs.YtabhlhgfacpohaaDoor

/- The two tables of coding, as the row's list gives them: their cells; no condition. -/
namespace Go.Proofs.YtabhlhgfacpohaaDoor
open Go.RowKit

theorem g0 : Tryd.prog.globalNamed "ferret/coding.marks" = some 0 := by kernel_rfl
theorem g1 : Tryd.prog.globalNamed "ferret/coding.leads" = some 1 := by kernel_rfl
theorem y0 : (Tryd.prog.globals[0]?).map (·.type) = some 65 := by kernel_rfl
theorem y1 : (Tryd.prog.globals[1]?).map (·.type) = some 114 := by kernel_rfl
theorem tc3 : Tryd.prog.cellsOf 3 = 1 := by kernel_rfl
theorem tc5 : Tryd.prog.cellsOf 5 = 1 := by kernel_rfl
theorem tc9 : Tryd.prog.cellsOf 9 = 1 := by kernel_rfl
theorem tc70 : Tryd.prog.cellsOf 104 = 5 := by kernel_rfl
theorem tc73 : Tryd.prog.cellsOf 114 = 45 := by kernel_rfl
theorem tc65 : Tryd.prog.cellsOf 65 = 5 := by kernel_rfl

theorem at_take {cs : List Value} {k : Nat} {v : Value} (h : (cs.drop k).take 1 = [v]) : cs[k]? = some v := by
  have := congrArg (·[0]?) h
  simpa [List.getElem?_take, List.getElem?_drop] using this
theorem five_list {cs : List Value} {x y z u v : Value} (hl : cs.length = 5) (q0 : cs[0]? = some x) (q1 : cs[1]? = some y) (q2 : cs[2]? = some z) (q3 : cs[3]? = some u) (q4 : cs[4]? = some v) : cs = [x, y, z, u, v] := by
  match cs, hl, q0, q1, q2, q3, q4 with
  | [a, b, c, d, e], _, q0, q1, q2, q3, q4 =>
    simp at q0 q1 q2 q3 q4
    subst q0 q1 q2 q3 q4
    rfl
section
variable {H : Type} {enc : TypeId × Value → H} {w : World} {base : Nat} {sp : Nat → Bool} {held : Bool}
theorem row5 {fuel : Nat} {cs : List Value} {x0 x1 x2 x3 x4 : Int} {p : List MemPlace} (h : DataW.trod enc Tryd.prog w base sp held fuel 104 cs = some (.agg [.lit (.int .u8 x0), .lit (.int .u8 x1), .lit (.int .i64 x2), .lit (.int .u8 x3), .lit (.int .u8 x4)], p)) : cs = [.int .u8 x0, .int .u8 x1, .int .i64 x2, .int .u8 x3, .int .u8 x4] := by
  obtain ⟨xs, n, rfl, hx, hl, hxl, hall⟩ := DataW.trod_struct Tryd.underlying104 h
  rw [tc70] at hl
  have hx3 : xs.map (·.1) = [.lit (.int .u8 x0), .lit (.int .u8 x1), .lit (.int .i64 x2), .lit (.int .u8 x3), .lit (.int .u8 x4)] := by
    have := congrArg Prod.fst hx
    simpa using this.symm
  obtain ⟨d0, d1, d2, d3, d4, rfl⟩ : ∃ d0 d1 d2 d3 d4, xs = [d0, d1, d2, d3, d4] := by
    match xs, hx3 with
    | [d0, d1, d2, d3, d4], _ => exact ⟨d0, d1, d2, d3, d4, rfl⟩
  simp only [List.map_cons, List.map_nil, List.cons.injEq, and_true] at hx3
  obtain ⟨e0, e1, e2, e3, e4⟩ := hx3
  have f0 := hall 0 _ rfl
  change DataW.trod _ _ _ _ _ _ _ 5 ((cs.drop 0).take (Tryd.prog.cellsOf 5)) = some d0 at f0
  rw [tc5] at f0
  have q0 : cs[0]? = some (.int .u8 x0) := by
    obtain ⟨z, hz, hx', _⟩ := DataW.trod_int Tryd.underlying5 f0
    rw [hx'] at e0
    cases e0
    exact at_take hz
  have f1 := hall 1 _ rfl
  change DataW.trod _ _ _ _ _ _ _ 5 ((cs.drop 1).take (Tryd.prog.cellsOf 5)) = some d1 at f1
  rw [tc5] at f1
  have q1 : cs[1]? = some (.int .u8 x1) := by
    obtain ⟨z, hz, hx', _⟩ := DataW.trod_int Tryd.underlying5 f1
    rw [hx'] at e1
    cases e1
    exact at_take hz
  have f2 := hall 2 _ rfl
  change DataW.trod _ _ _ _ _ _ _ 3 ((cs.drop 2).take (Tryd.prog.cellsOf 3)) = some d2 at f2
  rw [tc3] at f2
  have q2 : cs[2]? = some (.int .i64 x2) := by
    obtain ⟨z, hz, hx', _⟩ := DataW.trod_int Tryd.underlying3 f2
    rw [hx'] at e2
    cases e2
    exact at_take hz
  have f3 := hall 3 _ rfl
  change DataW.trod _ _ _ _ _ _ _ 5 ((cs.drop 3).take (Tryd.prog.cellsOf 5)) = some d3 at f3
  rw [tc5] at f3
  have q3 : cs[3]? = some (.int .u8 x3) := by
    obtain ⟨z, hz, hx', _⟩ := DataW.trod_int Tryd.underlying5 f3
    rw [hx'] at e3
    cases e3
    exact at_take hz
  have f4 := hall 4 _ rfl
  change DataW.trod _ _ _ _ _ _ _ 5 ((cs.drop 4).take (Tryd.prog.cellsOf 5)) = some d4 at f4
  rw [tc5] at f4
  have q4 : cs[4]? = some (.int .u8 x4) := by
    obtain ⟨z, hz, hx', _⟩ := DataW.trod_int Tryd.underlying5 f4
    rw [hx'] at e4
    cases e4
    exact at_take hz
  exact five_list hl q0 q1 q2 q3 q4

/-- The list that the array is, out of its pieces. -/
theorem pieces {cs : List Value} {m : Nat} : ∀ (rows : List (List Value)) (k : Nat), (∀ i (h : i < rows.length), (cs.drop ((k + i) * m)).take m = rows[i]) → (∀ r ∈ rows, r.length = m) → (cs.drop (k * m)).take (rows.length * m) = rows.flatten
  | [], k, _, _ => by simp
  | r :: rows, k, h, hl => by
    have h0 := h 0 (by simp)
    have ih := pieces (cs := cs) (m := m) rows (k + 1) (fun i hi => by
      have := h (i + 1) (by simpa using hi)
      rw [show k + (i + 1) = k + 1 + i by omega] at this
      simpa using this) (fun q hq => hl q (by simp [hq]))
    simp only [Nat.add_zero, List.getElem_cons_zero] at h0
    rw [List.length_cons, Nat.add_mul, Nat.one_mul, Nat.add_comm, List.take_add, h0, List.drop_drop, List.flatten_cons]
    rw [show k * m + m = (k + 1) * m by rw [Nat.add_mul, Nat.one_mul], ih]
theorem whole {cs : List Value} {m : Nat} {rows : List (List Value)} (h : ∀ i (h : i < rows.length), (cs.drop (i * m)).take m = rows[i]) (hl : ∀ r ∈ rows, r.length = m) (hc : cs.length = rows.length * m) : cs = rows.flatten := by
  have := pieces rows 0 (fun i hi => by rw [Nat.zero_add]; exact h i hi) hl
  rw [Nat.zero_mul, List.drop_zero, List.take_of_length_le (by omega)] at this
  exact this

set_option maxRecDepth 100000 in
theorem leads_cells {fuel : Nat} {cs : List Value} {p : List MemPlace} (h : DataW.trod enc Tryd.prog w base sp held fuel 114 cs = some (Rows.laid_ferret_coding_leads, p)) : cs = leadsC.toList := by
  obtain ⟨xs, m, rfl, hx, hl, hxl, hall⟩ := DataW.trod_array Tryd.underlying114 h
  rw [tc73] at hl
  have hx3 : xs.map (·.1) = [.agg [.lit (.int .u8 0), .lit (.int .u8 127), .lit (.int .i64 0), .lit (.int .u8 0), .lit (.int .u8 0)], .agg [.lit (.int .u8 194), .lit (.int .u8 223), .lit (.int .i64 1), .lit (.int .u8 128), .lit (.int .u8 191)], .agg [.lit (.int .u8 224), .lit (.int .u8 224), .lit (.int .i64 2), .lit (.int .u8 160), .lit (.int .u8 191)], .agg [.lit (.int .u8 225), .lit (.int .u8 236), .lit (.int .i64 2), .lit (.int .u8 128), .lit (.int .u8 191)], .agg [.lit (.int .u8 237), .lit (.int .u8 237), .lit (.int .i64 2), .lit (.int .u8 128), .lit (.int .u8 159)], .agg [.lit (.int .u8 238), .lit (.int .u8 239), .lit (.int .i64 2), .lit (.int .u8 128), .lit (.int .u8 191)], .agg [.lit (.int .u8 240), .lit (.int .u8 240), .lit (.int .i64 3), .lit (.int .u8 144), .lit (.int .u8 191)], .agg [.lit (.int .u8 241), .lit (.int .u8 243), .lit (.int .i64 3), .lit (.int .u8 128), .lit (.int .u8 191)], .agg [.lit (.int .u8 244), .lit (.int .u8 244), .lit (.int .i64 3), .lit (.int .u8 128), .lit (.int .u8 143)]] := by
    have := congrArg Prod.fst hx
    exact (DataW.agg.inj this).symm
  have row : ∀ i (hi : i < 9) (x0 x1 x2 x3 x4 : Int), (xs.map (·.1))[i]? = some (.agg [.lit (.int .u8 x0), .lit (.int .u8 x1), .lit (.int .i64 x2), .lit (.int .u8 x3), .lit (.int .u8 x4)]) → (cs.drop (i * 5)).take 5 = [.int .u8 x0, .int .u8 x1, .int .i64 x2, .int .u8 x3, .int .u8 x4] := by
    intro i hi x0 x1 x2 x3 x4 hd
    have h1 := hall i hi
    rw [tc70] at h1
    rw [List.getElem?_map] at hd
    obtain ⟨⟨d, q⟩, hq, rfl⟩ := Option.map_eq_some_iff.1 hd
    rw [hq] at h1
    exact row5 h1
  rw [hx3] at row
  have := whole (cs := cs) (m := 5) (rows := [[.int .u8 0, .int .u8 127, .int .i64 0, .int .u8 0, .int .u8 0], [.int .u8 194, .int .u8 223, .int .i64 1, .int .u8 128, .int .u8 191], [.int .u8 224, .int .u8 224, .int .i64 2, .int .u8 160, .int .u8 191], [.int .u8 225, .int .u8 236, .int .i64 2, .int .u8 128, .int .u8 191], [.int .u8 237, .int .u8 237, .int .i64 2, .int .u8 128, .int .u8 159], [.int .u8 238, .int .u8 239, .int .i64 2, .int .u8 128, .int .u8 191], [.int .u8 240, .int .u8 240, .int .i64 3, .int .u8 144, .int .u8 191], [.int .u8 241, .int .u8 243, .int .i64 3, .int .u8 128, .int .u8 191], [.int .u8 244, .int .u8 244, .int .i64 3, .int .u8 128, .int .u8 143]]) (fun i hi => by
    simp only [List.length_cons, List.length_nil] at hi
    match i, hi with
    | 0, hi => exact row 0 hi _ _ _ _ _ rfl
    | 1, hi => exact row 1 hi _ _ _ _ _ rfl
    | 2, hi => exact row 2 hi _ _ _ _ _ rfl
    | 3, hi => exact row 3 hi _ _ _ _ _ rfl
    | 4, hi => exact row 4 hi _ _ _ _ _ rfl
    | 5, hi => exact row 5 hi _ _ _ _ _ rfl
    | 6, hi => exact row 6 hi _ _ _ _ _ rfl
    | 7, hi => exact row 7 hi _ _ _ _ _ rfl
    | 8, hi => exact row 8 hi _ _ _ _ _ rfl) (by simp) (by simp [hl])
  exact this
theorem str_cell {fuel : Nat} {cs : List Value} {l : List UInt8} {p : List MemPlace} (h : DataW.trod enc Tryd.prog w base sp held fuel 9 cs = some (.lit (.string l), p)) : cs = [.string ⟨l.toArray⟩] := by
  obtain ⟨s, rfl, hz, _⟩ := DataW.trod_string Tryd.underlying9 h
  cases s
  rename_i a
  simp only [Prod.mk.injEq, DataW.lit.injEq, Lit.string.injEq] at hz
  rw [hz.1]
set_option maxRecDepth 100000 in
theorem marks_cells {fuel : Nat} {cs : List Value} {p : List MemPlace} (h : DataW.trod enc Tryd.prog w base sp held fuel 65 cs = some (Rows.laid_ferret_coding_marks, p)) : cs = marksC.toList := by
  obtain ⟨xs, m, rfl, hx, hl, hxl, hall⟩ := DataW.trod_array Tryd.underlying65 h
  rw [tc65] at hl
  have hx3 : xs.map (·.1) = [.lit (.string []), .lit (.string [239, 187, 191]), .lit (.string [255, 254]), .lit (.string [254, 255]), .lit (.string [])] := by
    have := congrArg Prod.fst hx
    exact (DataW.agg.inj this).symm
  have row : ∀ i (hi : i < 5) (l : List UInt8), (xs.map (·.1))[i]? = some (.lit (.string l)) → (cs.drop (i * 1)).take 1 = [.string ⟨l.toArray⟩] := by
    intro i hi l hd
    have h1 := hall i hi
    rw [tc9] at h1
    rw [List.getElem?_map] at hd
    obtain ⟨⟨d, q⟩, hq, rfl⟩ := Option.map_eq_some_iff.1 hd
    rw [hq] at h1
    exact str_cell h1
  rw [hx3] at row
  have := whole (cs := cs) (m := 1) (rows := [[.string ⟨#[]⟩], [.string ⟨#[239, 187, 191]⟩], [.string ⟨#[255, 254]⟩], [.string ⟨#[254, 255]⟩], [.string ⟨#[]⟩]]) (fun i hi => by
    simp only [List.length_cons, List.length_nil] at hi
    match i, hi with
    | 0, hi => exact row 0 hi _ rfl
    | 1, hi => exact row 1 hi _ rfl
    | 2, hi => exact row 2 hi _ rfl
    | 3, hi => exact row 3 hi _ rfl
    | 4, hi => exact row 4 hi _ rfl) (by simp) (by simp [hl])
  exact this
end

set_option maxRecDepth 100000 in
theorem tabs_of {W : World} (h : laidMet Tryd.prog [("ferret/coding.marks", Rows.laid_ferret_coding_marks), ("ferret/coding.leads", Rows.laid_ferret_coding_leads)] W) : Tabs W := by
  obtain ⟨ps, ⟨g, t, cs, fuel, p, q, hg, ht, hvar, hd, ⟨g', t', cs', fuel', p', q', hg', ht', hvar', hd', _, rfl⟩, rfl⟩, _, hfree⟩ := h
  obtain rfl := Option.some.inj (g0.symm.trans hg)
  obtain rfl := Option.some.inj (y0.symm.trans ht)
  obtain rfl := Option.some.inj (g1.symm.trans hg')
  obtain rfl := Option.some.inj (y1.symm.trans ht')
  have e0 : cs = marksC := by
    have := marks_cells hd
    cases cs
    simpa using congrArg List.toArray this
  have e1 : cs' = leadsC := by
    have := leads_cells hd'
    cases cs'
    simpa using congrArg List.toArray this
  subst e0
  subst e1
  unfold World.var? at hvar hvar'
  rw [g0] at hvar
  rw [g1] at hvar'
  simp only [Option.bind_some] at hvar hvar'
  obtain ⟨⟨cc, tt, hh⟩, _⟩ := hfree 0 0 (by simp [MemPlace.row, marksC])
  obtain ⟨⟨cc', tt', hh'⟩, _⟩ := hfree 1 0 (by simp [MemPlace.row, leadsC])
  rw [hh] at hvar
  rw [hh'] at hvar'
  simp only [Option.some.injEq] at hvar hvar'
  subst hvar
  subst hvar'
  exact ⟨⟨tt, hh⟩, ⟨tt', hh'⟩⟩
end Go.Proofs.YtabhlhgfacpohaaDoor
