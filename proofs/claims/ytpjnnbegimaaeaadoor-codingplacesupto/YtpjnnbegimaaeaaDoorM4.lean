/- Texts of this proof, one behind the other: what each says stands ahead of it. -/
import Derived.Test.YtpjnnbegimaaeaaDoorM3
import Derived.DataElems
import Derived.Test.YtpjnnbegimaaeaaDoorRows
import Derived.OpenShut
import Derived.ChangeArms
import Derived.Test.YtpjnnbegimaaeaaDoorM1
import Derived.Test.YtpjnnbegimaaeaaDoorCards
import Derived.Test.YtpjnnbegimaaeaaDoorTie
import Derived.WalkKit
import Derived.ProofKit
import Derived.Below
import Derived.Carry
import Derived.ChangeSlices
import Derived.Deep.DeepHandedRow
import Derived.Lib.LaidTab
import Derived.SevenTiedAt
/- Numbers that lie at any address (what a call is handed): held against others, and appended to a row of the call's own; conditions: those told. -/
namespace Go.Proofs.YtpjnnbegimaaeaaDoor
open Go.RowKit

def Ix (w : World) (a : Option Addr) (l : List Int) : Prop := l = [] ∨ ∃ x, a = some x ∧ ∀ i (h : i < l.length), w.cell? (x.add i) = some (.int .i64 l[i])
theorem Ix.new {w w' : World} {a : Option Addr} {l : List Int} (h : Ix w a l) (t : Touch (fun _ => False) w w') : Ix w' a l := by
  rcases h with h | ⟨x, rfl, hc⟩
  · exact .inl h
  · refine .inr ⟨x, rfl, fun i hi => ?_⟩
    have hb := World.block_lt_of_cell? w _ (hc i hi)
    rw [t.cell hb id]
    exact hc i hi
theorem Ig.ix {w : World} {a : Option Addr} {l : List Int} (h : Ig w a l) : Ix w a l := by
  obtain ⟨b, rfl, _, hc⟩ := h
  exact .inr ⟨_, rfl, fun i hi => by rw [add_g]; exact hc i hi⟩
theorem Ix.tail {w : World} {a : Option Addr} {x : Int} {l : List Int} (h : Ix w a (x :: l)) : ∃ y, a = some y ∧ w.cell? (y.add 0) = some (.int .i64 x) ∧ Ix w (some (y.add 1)) l := by
  rcases h with h | ⟨y, rfl, hc⟩
  · cases h
  · refine ⟨y, rfl, hc 0 (by simp), .inr ⟨_, rfl, fun i hi => ?_⟩⟩
    have := hc (i + 1) (by simp; omega)
    rw [List.getElem_cons_succ] at this
    rw [Addr.add_add, Nat.add_comm 1 i]
    exact this

set_option maxRecDepth 100000 in
set_option maxHeartbeats 4000000 in
theorem ints_ix (a a' : Option Addr) (c c' n n' : Nat) (e : List Int) (w : World) (h : Ix w a e) (h' : Ix w a' e) (hn : n = e.length) (hn' : n' = e.length) (hb : e.length ≤ 1099511627776) :
    Calls Tryd.prog 15 #[.slice a n c, .slice a' n' c'] w fun en w' => en = .returned (.bool true) ∧ Touch (fun _ => False) w w' := by
  subst hn hn'
  have H1 := hid h
  have H2 := hid h'
  clear h h'
  go_enter Tryd.func15, Tryd.ntmps15
  go_wp2_with fail
  go_loopg [5] e.length (fun gk i wq => ∃ k : Nat, k + gk = e.length ∧ i = .int .i64 (k : Nat) ∧ Touch (fun _ => False) w wq)
  case atStart => exact ⟨0, by omega, rfl, Touch.refl _ _⟩
  case round =>
    obtain ⟨k, hk, rfl, htc⟩ := hrel
    have TC := hid htc
    clear htc
    by_cases hlt : k < e.length
    · have hne : e ≠ [] := fun z => by rw [z] at hlt; simp at hlt
      obtain ⟨b1, rfl, hc1⟩ := (H1.out.new TC.out).resolve_left hne
      obtain ⟨b2, rfl, hc2⟩ := (H2.out.new TC.out).resolve_left hne
      have d1 := hc1 k hlt
      have d2 := hc2 k hlt
      generalize e[k] = x at *
      have hkI : (k : Int) < (e.length : Int) := by omega
      clear hc1 hc2 hne
      go_upto_region 6 with fail
      go_cut [25] (fun v wd => v = .bool false ∧ Touch (fun _ => False) wr wd)
      case first =>
        go_quiet (fail)
        go_wp2
        go_meet
        case rel => exact ⟨by simp, (Touch.refl _ wr).drewN _⟩
      obtain ⟨rfl, tcw⟩ := hcut
      have T2 := hid (TC.out.trans tcw (fun _ _ e => e))
      clear tcw d1 d2
      go_wp2_with fail
      go_roundg (gk - 1)
      case measure => omega
      case rel => exact ⟨k + 1, by omega, by go_num, T2.out⟩
    · have hkI : ¬ ((k : Int) < (e.length : Int)) := by omega
      go_wp2
      go_ret
      exact ⟨rfl, TC.out⟩

theorem run_append_ix (w : World) (ty : TypeId) (v : Value) (n : Nat) (xs : List Value) (hown : w.ownsRow 0 3 1 v n xs) (a : Option Addr) (c : Nat) (l : List Int) (hl : Ix w a l) (hb : (n + l.length) * 8 ≤ 140737488355328) :
    ∃ v' w', (Builtin.append_ #[23, 23] ty #[v, .slice a l.length c]).run Tryd.prog w = .ok v' w' ∧ w'.ownsRow 0 3 1 v' (n + l.length) (xs ++ encI l) ∧ w.grownBy w' v.ownBlock ∧ (v'.ownBlock = v.ownBlock ∨ v'.ownBlock = some w.heap.size) := by
  obtain ⟨i0, hin, hz0, hz1, hz2⟩ := info_parts info3i
  rcases hl with rfl | ⟨x, rfl, hc⟩
  · refine ⟨v, w, run_append_noneI w ty v n xs hown a c, ?_, ⟨rfl, rfl, rfl, Nat.le_refl _, fun _ _ _ => rfl⟩, .inl rfl⟩
    rw [show encI [] = [] from rfl, List.append_nil]
    exact hown
  · obtain ⟨v', w', h1, h2, h3, _, h4⟩ := run_append_own_at (P := Tryd.prog) w 0 23 ty 3 i0 (.int .i64 0) 1 8 Tryd.underlying23 hin hz0 hz1 hz2 rfl (by decide) v n xs hown x l.length c (encI l) (by simp [encI]) (fun j u hj => by
        unfold encI at hj
        rw [List.getElem?_map] at hj
        obtain ⟨z, hz, rfl⟩ := Option.map_eq_some_iff.1 hj
        obtain ⟨hlt, rfl⟩ := List.getElem?_eq_some_iff.1 hz
        exact hc j hlt) (by intro u hu; obtain ⟨z, _, rfl⟩ := List.mem_map.1 hu; rfl) (by unfold maxLen; omega) hb (Nat.zero_le _)
    exact ⟨v', w', h1, h2, h3, h4⟩
theorem wpList_append_ix (w : World) {ops : Array Oper} {rest : List Oper} {o : Oper} {a : Act} {Q : Exit → Act → World → Prop} (hgd : o.guard = none) (s x : Operand)
    (ho : o.op = .call { callee := .builtin .append, args := #[s, x], argTypes := #[23, 23] })
    (v : Value) (n : Nat) (xs : List Value) (hs : a.eval s = v) (hown : w.ownsRow 0 3 1 v n xs) (ad : Option Addr) (c : Nat) (l : List Int) (m : Nat) (hm : m = l.length) (hx : a.eval x = .slice ad m c) (hl : Ix w ad l) (hb : (n + l.length) * 8 ≤ 140737488355328)
    (h : ∀ v' w', w'.ownsRow 0 3 1 v' (n + l.length) (xs ++ encI l) → w.grownBy w' v.ownBlock → (v'.ownBlock = v.ownBlock ∨ v'.ownBlock = some w.heap.size) → wpList Tryd.prog ops Q rest (a.put o.dst v') w') : wpList Tryd.prog ops Q (o :: rest) a w := by
  subst hm
  refine wpList_plain hgd fun K hK => ?_
  obtain ⟨v', w', hr, h2, h3, h4⟩ := run_append_ix w o.type v n xs hown ad c l hl hb
  unfold Oper.wp execOp
  simp only [ho, resolve, invoke, builtin, Sem.run_bind, Sem.run_pure, Result.andThen_ok, List.map_toArray, List.map_cons, List.map_nil, hs, hx, hr]
  exact hK _ _ (h v' w' h2 h3 h4)
/-- A list of none that isn't nil. -/
theorem OwI.none (w : World) : OwI w (w.alloc (.cells #[] 3)) (.slice (some ⟨w.heap.size, 0, .none⟩) 0 0) [] := by
  refine ⟨⟨rfl, .inr ⟨w.heap.size, 0, #[], rfl, Nat.zero_le _, heap_alloc_new w _, Nat.le_refl _, by unfold maxLen; omega, rfl, rfl⟩⟩, fun g hg => ?_, (Touch.refl _ w).alloc _⟩
  simp [Value.ownBlock] at hg
  omega
end Go.Proofs.YtpjnnbegimaaeaaDoor

/- The two tables of coding, as the row's list gives them: their cells; no condition. -/
namespace Go.Proofs.YtpjnnbegimaaeaaDoor
open Go.RowKit

theorem g0 : Tryd.prog.globalNamed "ferret/coding.marks" = some 0 := by kernel_rfl
theorem g1 : Tryd.prog.globalNamed "ferret/coding.leads" = some 1 := by kernel_rfl
theorem y0 : (Tryd.prog.globals[0]?).map (·.type) = some 53 := by kernel_rfl
theorem y1 : (Tryd.prog.globals[1]?).map (·.type) = some 73 := by kernel_rfl
theorem tc3 : Tryd.prog.cellsOf 3 = 1 := by kernel_rfl
theorem tc5 : Tryd.prog.cellsOf 5 = 1 := by kernel_rfl
theorem tc9 : Tryd.prog.cellsOf 9 = 1 := by kernel_rfl
theorem tc70 : Tryd.prog.cellsOf 70 = 5 := by kernel_rfl
theorem tc73 : Tryd.prog.cellsOf 73 = 45 := by kernel_rfl
theorem tc53 : Tryd.prog.cellsOf 53 = 5 := by kernel_rfl

theorem at_take {cs : List Value} {k : Nat} {v : Value} (h : (cs.drop k).take 1 = [v]) : cs[k]? = some v := by
  have := congrArg (·[0]?) h
  simpa [List.getElem?_take, List.getElem?_drop] using this
theorem five_list {cs : List Value} {x y z u v : Value} (hl : cs.length = 5) (q0 : cs[0]? = some x) (q1 : cs[1]? = some y) (q2 : cs[2]? = some z) (q3 : cs[3]? = some u) (q4 : cs[4]? = some v) : cs = [x, y, z, u, v] := by
  match cs, hl, q0, q1, q2, q3, q4 with
  | [a, b, c, d, e], _, q0, q1, q2, q3, q4 =>
    simp at q0 q1 q2 q3 q4
    subst q0 q1 q2 q3 q4
    rfl
section
variable {H : Type} {enc : TypeId × Value → H} {w : World} {base : Nat} {sp : Nat → Bool} {held : Bool}
theorem row5 {fuel : Nat} {cs : List Value} {x0 x1 x2 x3 x4 : Int} {p : List MemPlace} (h : DataW.trod enc Tryd.prog w base sp held fuel 70 cs = some (.agg [.lit (.int .u8 x0), .lit (.int .u8 x1), .lit (.int .i64 x2), .lit (.int .u8 x3), .lit (.int .u8 x4)], p)) : cs = [.int .u8 x0, .int .u8 x1, .int .i64 x2, .int .u8 x3, .int .u8 x4] := by
  obtain ⟨xs, n, rfl, hx, hl, hxl, hall⟩ := DataW.trod_struct Tryd.underlying70 h
  rw [tc70] at hl
  have hx3 : xs.map (·.1) = [.lit (.int .u8 x0), .lit (.int .u8 x1), .lit (.int .i64 x2), .lit (.int .u8 x3), .lit (.int .u8 x4)] := by
    have := congrArg Prod.fst hx
    simpa using this.symm
  obtain ⟨d0, d1, d2, d3, d4, rfl⟩ : ∃ d0 d1 d2 d3 d4, xs = [d0, d1, d2, d3, d4] := by
    match xs, hx3 with
    | [d0, d1, d2, d3, d4], _ => exact ⟨d0, d1, d2, d3, d4, rfl⟩
  simp only [List.map_cons, List.map_nil, List.cons.injEq, and_true] at hx3
  obtain ⟨e0, e1, e2, e3, e4⟩ := hx3
  have f0 := hall 0 _ rfl
  change DataW.trod _ _ _ _ _ _ _ 5 ((cs.drop 0).take (Tryd.prog.cellsOf 5)) = some d0 at f0
  rw [tc5] at f0
  have q0 : cs[0]? = some (.int .u8 x0) := by
    obtain ⟨z, hz, hx', _⟩ := DataW.trod_int Tryd.underlying5 f0
    rw [hx'] at e0
    cases e0
    exact at_take hz
  have f1 := hall 1 _ rfl
  change DataW.trod _ _ _ _ _ _ _ 5 ((cs.drop 1).take (Tryd.prog.cellsOf 5)) = some d1 at f1
  rw [tc5] at f1
  have q1 : cs[1]? = some (.int .u8 x1) := by
    obtain ⟨z, hz, hx', _⟩ := DataW.trod_int Tryd.underlying5 f1
    rw [hx'] at e1
    cases e1
    exact at_take hz
  have f2 := hall 2 _ rfl
  change DataW.trod _ _ _ _ _ _ _ 3 ((cs.drop 2).take (Tryd.prog.cellsOf 3)) = some d2 at f2
  rw [tc3] at f2
  have q2 : cs[2]? = some (.int .i64 x2) := by
    obtain ⟨z, hz, hx', _⟩ := DataW.trod_int Tryd.underlying3 f2
    rw [hx'] at e2
    cases e2
    exact at_take hz
  have f3 := hall 3 _ rfl
  change DataW.trod _ _ _ _ _ _ _ 5 ((cs.drop 3).take (Tryd.prog.cellsOf 5)) = some d3 at f3
  rw [tc5] at f3
  have q3 : cs[3]? = some (.int .u8 x3) := by
    obtain ⟨z, hz, hx', _⟩ := DataW.trod_int Tryd.underlying5 f3
    rw [hx'] at e3
    cases e3
    exact at_take hz
  have f4 := hall 4 _ rfl
  change DataW.trod _ _ _ _ _ _ _ 5 ((cs.drop 4).take (Tryd.prog.cellsOf 5)) = some d4 at f4
  rw [tc5] at f4
  have q4 : cs[4]? = some (.int .u8 x4) := by
    obtain ⟨z, hz, hx', _⟩ := DataW.trod_int Tryd.underlying5 f4
    rw [hx'] at e4
    cases e4
    exact at_take hz
  exact five_list hl q0 q1 q2 q3 q4

/-- The list that the array is, out of its pieces. -/
theorem pieces {cs : List Value} {m : Nat} : ∀ (rows : List (List Value)) (k : Nat), (∀ i (h : i < rows.length), (cs.drop ((k + i) * m)).take m = rows[i]) → (∀ r ∈ rows, r.length = m) → (cs.drop (k * m)).take (rows.length * m) = rows.flatten
  | [], k, _, _ => by simp
  | r :: rows, k, h, hl => by
    have h0 := h 0 (by simp)
    have ih := pieces (cs := cs) (m := m) rows (k + 1) (fun i hi => by
      have := h (i + 1) (by simpa using hi)
      rw [show k + (i + 1) = k + 1 + i by omega] at this
      simpa using this) (fun q hq => hl q (by simp [hq]))
    simp only [Nat.add_zero, List.getElem_cons_zero] at h0
    rw [List.length_cons, Nat.add_mul, Nat.one_mul, Nat.add_comm, List.take_add, h0, List.drop_drop, List.flatten_cons]
    rw [show k * m + m = (k + 1) * m by rw [Nat.add_mul, Nat.one_mul], ih]
theorem whole {cs : List Value} {m : Nat} {rows : List (List Value)} (h : ∀ i (h : i < rows.length), (cs.drop (i * m)).take m = rows[i]) (hl : ∀ r ∈ rows, r.length = m) (hc : cs.length = rows.length * m) : cs = rows.flatten := by
  have := pieces rows 0 (fun i hi => by rw [Nat.zero_add]; exact h i hi) hl
  rw [Nat.zero_mul, List.drop_zero, List.take_of_length_le (by omega)] at this
  exact this

set_option maxRecDepth 100000 in
theorem leads_cells {fuel : Nat} {cs : List Value} {p : List MemPlace} (h : DataW.trod enc Tryd.prog w base sp held fuel 73 cs = some (Rows.laid_ferret_coding_leads, p)) : cs = leadsC.toList := by
  obtain ⟨xs, m, rfl, hx, hl, hxl, hall⟩ := DataW.trod_array Tryd.underlying73 h
  rw [tc73] at hl
  have hx3 : xs.map (·.1) = [.agg [.lit (.int .u8 0), .lit (.int .u8 127), .lit (.int .i64 0), .lit (.int .u8 0), .lit (.int .u8 0)], .agg [.lit (.int .u8 194), .lit (.int .u8 223), .lit (.int .i64 1), .lit (.int .u8 128), .lit (.int .u8 191)], .agg [.lit (.int .u8 224), .lit (.int .u8 224), .lit (.int .i64 2), .lit (.int .u8 160), .lit (.int .u8 191)], .agg [.lit (.int .u8 225), .lit (.int .u8 236), .lit (.int .i64 2), .lit (.int .u8 128), .lit (.int .u8 191)], .agg [.lit (.int .u8 237), .lit (.int .u8 237), .lit (.int .i64 2), .lit (.int .u8 128), .lit (.int .u8 159)], .agg [.lit (.int .u8 238), .lit (.int .u8 239), .lit (.int .i64 2), .lit (.int .u8 128), .lit (.int .u8 191)], .agg [.lit (.int .u8 240), .lit (.int .u8 240), .lit (.int .i64 3), .lit (.int .u8 144), .lit (.int .u8 191)], .agg [.lit (.int .u8 241), .lit (.int .u8 243), .lit (.int .i64 3), .lit (.int .u8 128), .lit (.int .u8 191)], .agg [.lit (.int .u8 244), .lit (.int .u8 244), .lit (.int .i64 3), .lit (.int .u8 128), .lit (.int .u8 143)]] := by
    have := congrArg Prod.fst hx
    exact (DataW.agg.inj this).symm
  have row : ∀ i (hi : i < 9) (x0 x1 x2 x3 x4 : Int), (xs.map (·.1))[i]? = some (.agg [.lit (.int .u8 x0), .lit (.int .u8 x1), .lit (.int .i64 x2), .lit (.int .u8 x3), .lit (.int .u8 x4)]) → (cs.drop (i * 5)).take 5 = [.int .u8 x0, .int .u8 x1, .int .i64 x2, .int .u8 x3, .int .u8 x4] := by
    intro i hi x0 x1 x2 x3 x4 hd
    have h1 := hall i hi
    rw [tc70] at h1
    rw [List.getElem?_map] at hd
    obtain ⟨⟨d, q⟩, hq, rfl⟩ := Option.map_eq_some_iff.1 hd
    rw [hq] at h1
    exact row5 h1
  rw [hx3] at row
  have := whole (cs := cs) (m := 5) (rows := [[.int .u8 0, .int .u8 127, .int .i64 0, .int .u8 0, .int .u8 0], [.int .u8 194, .int .u8 223, .int .i64 1, .int .u8 128, .int .u8 191], [.int .u8 224, .int .u8 224, .int .i64 2, .int .u8 160, .int .u8 191], [.int .u8 225, .int .u8 236, .int .i64 2, .int .u8 128, .int .u8 191], [.int .u8 237, .int .u8 237, .int .i64 2, .int .u8 128, .int .u8 159], [.int .u8 238, .int .u8 239, .int .i64 2, .int .u8 128, .int .u8 191], [.int .u8 240, .int .u8 240, .int .i64 3, .int .u8 144, .int .u8 191], [.int .u8 241, .int .u8 243, .int .i64 3, .int .u8 128, .int .u8 191], [.int .u8 244, .int .u8 244, .int .i64 3, .int .u8 128, .int .u8 143]]) (fun i hi => by
    simp only [List.length_cons, List.length_nil] at hi
    match i, hi with
    | 0, hi => exact row 0 hi _ _ _ _ _ rfl
    | 1, hi => exact row 1 hi _ _ _ _ _ rfl
    | 2, hi => exact row 2 hi _ _ _ _ _ rfl
    | 3, hi => exact row 3 hi _ _ _ _ _ rfl
    | 4, hi => exact row 4 hi _ _ _ _ _ rfl
    | 5, hi => exact row 5 hi _ _ _ _ _ rfl
    | 6, hi => exact row 6 hi _ _ _ _ _ rfl
    | 7, hi => exact row 7 hi _ _ _ _ _ rfl
    | 8, hi => exact row 8 hi _ _ _ _ _ rfl) (by simp) (by simp [hl])
  exact this
theorem str_cell {fuel : Nat} {cs : List Value} {l : List UInt8} {p : List MemPlace} (h : DataW.trod enc Tryd.prog w base sp held fuel 9 cs = some (.lit (.string l), p)) : cs = [.string ⟨l.toArray⟩] := by
  obtain ⟨s, rfl, hz, _⟩ := DataW.trod_string Tryd.underlying9 h
  cases s
  rename_i a
  simp only [Prod.mk.injEq, DataW.lit.injEq, Lit.string.injEq] at hz
  rw [hz.1]
set_option maxRecDepth 100000 in
theorem marks_cells {fuel : Nat} {cs : List Value} {p : List MemPlace} (h : DataW.trod enc Tryd.prog w base sp held fuel 53 cs = some (Rows.laid_ferret_coding_marks, p)) : cs = marksC.toList := by
  obtain ⟨xs, m, rfl, hx, hl, hxl, hall⟩ := DataW.trod_array Tryd.underlying53 h
  rw [tc53] at hl
  have hx3 : xs.map (·.1) = [.lit (.string []), .lit (.string [239, 187, 191]), .lit (.string [255, 254]), .lit (.string [254, 255]), .lit (.string [])] := by
    have := congrArg Prod.fst hx
    exact (DataW.agg.inj this).symm
  have row : ∀ i (hi : i < 5) (l : List UInt8), (xs.map (·.1))[i]? = some (.lit (.string l)) → (cs.drop (i * 1)).take 1 = [.string ⟨l.toArray⟩] := by
    intro i hi l hd
    have h1 := hall i hi
    rw [tc9] at h1
    rw [List.getElem?_map] at hd
    obtain ⟨⟨d, q⟩, hq, rfl⟩ := Option.map_eq_some_iff.1 hd
    rw [hq] at h1
    exact str_cell h1
  rw [hx3] at row
  have := whole (cs := cs) (m := 1) (rows := [[.string ⟨#[]⟩], [.string ⟨#[239, 187, 191]⟩], [.string ⟨#[255, 254]⟩], [.string ⟨#[254, 255]⟩], [.string ⟨#[]⟩]]) (fun i hi => by
    simp only [List.length_cons, List.length_nil] at hi
    match i, hi with
    | 0, hi => exact row 0 hi _ rfl
    | 1, hi => exact row 1 hi _ rfl
    | 2, hi => exact row 2 hi _ rfl
    | 3, hi => exact row 3 hi _ rfl
    | 4, hi => exact row 4 hi _ rfl) (by simp) (by simp [hl])
  exact this
end

set_option maxRecDepth 100000 in
theorem tabs_of {W : World} (h : laidMet Tryd.prog [("ferret/coding.marks", Rows.laid_ferret_coding_marks), ("ferret/coding.leads", Rows.laid_ferret_coding_leads)] W) : Tabs W := by
  obtain ⟨ps, ⟨g, t, cs, fuel, p, q, hg, ht, hvar, hd, ⟨g', t', cs', fuel', p', q', hg', ht', hvar', hd', _, rfl⟩, rfl⟩, _, hfree⟩ := h
  obtain rfl := Option.some.inj (g0.symm.trans hg)
  obtain rfl := Option.some.inj (y0.symm.trans ht)
  obtain rfl := Option.some.inj (g1.symm.trans hg')
  obtain rfl := Option.some.inj (y1.symm.trans ht')
  have e0 : cs = marksC := by
    have := marks_cells hd
    cases cs
    simpa using congrArg List.toArray this
  have e1 : cs' = leadsC := by
    have := leads_cells hd'
    cases cs'
    simpa using congrArg List.toArray this
  subst e0
  subst e1
  unfold World.var? at hvar hvar'
  rw [g0] at hvar
  rw [g1] at hvar'
  simp only [Option.bind_some] at hvar hvar'
  obtain ⟨⟨cc, tt, hh⟩, _⟩ := hfree 0 0 (by simp [MemPlace.row, marksC])
  obtain ⟨⟨cc', tt', hh'⟩, _⟩ := hfree 1 0 (by simp [MemPlace.row, leadsC])
  rw [hh] at hvar
  rw [hh'] at hvar'
  simp only [Option.some.injEq] at hvar hvar'
  subst hvar
  subst hvar'
  exact ⟨⟨tt, hh⟩, ⟨tt', hh'⟩⟩
end Go.Proofs.YtpjnnbegimaaeaaDoor

/- What every frame here leans on: a list of numbers that a call is handed; conditions: those told. -/
namespace Go.Proofs.YtpjnnbegimaaeaaDoor
open Go.ChangeShapes Go.WideShapes Go.ChangeAt Go.RowKit

theorem own : ownKnob Tryd.prog.godebug = none := by kernel_rfl
theorem laidOut : laidOutB Tryd.prog = true := by kernel_rfl

/-- A string reads in every world as it reads in one. -/
theorem shut_str {H : Type} {enc : TypeId × Value → H} {w w' : World} {base base' : Nat} {sp sp' : Nat → Bool} {held held' : Bool} {s : ByteArray} {d : DataW H} {ps : List MemPlace} (h : DataW.Trod enc Tryd.prog w base sp held 9 (.string s) d ps) : DataW.Trod enc Tryd.prog w' base' sp' held' 9 (.string s) (.lit (.string s.data.toList)) [] := by
  obtain ⟨fuel, hf⟩ := h
  obtain ⟨s', h, hx, hw⟩ := DataW.trod_string Tryd.underlying9 hf
  simp only [Value.cells, List.cons.injEq, Value.string.injEq, and_true] at h
  subst h
  exact ⟨1, by simp [DataW.trod, Value.cells, Tryd.underlying9, hw]⟩
theorem bulk_ints {H : Type} (k : IntKind) : ∀ l : List Int, Rows.uptoBulkAll (H := H) (lits k l) = l.length
  | [] => rfl
  | x :: l => by
    show Rows.uptoBulkAll (.lit (.int k x) :: lits k l) = _
    rw [Rows.uptoBulkAll, bulk_ints k l, Rows.uptoBulk, List.length_cons]
    · omega
    · intro b h
      cases h
theorem ints_open {H : Type} {enc : TypeId × Value → H} {W : World} {a : Option Addr} {n c : Nat} {d : DataW H} {p : List MemPlace} (h : DataW.Trod enc Tryd.prog W 0 (fun _ => true) true 23 (.slice a n c) d p) (hb : Rows.uptoBulk d ≤ 1048576) : ∃ l : List Int, n = l.length ∧ Ix W a l ∧ l.length ≤ 1048576 := by
  obtain ⟨fuel, hf⟩ := h
  rcases open_ints Tryd.underlying23 Tryd.underlying3 (by kernel_rfl) hf with ⟨hcs, _⟩ | ⟨x, len, cap, zs, hcs, _, hl, hm, hz, hx, hcell, hwz⟩
  · simp [Value.cells] at hcs
    obtain ⟨rfl, rfl, rfl⟩ := hcs
    exact ⟨[], rfl, .inl rfl, by simp⟩
  · simp [Value.cells] at hcs
    obtain ⟨rfl, rfl, rfl⟩ := hcs
    simp only [Prod.mk.injEq] at hx
    obtain ⟨rfl, rfl⟩ := hx
    simp only [if_true] at hz
    have hlen : (zs.take n).length = n := by rw [List.length_take]; omega
    refine ⟨zs.take n, hlen.symm, .inr ⟨x, rfl, fun i hi => ?_⟩, ?_⟩
    · rw [hcell i (by omega), List.getElem_take, List.getD_eq_getElem?_getD, List.getElem?_eq_getElem (by omega)]
      rfl
    · simp only [Rows.uptoBulk] at hb
      rw [bulk_ints] at hb
      omega
theorem ints_cap {H : Type} {enc : TypeId × Value → H} {W : World} {a : Option Addr} {n c : Nat} {d : DataW H} {p : List MemPlace} (h : DataW.Trod enc Tryd.prog W 0 (fun _ => true) true 23 (.slice a n c) d p) : n ≤ c := by
  obtain ⟨fuel, hf⟩ := h
  rcases open_ints Tryd.underlying23 Tryd.underlying3 (by kernel_rfl) hf with ⟨hcs, _⟩ | ⟨x, len, cap, zs, hcs, _, hl, hm, hz, hx, hcell, hwz⟩
  · simp [Value.cells] at hcs
    obtain ⟨rfl, rfl, rfl⟩ := hcs
    exact Nat.le_refl _
  · simp [Value.cells] at hcs
    obtain ⟨rfl, rfl, rfl⟩ := hcs
    exact hl
/-- A block that holds other cells. -/
def setC (cs : Array Value) : Obj → Obj
  | .cells _ t frozen => .cells cs t frozen
  | o => o
/-- A world for the witness: the settled one, both tables holding what their initialisers lay. -/
noncomputable def laidWorld (os : Os) : World :=
  { World.holding Tryd.prog os ⟨#[], #[], []⟩ with heap := ((World.holding Tryd.prog os ⟨#[], #[], []⟩).heap.modify 0 (setC marksC)).modify 1 (setC leadsC) }
end Go.Proofs.YtpjnnbegimaaeaaDoor
