/- Texts of this proof, one behind the other: what each says stands ahead of it. -/
import Derived.Test.YtnngemdpoemhgaaDoorRows
import Derived.OpenShut
import Derived.ChangeArms
import Derived.Test.YtnngemdpoemhgaaDoorM0
import Derived.Test.YtnngemdpoemhgaaDoorM1
import Derived.Shelf.Small.Bits
import Derived.Laws.Rows
/- The two tables of orbits, as the row's list gives them: their cells; no condition. -/
namespace Go.Proofs.YtnngemdpoemhgaaDoor
open Go.RowKit

def pairsC : Array Value := #[.int .i64 65, .int .i64 90, .int .i64 32, .int .i64 192, .int .i64 214, .int .i64 32, .int .i64 216, .int .i64 222, .int .i64 32, .int .i64 913, .int .i64 929, .int .i64 32, .int .i64 931, .int .i64 937, .int .i64 32, .int .i64 1040, .int .i64 1071, .int .i64 32, .int .i64 66560, .int .i64 66599, .int .i64 40]
def thirdsC : Array Value := #[.int .i64 8490, .int .i64 75, .int .i64 383, .int .i64 83, .int .i64 8491, .int .i64 197, .int .i64 181, .int .i64 924, .int .i64 962, .int .i64 931]

/-- Both tables lie where they lie. -/
structure Tabs (w : World) : Prop where
  pairs : ∃ t, w.heap[0]? = some (.cells pairsC t (0, 0))
  thirds : ∃ t, w.heap[1]? = some (.cells thirdsC t (0, 0))
theorem Tabs.new {w w' : World} (h : Tabs w) (t : Touch (fun _ => False) w w') : Tabs w' := by
  obtain ⟨⟨t0, h0⟩, ⟨t1, h1⟩⟩ := h
  exact ⟨⟨t0, (t.block 0 (lt_of_block h0) id).trans h0⟩, ⟨t1, (t.block 1 (lt_of_block h1) id).trans h1⟩⟩

theorem g0 : Tryd.prog.globalNamed "ferret/ucd.allPairs" = some 0 := by kernel_rfl
theorem g1 : Tryd.prog.globalNamed "ferret/ucd.thirds" = some 1 := by kernel_rfl
theorem y0 : (Tryd.prog.globals[0]?).map (·.type) = some 48 := by kernel_rfl
theorem y1 : (Tryd.prog.globals[1]?).map (·.type) = some 51 := by kernel_rfl
theorem c3 : Tryd.prog.cellsOf 3 = 1 := by kernel_rfl
theorem c47 : Tryd.prog.cellsOf 47 = 3 := by kernel_rfl
theorem c50 : Tryd.prog.cellsOf 50 = 2 := by kernel_rfl
theorem c48 : Tryd.prog.cellsOf 48 = 21 := by kernel_rfl
theorem c51 : Tryd.prog.cellsOf 51 = 10 := by kernel_rfl

theorem at_take {cs : List Value} {k : Nat} {v : Value} (h : (cs.drop k).take 1 = [v]) : cs[k]? = some v := by
  have := congrArg (·[0]?) h
  simpa [List.getElem?_take, List.getElem?_drop] using this
theorem three_list {cs : List Value} {x y z : Value} (hl : cs.length = 3) (q0 : cs[0]? = some x) (q1 : cs[1]? = some y) (q2 : cs[2]? = some z) : cs = [x, y, z] := by
  match cs, hl, q0, q1, q2 with
  | [a, b, c], _, q0, q1, q2 =>
    simp at q0 q1 q2
    subst q0 q1 q2
    rfl
theorem two_list {cs : List Value} {x y : Value} (hl : cs.length = 2) (q0 : cs[0]? = some x) (q1 : cs[1]? = some y) : cs = [x, y] := by
  match cs, hl, q0, q1 with
  | [a, b], _, q0, q1 =>
    simp at q0 q1
    subst q0 q1
    rfl
section
variable {H : Type} {enc : TypeId × Value → H} {w : World} {base : Nat} {sp : Nat → Bool} {held : Bool}
theorem row3 {fuel : Nat} {cs : List Value} {x y z : Int} {p : List MemPlace} (h : DataW.trod enc Tryd.prog w base sp held fuel 47 cs = some (.agg [.lit (.int .i64 x), .lit (.int .i64 y), .lit (.int .i64 z)], p)) : cs = [.int .i64 x, .int .i64 y, .int .i64 z] := by
  obtain ⟨xs, n, rfl, hx, hl, hxl, hall⟩ := DataW.trod_struct Tryd.underlying47 h
  rw [c47] at hl
  have hx3 : xs.map (·.1) = [.lit (.int .i64 x), .lit (.int .i64 y), .lit (.int .i64 z)] := by
    have := congrArg Prod.fst hx
    simpa using this.symm
  obtain ⟨x0, x1, x2, rfl⟩ : ∃ x0 x1 x2, xs = [x0, x1, x2] := by
    match xs, hx3 with
    | [x0, x1, x2], _ => exact ⟨x0, x1, x2, rfl⟩
  simp only [List.map_cons, List.map_nil, List.cons.injEq, and_true] at hx3
  obtain ⟨e0, e1, e2⟩ := hx3
  have f0 := hall 0 _ rfl
  have f1 := hall 1 _ rfl
  have f2 := hall 2 _ rfl
  change DataW.trod _ _ _ _ _ _ _ 3 ((cs.drop 0).take (Tryd.prog.cellsOf 3)) = some x0 at f0
  change DataW.trod _ _ _ _ _ _ _ 3 ((cs.drop 1).take (Tryd.prog.cellsOf 3)) = some x1 at f1
  change DataW.trod _ _ _ _ _ _ _ 3 ((cs.drop 2).take (Tryd.prog.cellsOf 3)) = some x2 at f2
  rw [c3] at f0 f1 f2
  have q0 : cs[0]? = some (.int .i64 x) := by
    obtain ⟨z, hz, hx', _⟩ := DataW.trod_int Tryd.underlying3 f0
    rw [hx'] at e0
    cases e0
    exact at_take hz
  have q1 : cs[1]? = some (.int .i64 y) := by
    obtain ⟨z, hz, hx', _⟩ := DataW.trod_int Tryd.underlying3 f1
    rw [hx'] at e1
    cases e1
    exact at_take hz
  have q2 : cs[2]? = some (.int .i64 z) := by
    obtain ⟨z, hz, hx', _⟩ := DataW.trod_int Tryd.underlying3 f2
    rw [hx'] at e2
    cases e2
    exact at_take hz
  exact three_list hl q0 q1 q2
theorem row2 {fuel : Nat} {cs : List Value} {x y : Int} {p : List MemPlace} (h : DataW.trod enc Tryd.prog w base sp held fuel 50 cs = some (.agg [.lit (.int .i64 x), .lit (.int .i64 y)], p)) : cs = [.int .i64 x, .int .i64 y] := by
  obtain ⟨xs, n, rfl, hx, hl, hxl, hall⟩ := DataW.trod_struct Tryd.underlying50 h
  rw [c50] at hl
  have hx3 : xs.map (·.1) = [.lit (.int .i64 x), .lit (.int .i64 y)] := by
    have := congrArg Prod.fst hx
    simpa using this.symm
  obtain ⟨x0, x1, rfl⟩ : ∃ x0 x1, xs = [x0, x1] := by
    match xs, hx3 with
    | [x0, x1], _ => exact ⟨x0, x1, rfl⟩
  simp only [List.map_cons, List.map_nil, List.cons.injEq, and_true] at hx3
  obtain ⟨e0, e1⟩ := hx3
  have f0 := hall 0 _ rfl
  have f1 := hall 1 _ rfl
  change DataW.trod _ _ _ _ _ _ _ 3 ((cs.drop 0).take (Tryd.prog.cellsOf 3)) = some x0 at f0
  change DataW.trod _ _ _ _ _ _ _ 3 ((cs.drop 1).take (Tryd.prog.cellsOf 3)) = some x1 at f1
  rw [c3] at f0 f1
  have q0 : cs[0]? = some (.int .i64 x) := by
    obtain ⟨z, hz, hx', _⟩ := DataW.trod_int Tryd.underlying3 f0
    rw [hx'] at e0
    cases e0
    exact at_take hz
  have q1 : cs[1]? = some (.int .i64 y) := by
    obtain ⟨z, hz, hx', _⟩ := DataW.trod_int Tryd.underlying3 f1
    rw [hx'] at e1
    cases e1
    exact at_take hz
  exact two_list hl q0 q1

/-- The list that the array is, out of its pieces. -/
theorem pieces {cs : List Value} {m : Nat} : ∀ (rows : List (List Value)) (k : Nat), (∀ i (h : i < rows.length), (cs.drop ((k + i) * m)).take m = rows[i]) → (∀ r ∈ rows, r.length = m) → (cs.drop (k * m)).take (rows.length * m) = rows.flatten
  | [], k, _, _ => by simp
  | r :: rows, k, h, hl => by
    have h0 := h 0 (by simp)
    have ih := pieces (cs := cs) (m := m) rows (k + 1) (fun i hi => by
      have := h (i + 1) (by simpa using hi)
      rw [show k + (i + 1) = k + 1 + i by omega] at this
      simpa using this) (fun q hq => hl q (by simp [hq]))
    simp only [Nat.add_zero, List.getElem_cons_zero] at h0
    rw [List.length_cons, Nat.add_mul, Nat.one_mul, Nat.add_comm, List.take_add, h0, List.drop_drop, List.flatten_cons]
    rw [show k * m + m = (k + 1) * m by rw [Nat.add_mul, Nat.one_mul], ih]
theorem whole {cs : List Value} {m : Nat} {rows : List (List Value)} (h : ∀ i (h : i < rows.length), (cs.drop (i * m)).take m = rows[i]) (hl : ∀ r ∈ rows, r.length = m) (hc : cs.length = rows.length * m) : cs = rows.flatten := by
  have := pieces rows 0 (fun i hi => by rw [Nat.zero_add]; exact h i hi) hl
  rw [Nat.zero_mul, List.drop_zero, List.take_of_length_le (by omega)] at this
  exact this

set_option maxRecDepth 100000 in
theorem pairs_cells {fuel : Nat} {cs : List Value} {p : List MemPlace} (h : DataW.trod enc Tryd.prog w base sp held fuel 48 cs = some (Rows.laid_ferret_ucd_allPairs, p)) : cs = pairsC.toList := by
  obtain ⟨xs, m, rfl, hx, hl, hxl, hall⟩ := DataW.trod_array Tryd.underlying48 h
  rw [c48] at hl
  have hx3 : xs.map (·.1) = [.agg [.lit (.int .i64 65), .lit (.int .i64 90), .lit (.int .i64 32)], .agg [.lit (.int .i64 192), .lit (.int .i64 214), .lit (.int .i64 32)], .agg [.lit (.int .i64 216), .lit (.int .i64 222), .lit (.int .i64 32)], .agg [.lit (.int .i64 913), .lit (.int .i64 929), .lit (.int .i64 32)], .agg [.lit (.int .i64 931), .lit (.int .i64 937), .lit (.int .i64 32)], .agg [.lit (.int .i64 1040), .lit (.int .i64 1071), .lit (.int .i64 32)], .agg [.lit (.int .i64 66560), .lit (.int .i64 66599), .lit (.int .i64 40)]] := by
    have := congrArg Prod.fst hx
    exact (DataW.agg.inj this).symm
  have row : ∀ i (hi : i < 7) (x y z : Int), (xs.map (·.1))[i]? = some (.agg [.lit (.int .i64 x), .lit (.int .i64 y), .lit (.int .i64 z)]) → (cs.drop (i * 3)).take 3 = [.int .i64 x, .int .i64 y, .int .i64 z] := by
    intro i hi x y z hd
    have h1 := hall i hi
    rw [c47] at h1
    rw [List.getElem?_map] at hd
    obtain ⟨⟨d, q⟩, hq, rfl⟩ := Option.map_eq_some_iff.1 hd
    rw [hq] at h1
    exact row3 h1
  rw [hx3] at row
  have := whole (cs := cs) (m := 3) (rows := [[.int .i64 65, .int .i64 90, .int .i64 32], [.int .i64 192, .int .i64 214, .int .i64 32], [.int .i64 216, .int .i64 222, .int .i64 32], [.int .i64 913, .int .i64 929, .int .i64 32], [.int .i64 931, .int .i64 937, .int .i64 32], [.int .i64 1040, .int .i64 1071, .int .i64 32], [.int .i64 66560, .int .i64 66599, .int .i64 40]]) (fun i hi => by
    simp only [List.length_cons, List.length_nil] at hi
    match i, hi with
    | 0, hi => exact row 0 hi _ _ _ rfl
    | 1, hi => exact row 1 hi _ _ _ rfl
    | 2, hi => exact row 2 hi _ _ _ rfl
    | 3, hi => exact row 3 hi _ _ _ rfl
    | 4, hi => exact row 4 hi _ _ _ rfl
    | 5, hi => exact row 5 hi _ _ _ rfl
    | 6, hi => exact row 6 hi _ _ _ rfl) (by simp) (by simp [hl])
  exact this
set_option maxRecDepth 100000 in
theorem thirds_cells {fuel : Nat} {cs : List Value} {p : List MemPlace} (h : DataW.trod enc Tryd.prog w base sp held fuel 51 cs = some (Rows.laid_ferret_ucd_thirds, p)) : cs = thirdsC.toList := by
  obtain ⟨xs, m, rfl, hx, hl, hxl, hall⟩ := DataW.trod_array Tryd.underlying51 h
  rw [c51] at hl
  have hx3 : xs.map (·.1) = [.agg [.lit (.int .i64 8490), .lit (.int .i64 75)], .agg [.lit (.int .i64 383), .lit (.int .i64 83)], .agg [.lit (.int .i64 8491), .lit (.int .i64 197)], .agg [.lit (.int .i64 181), .lit (.int .i64 924)], .agg [.lit (.int .i64 962), .lit (.int .i64 931)]] := by
    have := congrArg Prod.fst hx
    exact (DataW.agg.inj this).symm
  have row : ∀ i (hi : i < 5) (x y : Int), (xs.map (·.1))[i]? = some (.agg [.lit (.int .i64 x), .lit (.int .i64 y)]) → (cs.drop (i * 2)).take 2 = [.int .i64 x, .int .i64 y] := by
    intro i hi x y hd
    have h1 := hall i hi
    rw [c50] at h1
    rw [List.getElem?_map] at hd
    obtain ⟨⟨d, q⟩, hq, rfl⟩ := Option.map_eq_some_iff.1 hd
    rw [hq] at h1
    exact row2 h1
  rw [hx3] at row
  have := whole (cs := cs) (m := 2) (rows := [[.int .i64 8490, .int .i64 75], [.int .i64 383, .int .i64 83], [.int .i64 8491, .int .i64 197], [.int .i64 181, .int .i64 924], [.int .i64 962, .int .i64 931]]) (fun i hi => by
    simp only [List.length_cons, List.length_nil] at hi
    match i, hi with
    | 0, hi => exact row 0 hi _ _ rfl
    | 1, hi => exact row 1 hi _ _ rfl
    | 2, hi => exact row 2 hi _ _ rfl
    | 3, hi => exact row 3 hi _ _ rfl
    | 4, hi => exact row 4 hi _ _ rfl) (by simp) (by simp [hl])
  exact this
end

set_option maxRecDepth 100000 in
theorem tabs_of {W : World} (h : laidMet Tryd.prog [("ferret/ucd.allPairs", Rows.laid_ferret_ucd_allPairs), ("ferret/ucd.thirds", Rows.laid_ferret_ucd_thirds)] W) : Tabs W := by
  obtain ⟨ps, ⟨g, t, cs, fuel, p, q, hg, ht, hvar, hd, ⟨g', t', cs', fuel', p', q', hg', ht', hvar', hd', _, rfl⟩, rfl⟩, _, hfree⟩ := h
  obtain rfl := Option.some.inj (g0.symm.trans hg)
  obtain rfl := Option.some.inj (y0.symm.trans ht)
  obtain rfl := Option.some.inj (g1.symm.trans hg')
  obtain rfl := Option.some.inj (y1.symm.trans ht')
  have e0 : cs = pairsC := by
    have := pairs_cells hd
    cases cs
    simpa using congrArg List.toArray this
  have e1 : cs' = thirdsC := by
    have := thirds_cells hd'
    cases cs'
    simpa using congrArg List.toArray this
  subst e0
  subst e1
  unfold World.var? at hvar hvar'
  rw [g0] at hvar
  rw [g1] at hvar'
  simp only [Option.bind_some] at hvar hvar'
  obtain ⟨⟨cc, tt, hh⟩, _⟩ := hfree 0 0 (by simp [MemPlace.row, pairsC])
  obtain ⟨⟨cc', tt', hh'⟩, _⟩ := hfree 1 0 (by simp [MemPlace.row, thirdsC])
  rw [hh] at hvar
  rw [hh'] at hvar'
  simp only [Option.some.injEq] at hvar hvar'
  subst hvar
  subst hvar'
  exact ⟨⟨tt, hh⟩, ⟨tt', hh'⟩⟩
end Go.Proofs.YtnngemdpoemhgaaDoor

/- A list of few numbers that rises, sorted: it is as it was; condition: at most twelve numbers. -/
namespace Go.Proofs.YtnngemdpoemhgaaDoor
open Go.Shelf Go.RowKit

/-- Numbers that lie there. -/
def Ig (w : World) (a : Option Addr) (e : List Int) : Prop := ∃ b, a = some ⟨b, 0, none⟩ ∧ b < w.heap.size ∧ ∀ i (h : i < e.length), w.cell? ⟨b, i, none⟩ = some (.int .i64 e[i])
theorem Ig.new {w w' : World} {a : Option Addr} {e : List Int} (h : Ig w a e) (t : Touch (fun _ => False) w w') : Ig w' a e := by
  obtain ⟨b, rfl, hb, hc⟩ := h
  refine ⟨b, rfl, Nat.lt_of_lt_of_le hb t.size, fun i hi => ?_⟩
  rw [t.cell (p := ⟨b, i, none⟩) hb id]
  exact hc i hi

set_option maxRecDepth 100000 in
theorem nan_no (x : Int) (w : World) : Calls Tryd.prog 51 #[.int .i64 x] w fun e w' => e = .returned (.bool false) ∧ w' = w := by
  go_enter Tryd.func51, Tryd.ntmps51
  go_wp2
  go_ret
  exact ⟨by simp, rfl⟩
set_option maxRecDepth 100000 in
theorem less_any (x y : Int) (w : World) : Calls Tryd.prog 59 #[.int .i64 x, .int .i64 y] w fun e w' => e = .returned (.bool (decide (x < y))) ∧ w' = w := by
  go_enter Tryd.func59, Tryd.ntmps59
  go_wp2_with fail
  refine (nan_no x w).mono ?_
  rintro e w1 ⟨rfl, rfl⟩
  go_wp2
  go_ret
  exact ⟨rfl, rfl⟩

set_option maxRecDepth 100000 in
set_option maxHeartbeats 4000000 in
theorem ins_up (a : Option Addr) (cap : Nat) (e : List Int) (w : World) (hi : Ig w a e) (hup : ∀ i (h : i + 1 < e.length), e[i] < e[i + 1]) (h1 : 1 ≤ e.length) (hb : e.length ≤ 12) :
    Calls Tryd.prog 53 #[.slice a e.length cap, .int .i64 0, .int .i64 e.length] w fun en w' => en = .returned (.tuple #[]) ∧ Touch (fun _ => False) w w' := by
  have HI := hid hi
  have HUP := hid hup
  clear hi hup
  go_enter Tryd.func53, Tryd.ntmps53
  go_wp2_with fail
  go_loopg [6] e.length (fun gk i wr => ∃ k : Nat, k + gk = e.length + 1 ∧ k ≤ e.length ∧ 1 ≤ k ∧ i = .int .i64 (k : Nat) ∧ Touch (fun _ => False) w wr)
  case atStart => exact ⟨1, by omega, h1, Nat.le_refl _, rfl, Touch.refl _ _⟩
  case round =>
    obtain ⟨k, hk, hke, hk1, rfl, htc⟩ := hrel
    obtain ⟨G, hG⟩ : ∃ G, G = gk := ⟨_, rfl⟩
    have HG := hid hG
    clear hG
    have TC := hid htc
    clear htc
    by_cases hlt : k < e.length
    · obtain ⟨j, rfl⟩ : ∃ j, k = j + 1 := ⟨k - 1, by omega⟩
      go_wp2_with fail
      go_loopg [7] 1 (fun g2 v wq => v = .int .i64 ((j + 1 : Nat) : Int) ∧ Touch (fun _ => False) w wq)
      case atStart => exact ⟨rfl, TC.out⟩
      case round =>
        obtain ⟨rfl, htq⟩ := hrel
        have TQ := hid htq
        obtain ⟨b, ha, hbl, hc⟩ := HI.out.new htq
        subst ha
        have d0 := hc (j + 1) hlt
        have d1 := hc j (by omega)
        have hx := HUP.out j hlt
        obtain ⟨x, hxx⟩ : ∃ x, x = e[j + 1] := ⟨_, rfl⟩
        obtain ⟨y, hyy⟩ : ∃ y, y = e[j] := ⟨_, rfl⟩
        rw [← hxx] at d0 hx
        rw [← hyy] at d1 hx
        have hd : decide (x < y) = false := decide_eq_false (by omega)
        have KL := hid (fun wq => less_any x y wq)
        rw [hd] at KL
        have hjI : ((j + 1 : Nat) : Int) < (e.length : Int) := by omega
        clear hc htq hxx hyy hx
        go_wp2_with fail
        go_quiet ((go_at_call 59; refine Calls.quiet_of_same (KL.out _)))
        go_wp2
        go_roundg (G - 1)
        case measure => have := HG.out; omega
        case rel => exact ⟨j + 2, by have := HG.out; omega, by omega, by omega, by go_num, TQ.out.drewN _⟩
    · obtain rfl : k = e.length := by omega
      go_wp2
      go_end0
      exact ⟨rfl, TC.out⟩

set_option maxRecDepth 100000 in
set_option maxHeartbeats 4000000 in
theorem pdq_up (a : Option Addr) (cap : Nat) (e : List Int) (n : Int) (w : World) (hi : Ig w a e) (hup : ∀ i (h : i + 1 < e.length), e[i] < e[i + 1]) (h1 : 1 ≤ e.length) (hb : e.length ≤ 12) :
    Calls Tryd.prog 45 #[.slice a e.length cap, .int .i64 0, .int .i64 e.length, .int .i64 n] w fun en w' => en = .returned (.tuple #[]) ∧ Touch (fun _ => False) w w' := by
  have K := hid (ins_up a cap e w hi hup h1 hb)
  clear hi hup
  go_enter Tryd.func45, Tryd.ntmps45
  go_wp2_with fail
  go_loopg [1, 2] 1 (fun gk x y wr => gk = 1 ∧ x = .int .i64 0 ∧ y = .int .i64 e.length ∧ w = wr)
  case atStart => exact ⟨rfl, rfl, rfl, rfl⟩
  case round =>
    obtain ⟨_, rfl, rfl, rfl⟩ := hrel
    go_wp2_with fail
    refine K.out.mono ?_
    rintro en w1 ⟨rfl, tc⟩
    have TC := hid tc
    clear tc
    go_wp2
    exact bodyPost_ret (results_none (fn := Tryd.f45) rfl _ Tryd.prog _) rfl ⟨rfl, TC.out⟩

set_option maxRecDepth 100000 in
set_option maxHeartbeats 4000000 in
theorem sort_up (a : Option Addr) (cap : Nat) (e : List Int) (w : World) (hi : Ig w a e) (hup : ∀ i (h : i + 1 < e.length), e[i] < e[i + 1]) (h1 : 1 ≤ e.length) (hb : e.length ≤ 12) :
    Calls Tryd.prog 26 #[.slice a e.length cap] w fun en w' => en = .returned (.tuple #[]) ∧ Touch (fun _ => False) w w' := by
  have hlen := fun wq => Any.bits_Len Tryd.bitsLen2 (e.length : Int) wq (by omega) (by omega)
  change ∀ wq, Calls Tryd.prog 46 _ _ _ at hlen
  have HLN := hid hlen
  have K := hid (fun n => pdq_up a cap e n w hi hup h1 hb)
  clear hi hup hlen
  go_enter Tryd.func26, Tryd.ntmps26
  go_wp2_with fail
  refine (HLN.out _).mono ?_
  rintro en w1 ⟨rfl, rfl⟩
  go_wp2_with fail
  refine (K.out _).mono ?_
  rintro en w2 ⟨rfl, tc⟩
  have TC := hid tc
  clear tc
  go_wp2
  go_end0
  exact ⟨rfl, TC.out⟩
end Go.Proofs.YtnngemdpoemhgaaDoor

/- capitalOf of any number, Orbit of one whose orbit comes up rising, and what the laws ask first; no condition beside those told. -/
namespace Go.Proofs.YtnngemdpoemhgaaDoor
open Go.RowKit

def pairsL : List (Int × Int × Int) := [(65, 90, 32), (192, 214, 32), (216, 222, 32), (913, 929, 32), (931, 937, 32), (1040, 1071, 32), (66560, 66599, 40)]
def thirdsL : List (Int × Int) := [(8490, 75), (383, 83), (8491, 197), (181, 924), (962, 931)]
theorem info47 : (Tryd.prog.info? 47).map (fun i => (i.zero, i.size, i.bytes)) = some (some (.agg #[.int .i64 0, .int .i64 0, .int .i64 0]), 3, 24) := by kernel_rfl
theorem info50 : (Tryd.prog.info? 50).map (fun i => (i.zero, i.size, i.bytes)) = some (some (.agg #[.int .i64 0, .int .i64 0]), 2, 16) := by kernel_rfl
theorem info3 : (Tryd.prog.info? 3).map (fun i => (i.zero, i.size, i.bytes)) = some (some (.int .i64 0), 1, 8) := by kernel_rfl

theorem run_index48 (k : Nat) (x y z : Int) (w : World) (hk : k < 7) (hx : pairsL[k]? = some (x, y, z)) : (Instr.index 48 (.agg pairsC) (.int .i64 (k : Int))).run Tryd.prog w = .ok (.agg #[.int .i64 x, .int .i64 y, .int .i64 z]) w := by
  obtain ⟨i0, h1, hz0, hz1, hz2⟩ := info_parts info47
  rcases (show k = 0 ∨ k = 1 ∨ k = 2 ∨ k = 3 ∨ k = 4 ∨ k = 5 ∨ k = 6 by omega) with rfl | rfl | rfl | rfl | rfl | rfl | rfl <;>
    (simp [pairsL] at hx
     obtain ⟨rfl, rfl, rfl⟩ := hx
     simp [Instr.index, run_underlying Tryd.underlying48, asIntOf, go_sem, part, sizeOf, typeInfo, h1, hz1, pairsC])
theorem run_index51 (k : Nat) (x y : Int) (w : World) (hk : k < 5) (hx : thirdsL[k]? = some (x, y)) : (Instr.index 51 (.agg thirdsC) (.int .i64 (k : Int))).run Tryd.prog w = .ok (.agg #[.int .i64 x, .int .i64 y]) w := by
  obtain ⟨i0, h1, hz0, hz1, hz2⟩ := info_parts info50
  rcases (show k = 0 ∨ k = 1 ∨ k = 2 ∨ k = 3 ∨ k = 4 by omega) with rfl | rfl | rfl | rfl | rfl <;>
    (simp [thirdsL] at hx
     obtain ⟨rfl, rfl⟩ := hx
     simp [Instr.index, run_underlying Tryd.underlying51, asIntOf, go_sem, part, sizeOf, typeInfo, h1, hz1, thirdsC])

/-- The small letter's great one. -/
def isThird (r : Int) (t : Int × Int) : Bool := t.1 == r
def isSmall (r : Int) (p : Int × Int × Int) : Bool := decide (p.1 + p.2.2 ≤ r) && decide (r ≤ p.2.1 + p.2.2)
def capOf (r : Int) : Int :=
  match thirdsL.find? (isThird r) with
  | some t => t.2
  | none => match pairsL.find? (isSmall r) with
    | some p => r - p.2.2
    | none => r
theorem find_more {α : Type} (f : α → Bool) (l : List α) (k : Nat) (h : k < l.length) (h0 : (l.take k).find? f = none) : (l.take (k + 1)).find? f = if f l[k] = true then some l[k] else none := by
  rw [List.take_succ_eq_append_getElem h, List.find?_append, h0]
  simp [List.find?_cons]
  split <;> simp_all
theorem find_there {α : Type} (f : α → Bool) (l : List α) (k : Nat) (x : α) (h : (l.take k).find? f = some x) : l.find? f = some x := by
  rw [← List.take_append_drop k l, List.find?_append, h]
  rfl
theorem three_block (w : World) (x y z : Value) (t : TypeId) : (w.alloc (.cells #[x, y, z] t)).heap[w.heap.size]? = some (.cells #[x, y, z] t (0, 0)) := by
  show (w.heap.push _)[_]? = _
  simp
theorem pairs_small (k : Nat) (x y z : Int) (h : pairsL[k]? = some (x, y, z)) : 0 ≤ x ∧ x ≤ 100000 ∧ 0 ≤ y ∧ y ≤ 100000 ∧ 0 ≤ z ∧ z ≤ 40 := by
  have hk : k < 7 := by
    rcases Nat.lt_or_ge k 7 with q | q
    · exact q
    · rw [List.getElem?_eq_none (by simpa [pairsL] using q)] at h; cases h
  rcases (show k = 0 ∨ k = 1 ∨ k = 2 ∨ k = 3 ∨ k = 4 ∨ k = 5 ∨ k = 6 by omega) with rfl | rfl | rfl | rfl | rfl | rfl | rfl <;>
    (simp [pairsL] at h
     omega)

set_option maxRecDepth 100000 in
set_option maxHeartbeats 4000000 in
theorem capital_any (r : Int) (w : World) (ht : Tabs w) (hr : 0 ≤ r ∧ r ≤ 1114111) :
    Calls Tryd.prog 25 #[.int .i64 r] w fun e w' => e = .returned (.int .i64 (capOf r)) ∧ Touch (fun _ => False) w w' := by
  have HT := hid ht
  obtain ⟨⟨t0, h0⟩, ⟨t1, h1⟩⟩ := ht
  go_enter Tryd.func25, Tryd.ntmps25
  go_wp2_with (first | refine wpList_load_row rfl 51 _ rfl 1 rfl t1 thirdsC (0, 0) _ h1 Tryd.underlying51 rfl (by kernel_rfl) ?_ | fail)
  go_loopg [8] 5 (fun gk i wr => ∃ k : Nat, k + gk = 5 ∧ i = .int .i64 (k : Nat) ∧ (thirdsL.take k).find? (isThird r) = none ∧ Touch (fun _ => False) w wr)
  case atStart => exact ⟨0, rfl, rfl, rfl, Touch.refl _ _⟩
  case round =>
    obtain ⟨k, hk, rfl, hno, htc⟩ := hrel
    have TC := hid htc
    have HNO := hid hno
    clear hno htc
    by_cases hlt : k < 5
    · obtain ⟨⟨x, y⟩, hxy⟩ : ∃ p, thirdsL[k]? = some p := ⟨thirdsL[k]'(by simpa [thirdsL] using hlt), List.getElem?_eq_getElem _⟩
      have hix := run_index51 k x y wr hlt hxy
      have hgk : thirdsL[k]'(by simpa [thirdsL] using hlt) = (x, y) := by
        rw [List.getElem?_eq_getElem (by simpa [thirdsL] using hlt)] at hxy
        exact Option.some.inj hxy
      have HF := hid (find_more (isThird r) thirdsL k (by simpa [thirdsL] using hlt) HNO.out)
      rw [hgk] at HF
      have hkI : (k : Int) < 5 := by omega
      clear hxy hgk
      have TA := hid (TC.out.alloc (.cells #[.int .i64 x, .int .i64 y] 50))
      have B2 := hid (show (wr.alloc (.cells #[.int .i64 x, .int .i64 y] 50)).heap[wr.heap.size]? = some (.cells #[.int .i64 x, .int .i64 y] 50 (0, 0)) from three_new _ _ _)
      by_cases hx : x = r
      · subst hx
        have HC := hid (show capOf x = y by
          unfold capOf
          have h2 := HF.out
          rw [if_pos (by simp [isThird])] at h2
          rw [find_there _ _ _ _ h2])
        go_upto_region 4 with fail
        generalize (wr.alloc (.cells #[.int .i64 x, .int .i64 y] 50)) = wA at *
        have c0 := cell_two0 B2.out
        have c1 := cell_two1 B2.out
        go_wp2
        go_ret
        rw [HC.out]
        exact ⟨rfl, TA.out⟩
      · have HNX := hid (show (thirdsL.take (k + 1)).find? (isThird r) = none by
          have h2 := HF.out
          rw [if_neg (by simp [isThird, hx])] at h2
          exact h2)
        have hxd : (x == r) = false := by simp [hx]
        have hxd2 : decide (x = r) = false := decide_eq_false hx
        go_upto_region 4 with fail
        generalize (wr.alloc (.cells #[.int .i64 x, .int .i64 y] 50)) = wA at *
        have c0 := cell_two0 B2.out
        have c1 := cell_two1 B2.out
        clear hix
        go_wp2
        go_roundg (gk - 1)
        case measure => omega
        case rel => exact ⟨k + 1, by omega, by go_num, HNX.out, TA.out⟩
    · obtain rfl : k = 5 := by omega
      have HT5 := hid (show thirdsL.find? (isThird r) = none from HNO.out)
      clear h0 h1
      obtain ⟨⟨t0, h0⟩, ⟨t1, h1⟩⟩ := HT.out.new TC.out
      clear h1
      go_wp2_with (first | refine wpList_load_row rfl 48 _ rfl 0 rfl t0 pairsC (0, 0) _ h0 Tryd.underlying48 rfl (by kernel_rfl) ?_ | fail)
      go_loopg [19] 7 (fun gk i wr => ∃ k : Nat, k + gk = 7 ∧ i = .int .i64 (k : Nat) ∧ (pairsL.take k).find? (isSmall r) = none ∧ Touch (fun _ => False) w wr)
      case atStart => exact ⟨0, rfl, rfl, rfl, TC.out⟩
      case round =>
        obtain ⟨k, hk, rfl, hno, htc⟩ := hrel
        have TC := hid htc
        have HNO := hid hno
        clear hno htc
        by_cases hlt : k < 7
        · obtain ⟨⟨x, y, z⟩, hxy⟩ : ∃ p, pairsL[k]? = some p := ⟨pairsL[k]'(by simpa [pairsL] using hlt), List.getElem?_eq_getElem _⟩
          have hix := run_index48 k x y z wr hlt hxy
          have hsm := pairs_small k x y z hxy
          have hgk : pairsL[k]'(by simpa [pairsL] using hlt) = (x, y, z) := by
            rw [List.getElem?_eq_getElem (by simpa [pairsL] using hlt)] at hxy
            exact Option.some.inj hxy
          have HF := hid (find_more (isSmall r) pairsL k (by simpa [pairsL] using hlt) HNO.out)
          rw [hgk] at HF
          have hkI : (k : Int) < 7 := by omega
          clear hxy hgk h0
          have TA := hid (TC.out.alloc (.cells #[.int .i64 x, .int .i64 y, .int .i64 z] 47))
          have B2 := hid (three_block wr (.int .i64 x) (.int .i64 y) (.int .i64 z) 47)
          have HS := hid (show isSmall r (x, y, z) = (decide (x + z ≤ r) && decide (r ≤ y + z)) from rfl)
          by_cases hx : x + z ≤ r
          · by_cases hy : r ≤ y + z
            · have HC := hid (show capOf r = r - z by
                unfold capOf
                rw [HT5.out]
                have h2 := HF.out
                rw [if_pos (by rw [HS.out]; simp [hx, hy])] at h2
                rw [find_there _ _ _ _ h2])
              go_upto_region 10 with fail
              generalize (wr.alloc (.cells #[.int .i64 x, .int .i64 y, .int .i64 z] 47)) = wA at *
              have c0 : wA.cell? ⟨wr.heap.size, 0, none⟩ = some (.int .i64 x) := by simp [World.cell?, B2.out]
              have c1 : wA.cell? ⟨wr.heap.size, 1, none⟩ = some (.int .i64 y) := by simp [World.cell?, B2.out]
              have c2 : wA.cell? ⟨wr.heap.size, 2, none⟩ = some (.int .i64 z) := by simp [World.cell?, B2.out]
              clear hix
              go_wp2
              go_ret
              rw [HC.out]
              exact ⟨by first | rfl | (congr 2; go_num), TA.out⟩
            · have HNX := hid (show (pairsL.take (k + 1)).find? (isSmall r) = none by
                have h2 := HF.out
                rw [if_neg (by rw [HS.out]; simp [hy])] at h2
                exact h2)
              go_upto_region 10 with fail
              generalize (wr.alloc (.cells #[.int .i64 x, .int .i64 y, .int .i64 z] 47)) = wA at *
              have c0 : wA.cell? ⟨wr.heap.size, 0, none⟩ = some (.int .i64 x) := by simp [World.cell?, B2.out]
              have c1 : wA.cell? ⟨wr.heap.size, 1, none⟩ = some (.int .i64 y) := by simp [World.cell?, B2.out]
              have c2 : wA.cell? ⟨wr.heap.size, 2, none⟩ = some (.int .i64 z) := by simp [World.cell?, B2.out]
              clear hix
              go_wp2
              go_roundg (gk - 1)
              case measure => omega
              case rel => exact ⟨k + 1, by omega, by go_num, HNX.out, TA.out⟩
          · have HNX := hid (show (pairsL.take (k + 1)).find? (isSmall r) = none by
              have h2 := HF.out
              rw [if_neg (by rw [HS.out]; simp [hx])] at h2
              exact h2)
            go_upto_region 10 with fail
            generalize (wr.alloc (.cells #[.int .i64 x, .int .i64 y, .int .i64 z] 47)) = wA at *
            have c0 : wA.cell? ⟨wr.heap.size, 0, none⟩ = some (.int .i64 x) := by simp [World.cell?, B2.out]
            have c1 : wA.cell? ⟨wr.heap.size, 1, none⟩ = some (.int .i64 y) := by simp [World.cell?, B2.out]
            have c2 : wA.cell? ⟨wr.heap.size, 2, none⟩ = some (.int .i64 z) := by simp [World.cell?, B2.out]
            clear hix
            go_wp2
            go_roundg (gk - 1)
            case measure => omega
            case rel => exact ⟨k + 1, by omega, by go_num, HNX.out, TA.out⟩
        · obtain rfl : k = 7 := by omega
          have HC := hid (show capOf r = r by
            unfold capOf
            rw [HT5.out, show pairsL.find? (isSmall r) = none from HNO.out])
          go_wp2
          go_ret
          rw [HC.out]
          exact ⟨rfl, TC.out⟩
end Go.Proofs.YtnngemdpoemhgaaDoor
