/- Texts of this proof, one behind the other: what each says stands ahead of it. -/
import Derived.Test.YtnngemdpoemhgaaDoorM8
import Derived.Test.YtnngemdpoemhgaaDoorRows
import Derived.OpenShut
import Derived.ChangeArms
import Derived.Test.YtnngemdpoemhgaaDoorM0
/- Class of the names that the laws ask for; no condition. -/
namespace Go.Proofs.YtnngemdpoemhgaaDoor
open Go.RowKit

def lP : List R2 := [(33, 35), (37, 42), (44, 47), (58, 59), (63, 64), (91, 93), (95, 95), (123, 123), (125, 125), (161, 161), (167, 167), (171, 171), (182, 183), (187, 187), (191, 191), (8208, 8231), (8255, 8256), (12289, 12291)]
set_option maxRecDepth 100000 in
theorem signs_any (w : World) : Calls Tryd.prog 48 #[] w fun e w' => ∃ a c, e = .returned (.slice a lP.length c) ∧ Rg w' a lP ∧ Touch (fun _ => False) w w' := by
  go_enter Tryd.func48, Tryd.ntmps48
  go_wp2
  go_ret
  exact ⟨_, _, rfl, rg_alloc w lP 76, (Touch.refl _ w).alloc _⟩
set_option maxRecDepth 100000 in
theorem spans_P (w : World) : Calls Tryd.prog 29 #[.string ⟨#[80]⟩] w fun e w' => ∃ a c, e = .returned (.slice a lP.length c) ∧ Rg w' a lP ∧ Touch (fun _ => False) w w' := by
  go_enter Tryd.func29, Tryd.ntmps29
  go_wp2_with fail
  refine (signs_any w).mono ?_
  rintro e w1 ⟨a, c, rfl, r1, t1⟩
  have R1 := hid r1
  have T1 := hid t1
  clear r1 t1
  go_wp2
  go_ret
  exact ⟨a, c, rfl, R1.out, T1.out⟩

set_option maxRecDepth 100000 in
set_option maxHeartbeats 4000000 in
theorem class_any (s : ByteArray) (l : List R2) (hs : ∀ w : World, Calls Tryd.prog 29 #[.string s] w fun e w' => ∃ a c, e = .returned (.slice a l.length c) ∧ Rg w' a l ∧ Touch (fun _ => False) w w') (h0 : 0 < l.length) (hb : l.length ≤ 1000) (w : World) :
    Calls Tryd.prog 12 #[.string s] w fun e w' => ∃ v n, e = .returned (.tuple #[v, .bool true]) ∧ Canon n ∧ (∀ x, In x n ↔ (0 ≤ x ∧ x ≤ 1114111) ∧ In x l) ∧ OwE w w' 33 v n := by
  have HS := hid hs
  clear hs
  go_enter Tryd.func12, Tryd.ntmps12
  go_wp2_with fail
  refine (HS.out w).mono ?_
  rintro e w1 ⟨a1, c1, rfl, r1, t1⟩
  have LS := hid (ls_one (c := c1) 55 r1)
  have T1 := hid (t1.alloc (.cells #[.slice a1 l.length c1] 55))
  clear r1 t1
  have hI : (0 : Int) < (l.length : Int) := by omega
  go_wp2_with fail
  generalize (w1.alloc (.cells #[.slice a1 l.length c1] 55)) = w2 at *
  refine (setOf_any w1.heap.size 1 [l] w2 LS.out (by simp) (by simp; omega)).mono ?_
  rintro e w3 ⟨v, n, rfl, hcn, hin, ow⟩
  have OW := hid ow
  have HCN := hid hcn
  have HIN := hid hin
  obtain ⟨a, c, hv⟩ := own_shape ow.own
  subst hv
  clear ow hcn hin LS
  go_wp2
  go_ret2
  first
  | exact ⟨_, n, rfl, HCN.out, fun x => by rw [HIN.out x]; simp [List.flatten], ⟨OW.out.own, fun g e => Nat.le_trans T1.out.size (OW.out.new g e), T1.out.trans OW.out.touch (fun _ _ e => e)⟩⟩
  | exact ⟨_, rfl, n, HCN.out, fun x => by rw [HIN.out x]; simp [List.flatten], ⟨OW.out.own, fun g e => Nat.le_trans T1.out.size (OW.out.new g e), T1.out.trans OW.out.touch (fun _ _ e => e)⟩⟩

/-! ### At most one -/
def apartR (a b : R2) : Bool := decide (a.2 < b.1) || decide (b.2 < a.1)
def inR (r : Int) (a : R2) : Bool := decide (a.1 ≤ r) && decide (r ≤ a.2)
theorem one_only (r : Int) : ∀ l : List R2, l.Pairwise (fun a b => apartR a b = true) → l.countP (inR r) ≤ 1
  | [], _ => by simp
  | a :: l, h => by
    have hp := List.pairwise_cons.1 h
    have ih := one_only r l hp.2
    rw [List.countP_cons]
    by_cases ha : inR r a = true
    · have h0 : l.countP (inR r) = 0 := by
        rw [List.countP_eq_zero]
        intro b hb hbr
        have := hp.1 b hb
        simp only [apartR, inR, Bool.or_eq_true, Bool.and_eq_true, decide_eq_true_eq] at this ha hbr
        omega
      rw [h0, if_pos ha]
      omega
    · rw [if_neg ha]
      omega
theorem has_count (r : Int) (l : List R2) : (if hasB r l = true then 1 else 0) ≤ l.countP (inR r) := by
  by_cases h : hasB r l = true
  · rw [if_pos h]
    obtain ⟨q, hq, h1, h2⟩ := hasB_iff.1 h
    exact List.countP_pos_iff.2 ⟨q, hq, by simp [inR, h1, h2]⟩
  · rw [if_neg h]
    omega
def kindsL : List (List R2) := [lLu, lLl, lLo, lNd, lZs, lP]
def cn (r : Int) (k : Nat) : Nat := (kindsL.take k).countP (fun l => hasB r l)
theorem count_all (r : Int) : ∀ ks : List (List R2), ks.countP (fun l => hasB r l) ≤ ks.flatten.countP (inR r)
  | [] => by simp
  | l :: ks => by
    have ih := count_all r ks
    have h := has_count r l
    rw [List.countP_cons, List.flatten_cons, List.countP_append]
    omega
set_option maxRecDepth 1000000 in
theorem kinds_apart : kindsL.flatten.Pairwise (fun a b => apartR a b = true) := by decide
theorem cn_last (r : Int) : cn r 6 ≤ 1 := Nat.le_trans (count_all r kindsL) (one_only r _ kinds_apart)
theorem cn_step (r : Int) (k : Nat) (h : k < 6) (l : List R2) (hl : kindsL[k]? = some l) : cn r (k + 1) = cn r k + (if hasB r l = true then 1 else 0) := by
  have hk : k < kindsL.length := h
  rw [List.getElem?_eq_getElem hk] at hl
  unfold cn
  rw [List.take_succ_eq_append_getElem hk, List.countP_append, Option.some.inj hl, List.countP_singleton]
def withinB (l : List R2) : Bool := l.all fun a => decide (0 ≤ a.1) && decide (a.2 ≤ 1114111)
theorem has_set {s l : List R2} (h : ∀ x, In x s ↔ (0 ≤ x ∧ x ≤ 1114111) ∧ In x l) (hw : withinB l = true) (r : Int) : hasB r s = hasB r l := by
  rw [Bool.eq_iff_iff, hasB_iff, hasB_iff, h]
  refine ⟨fun q => q.2, fun q => ⟨?_, q⟩⟩
  obtain ⟨a, ha, h1, h2⟩ := q
  have := List.all_eq_true.1 hw a ha
  simp only [Bool.and_eq_true, decide_eq_true_eq] at this
  omega
def apartL (l m : List R2) : Bool := l.all fun a => m.all fun b => apartR a b
theorem apart_in {l m : List R2} (h : apartL l m = true) {x : Int} (h1 : In x l) (h2 : In x m) : False := by
  obtain ⟨a, ha, p1, p2⟩ := h1
  obtain ⟨b, hb, q1, q2⟩ := h2
  have := List.all_eq_true.1 (List.all_eq_true.1 h a ha) b hb
  simp only [apartR, Bool.or_eq_true, decide_eq_true_eq] at this
  omega
set_option maxRecDepth 1000000 in
theorem w_apart : apartL lW lBl = true := by decide

end Go.Proofs.YtnngemdpoemhgaaDoor

/- The two tables of orbits, as the row's list gives them: their cells; no condition. -/
namespace Go.Proofs.YtnngemdpoemhgaaDoor
open Go.RowKit

def pairsC : Array Value := #[.int .i64 65, .int .i64 90, .int .i64 32, .int .i64 192, .int .i64 214, .int .i64 32, .int .i64 216, .int .i64 222, .int .i64 32, .int .i64 913, .int .i64 929, .int .i64 32, .int .i64 931, .int .i64 937, .int .i64 32, .int .i64 1040, .int .i64 1071, .int .i64 32, .int .i64 66560, .int .i64 66599, .int .i64 40]
def thirdsC : Array Value := #[.int .i64 8490, .int .i64 75, .int .i64 383, .int .i64 83, .int .i64 8491, .int .i64 197, .int .i64 181, .int .i64 924, .int .i64 962, .int .i64 931]

/-- Both tables lie where they lie. -/
structure Tabs (w : World) : Prop where
  pairs : ∃ t, w.heap[0]? = some (.cells pairsC t (0, 0))
  thirds : ∃ t, w.heap[1]? = some (.cells thirdsC t (0, 0))
theorem Tabs.new {w w' : World} (h : Tabs w) (t : Touch (fun _ => False) w w') : Tabs w' := by
  obtain ⟨⟨t0, h0⟩, ⟨t1, h1⟩⟩ := h
  exact ⟨⟨t0, (t.block 0 (lt_of_block h0) id).trans h0⟩, ⟨t1, (t.block 1 (lt_of_block h1) id).trans h1⟩⟩

theorem g0 : Tryd.prog.globalNamed "ferret/ucd.allPairs" = some 0 := by kernel_rfl
theorem g1 : Tryd.prog.globalNamed "ferret/ucd.thirds" = some 1 := by kernel_rfl
theorem y0 : (Tryd.prog.globals[0]?).map (·.type) = some 48 := by kernel_rfl
theorem y1 : (Tryd.prog.globals[1]?).map (·.type) = some 51 := by kernel_rfl
theorem c3 : Tryd.prog.cellsOf 3 = 1 := by kernel_rfl
theorem c47 : Tryd.prog.cellsOf 47 = 3 := by kernel_rfl
theorem c50 : Tryd.prog.cellsOf 50 = 2 := by kernel_rfl
theorem c48 : Tryd.prog.cellsOf 48 = 21 := by kernel_rfl
theorem c51 : Tryd.prog.cellsOf 51 = 10 := by kernel_rfl

theorem at_take {cs : List Value} {k : Nat} {v : Value} (h : (cs.drop k).take 1 = [v]) : cs[k]? = some v := by
  have := congrArg (·[0]?) h
  simpa [List.getElem?_take, List.getElem?_drop] using this
theorem three_list {cs : List Value} {x y z : Value} (hl : cs.length = 3) (q0 : cs[0]? = some x) (q1 : cs[1]? = some y) (q2 : cs[2]? = some z) : cs = [x, y, z] := by
  match cs, hl, q0, q1, q2 with
  | [a, b, c], _, q0, q1, q2 =>
    simp at q0 q1 q2
    subst q0 q1 q2
    rfl
theorem two_list {cs : List Value} {x y : Value} (hl : cs.length = 2) (q0 : cs[0]? = some x) (q1 : cs[1]? = some y) : cs = [x, y] := by
  match cs, hl, q0, q1 with
  | [a, b], _, q0, q1 =>
    simp at q0 q1
    subst q0 q1
    rfl
section
variable {H : Type} {enc : TypeId × Value → H} {w : World} {base : Nat} {sp : Nat → Bool} {held : Bool}
theorem row3 {fuel : Nat} {cs : List Value} {x y z : Int} {p : List MemPlace} (h : DataW.trod enc Tryd.prog w base sp held fuel 47 cs = some (.agg [.lit (.int .i64 x), .lit (.int .i64 y), .lit (.int .i64 z)], p)) : cs = [.int .i64 x, .int .i64 y, .int .i64 z] := by
  obtain ⟨xs, n, rfl, hx, hl, hxl, hall⟩ := DataW.trod_struct Tryd.underlying47 h
  rw [c47] at hl
  have hx3 : xs.map (·.1) = [.lit (.int .i64 x), .lit (.int .i64 y), .lit (.int .i64 z)] := by
    have := congrArg Prod.fst hx
    simpa using this.symm
  obtain ⟨x0, x1, x2, rfl⟩ : ∃ x0 x1 x2, xs = [x0, x1, x2] := by
    match xs, hx3 with
    | [x0, x1, x2], _ => exact ⟨x0, x1, x2, rfl⟩
  simp only [List.map_cons, List.map_nil, List.cons.injEq, and_true] at hx3
  obtain ⟨e0, e1, e2⟩ := hx3
  have f0 := hall 0 _ rfl
  have f1 := hall 1 _ rfl
  have f2 := hall 2 _ rfl
  change DataW.trod _ _ _ _ _ _ _ 3 ((cs.drop 0).take (Tryd.prog.cellsOf 3)) = some x0 at f0
  change DataW.trod _ _ _ _ _ _ _ 3 ((cs.drop 1).take (Tryd.prog.cellsOf 3)) = some x1 at f1
  change DataW.trod _ _ _ _ _ _ _ 3 ((cs.drop 2).take (Tryd.prog.cellsOf 3)) = some x2 at f2
  rw [c3] at f0 f1 f2
  have q0 : cs[0]? = some (.int .i64 x) := by
    obtain ⟨z, hz, hx', _⟩ := DataW.trod_int Tryd.underlying3 f0
    rw [hx'] at e0
    cases e0
    exact at_take hz
  have q1 : cs[1]? = some (.int .i64 y) := by
    obtain ⟨z, hz, hx', _⟩ := DataW.trod_int Tryd.underlying3 f1
    rw [hx'] at e1
    cases e1
    exact at_take hz
  have q2 : cs[2]? = some (.int .i64 z) := by
    obtain ⟨z, hz, hx', _⟩ := DataW.trod_int Tryd.underlying3 f2
    rw [hx'] at e2
    cases e2
    exact at_take hz
  exact three_list hl q0 q1 q2
theorem row2 {fuel : Nat} {cs : List Value} {x y : Int} {p : List MemPlace} (h : DataW.trod enc Tryd.prog w base sp held fuel 50 cs = some (.agg [.lit (.int .i64 x), .lit (.int .i64 y)], p)) : cs = [.int .i64 x, .int .i64 y] := by
  obtain ⟨xs, n, rfl, hx, hl, hxl, hall⟩ := DataW.trod_struct Tryd.underlying50 h
  rw [c50] at hl
  have hx3 : xs.map (·.1) = [.lit (.int .i64 x), .lit (.int .i64 y)] := by
    have := congrArg Prod.fst hx
    simpa using this.symm
  obtain ⟨x0, x1, rfl⟩ : ∃ x0 x1, xs = [x0, x1] := by
    match xs, hx3 with
    | [x0, x1], _ => exact ⟨x0, x1, rfl⟩
  simp only [List.map_cons, List.map_nil, List.cons.injEq, and_true] at hx3
  obtain ⟨e0, e1⟩ := hx3
  have f0 := hall 0 _ rfl
  have f1 := hall 1 _ rfl
  change DataW.trod _ _ _ _ _ _ _ 3 ((cs.drop 0).take (Tryd.prog.cellsOf 3)) = some x0 at f0
  change DataW.trod _ _ _ _ _ _ _ 3 ((cs.drop 1).take (Tryd.prog.cellsOf 3)) = some x1 at f1
  rw [c3] at f0 f1
  have q0 : cs[0]? = some (.int .i64 x) := by
    obtain ⟨z, hz, hx', _⟩ := DataW.trod_int Tryd.underlying3 f0
    rw [hx'] at e0
    cases e0
    exact at_take hz
  have q1 : cs[1]? = some (.int .i64 y) := by
    obtain ⟨z, hz, hx', _⟩ := DataW.trod_int Tryd.underlying3 f1
    rw [hx'] at e1
    cases e1
    exact at_take hz
  exact two_list hl q0 q1

/-- The list that the array is, out of its pieces. -/
theorem pieces {cs : List Value} {m : Nat} : ∀ (rows : List (List Value)) (k : Nat), (∀ i (h : i < rows.length), (cs.drop ((k + i) * m)).take m = rows[i]) → (∀ r ∈ rows, r.length = m) → (cs.drop (k * m)).take (rows.length * m) = rows.flatten
  | [], k, _, _ => by simp
  | r :: rows, k, h, hl => by
    have h0 := h 0 (by simp)
    have ih := pieces (cs := cs) (m := m) rows (k + 1) (fun i hi => by
      have := h (i + 1) (by simpa using hi)
      rw [show k + (i + 1) = k + 1 + i by omega] at this
      simpa using this) (fun q hq => hl q (by simp [hq]))
    simp only [Nat.add_zero, List.getElem_cons_zero] at h0
    rw [List.length_cons, Nat.add_mul, Nat.one_mul, Nat.add_comm, List.take_add, h0, List.drop_drop, List.flatten_cons]
    rw [show k * m + m = (k + 1) * m by rw [Nat.add_mul, Nat.one_mul], ih]
theorem whole {cs : List Value} {m : Nat} {rows : List (List Value)} (h : ∀ i (h : i < rows.length), (cs.drop (i * m)).take m = rows[i]) (hl : ∀ r ∈ rows, r.length = m) (hc : cs.length = rows.length * m) : cs = rows.flatten := by
  have := pieces rows 0 (fun i hi => by rw [Nat.zero_add]; exact h i hi) hl
  rw [Nat.zero_mul, List.drop_zero, List.take_of_length_le (by omega)] at this
  exact this

set_option maxRecDepth 100000 in
theorem pairs_cells {fuel : Nat} {cs : List Value} {p : List MemPlace} (h : DataW.trod enc Tryd.prog w base sp held fuel 48 cs = some (Rows.laid_ferret_ucd_allPairs, p)) : cs = pairsC.toList := by
  obtain ⟨xs, m, rfl, hx, hl, hxl, hall⟩ := DataW.trod_array Tryd.underlying48 h
  rw [c48] at hl
  have hx3 : xs.map (·.1) = [.agg [.lit (.int .i64 65), .lit (.int .i64 90), .lit (.int .i64 32)], .agg [.lit (.int .i64 192), .lit (.int .i64 214), .lit (.int .i64 32)], .agg [.lit (.int .i64 216), .lit (.int .i64 222), .lit (.int .i64 32)], .agg [.lit (.int .i64 913), .lit (.int .i64 929), .lit (.int .i64 32)], .agg [.lit (.int .i64 931), .lit (.int .i64 937), .lit (.int .i64 32)], .agg [.lit (.int .i64 1040), .lit (.int .i64 1071), .lit (.int .i64 32)], .agg [.lit (.int .i64 66560), .lit (.int .i64 66599), .lit (.int .i64 40)]] := by
    have := congrArg Prod.fst hx
    exact (DataW.agg.inj this).symm
  have row : ∀ i (hi : i < 7) (x y z : Int), (xs.map (·.1))[i]? = some (.agg [.lit (.int .i64 x), .lit (.int .i64 y), .lit (.int .i64 z)]) → (cs.drop (i * 3)).take 3 = [.int .i64 x, .int .i64 y, .int .i64 z] := by
    intro i hi x y z hd
    have h1 := hall i hi
    rw [c47] at h1
    rw [List.getElem?_map] at hd
    obtain ⟨⟨d, q⟩, hq, rfl⟩ := Option.map_eq_some_iff.1 hd
    rw [hq] at h1
    exact row3 h1
  rw [hx3] at row
  have := whole (cs := cs) (m := 3) (rows := [[.int .i64 65, .int .i64 90, .int .i64 32], [.int .i64 192, .int .i64 214, .int .i64 32], [.int .i64 216, .int .i64 222, .int .i64 32], [.int .i64 913, .int .i64 929, .int .i64 32], [.int .i64 931, .int .i64 937, .int .i64 32], [.int .i64 1040, .int .i64 1071, .int .i64 32], [.int .i64 66560, .int .i64 66599, .int .i64 40]]) (fun i hi => by
    simp only [List.length_cons, List.length_nil] at hi
    match i, hi with
    | 0, hi => exact row 0 hi _ _ _ rfl
    | 1, hi => exact row 1 hi _ _ _ rfl
    | 2, hi => exact row 2 hi _ _ _ rfl
    | 3, hi => exact row 3 hi _ _ _ rfl
    | 4, hi => exact row 4 hi _ _ _ rfl
    | 5, hi => exact row 5 hi _ _ _ rfl
    | 6, hi => exact row 6 hi _ _ _ rfl) (by simp) (by simp [hl])
  exact this
set_option maxRecDepth 100000 in
theorem thirds_cells {fuel : Nat} {cs : List Value} {p : List MemPlace} (h : DataW.trod enc Tryd.prog w base sp held fuel 51 cs = some (Rows.laid_ferret_ucd_thirds, p)) : cs = thirdsC.toList := by
  obtain ⟨xs, m, rfl, hx, hl, hxl, hall⟩ := DataW.trod_array Tryd.underlying51 h
  rw [c51] at hl
  have hx3 : xs.map (·.1) = [.agg [.lit (.int .i64 8490), .lit (.int .i64 75)], .agg [.lit (.int .i64 383), .lit (.int .i64 83)], .agg [.lit (.int .i64 8491), .lit (.int .i64 197)], .agg [.lit (.int .i64 181), .lit (.int .i64 924)], .agg [.lit (.int .i64 962), .lit (.int .i64 931)]] := by
    have := congrArg Prod.fst hx
    exact (DataW.agg.inj this).symm
  have row : ∀ i (hi : i < 5) (x y : Int), (xs.map (·.1))[i]? = some (.agg [.lit (.int .i64 x), .lit (.int .i64 y)]) → (cs.drop (i * 2)).take 2 = [.int .i64 x, .int .i64 y] := by
    intro i hi x y hd
    have h1 := hall i hi
    rw [c50] at h1
    rw [List.getElem?_map] at hd
    obtain ⟨⟨d, q⟩, hq, rfl⟩ := Option.map_eq_some_iff.1 hd
    rw [hq] at h1
    exact row2 h1
  rw [hx3] at row
  have := whole (cs := cs) (m := 2) (rows := [[.int .i64 8490, .int .i64 75], [.int .i64 383, .int .i64 83], [.int .i64 8491, .int .i64 197], [.int .i64 181, .int .i64 924], [.int .i64 962, .int .i64 931]]) (fun i hi => by
    simp only [List.length_cons, List.length_nil] at hi
    match i, hi with
    | 0, hi => exact row 0 hi _ _ rfl
    | 1, hi => exact row 1 hi _ _ rfl
    | 2, hi => exact row 2 hi _ _ rfl
    | 3, hi => exact row 3 hi _ _ rfl
    | 4, hi => exact row 4 hi _ _ rfl) (by simp) (by simp [hl])
  exact this
end

set_option maxRecDepth 100000 in
theorem tabs_of {W : World} (h : laidMet Tryd.prog [("ferret/ucd.allPairs", Rows.laid_ferret_ucd_allPairs), ("ferret/ucd.thirds", Rows.laid_ferret_ucd_thirds)] W) : Tabs W := by
  obtain ⟨ps, ⟨g, t, cs, fuel, p, q, hg, ht, hvar, hd, ⟨g', t', cs', fuel', p', q', hg', ht', hvar', hd', _, rfl⟩, rfl⟩, _, hfree⟩ := h
  obtain rfl := Option.some.inj (g0.symm.trans hg)
  obtain rfl := Option.some.inj (y0.symm.trans ht)
  obtain rfl := Option.some.inj (g1.symm.trans hg')
  obtain rfl := Option.some.inj (y1.symm.trans ht')
  have e0 : cs = pairsC := by
    have := pairs_cells hd
    cases cs
    simpa using congrArg List.toArray this
  have e1 : cs' = thirdsC := by
    have := thirds_cells hd'
    cases cs'
    simpa using congrArg List.toArray this
  subst e0
  subst e1
  unfold World.var? at hvar hvar'
  rw [g0] at hvar
  rw [g1] at hvar'
  simp only [Option.bind_some] at hvar hvar'
  obtain ⟨⟨cc, tt, hh⟩, _⟩ := hfree 0 0 (by simp [MemPlace.row, pairsC])
  obtain ⟨⟨cc', tt', hh'⟩, _⟩ := hfree 1 0 (by simp [MemPlace.row, thirdsC])
  rw [hh] at hvar
  rw [hh'] at hvar'
  simp only [Option.some.injEq] at hvar hvar'
  subst hvar
  subst hvar'
  exact ⟨⟨tt, hh⟩, ⟨tt', hh'⟩⟩
end Go.Proofs.YtnngemdpoemhgaaDoor
