/- Texts of this proof, one behind the other: what each says stands ahead of it. -/
import Derived.Test.YtnngemdpoemhgaaDoorM3
import Derived.Test.YtnngemdpoemhgaaDoorM4
import Derived.Test.YtnngemdpoemhgaaDoorRows
import Derived.OpenShut
import Derived.ChangeArms
import Derived.Test.YtnngemdpoemhgaaDoorM0
import Derived.Test.YtnngemdpoemhgaaDoorM1
import Derived.Shelf.Small.Bits
/- Perl of the six letters: what it answers; no condition. -/
namespace Go.Proofs.YtnngemdpoemhgaaDoor
open Go.RowKit

theorem ls_one {w : World} {a : Option Addr} {c : Nat} {l : List R2} (t : TypeId) (h : Rg w a l) : Ls (w.alloc (.cells #[.slice a l.length c] t)) w.heap.size [l] := by
  refine ⟨by simp, fun i hi => ?_⟩
  obtain rfl : i = 0 := by simpa using hi
  refine ⟨a, c, ?_, h.new ((Touch.refl _ w).alloc _)⟩
  rw [World.cell?_alloc_at _ _ _ _ (by simp)]
  rfl
theorem ls_three {w : World} {a1 a2 a3 : Option Addr} {c1 c2 c3 : Nat} {l m n : List R2} (t : TypeId) (h1 : Rg w a1 l) (h2 : Rg w a2 m) (h3 : Rg w a3 n) : Ls (w.alloc (.cells #[.slice a1 l.length c1, .slice a2 m.length c2, .slice a3 n.length c3] t)) w.heap.size [l, m, n] := by
  refine ⟨by simp, fun i hi => ?_⟩
  simp only [List.length_cons, List.length_nil] at hi
  have T := (Touch.refl (fun _ => False) w).alloc (.cells #[.slice a1 l.length c1, .slice a2 m.length c2, .slice a3 n.length c3] t)
  match i, hi with
  | 0, _ => exact ⟨a1, c1, by rw [World.cell?_alloc_at _ _ _ _ (by simp)]; rfl, h1.new T⟩
  | 1, _ => exact ⟨a2, c2, by rw [World.cell?_alloc_at _ _ _ _ (by simp)]; rfl, h2.new T⟩
  | 2, _ => exact ⟨a3, c3, by rw [World.cell?_alloc_at _ _ _ _ (by simp)]; rfl, h3.new T⟩

def lL : List R2 := lLu ++ lLl ++ lLo
set_option maxRecDepth 100000 in
set_option maxHeartbeats 4000000 in
theorem spans_L (w : World) : Calls Tryd.prog 29 #[.string ⟨#[76]⟩] w fun e w' => ∃ a c, e = .returned (.slice a lL.length c) ∧ Rg w' a lL ∧ Touch (fun _ => False) w w' := by
  go_enter Tryd.func29, Tryd.ntmps29
  go_wp2_with fail
  refine (spans_Lu w).mono ?_
  rintro e w1 ⟨a1, c1, rfl, r1, t1⟩
  have R1 := hid r1
  have T1 := hid t1
  clear r1 t1
  go_wp2_with fail
  refine (spans_Ll w1).mono ?_
  rintro e w2 ⟨a2, c2, rfl, r2, t2⟩
  have R2 := hid r2
  replace R1 := hid (R1.out.new t2)
  replace T1 := hid (T1.out.trans t2 (fun _ _ e => e))
  clear r2 t2
  go_wp2_with fail
  refine (spans_Lo w2).mono ?_
  rintro e w3 ⟨a3, c3, rfl, r3, t3⟩
  replace R1 := hid (R1.out.new t3)
  replace R2 := hid (R2.out.new t3)
  replace T1 := hid (T1.out.trans t3 (fun _ _ e => e))
  have LS := hid (ls_three (c1 := c1) (c2 := c2) (c3 := c3) 55 R1.out R2.out r3)
  replace T1 := hid (T1.out.alloc (.cells #[.slice a1 lLu.length c1, .slice a2 lLl.length c2, .slice a3 lLo.length c3] 55))
  clear r3 t3 R1 R2
  go_wp2_with fail
  generalize (w3.alloc (.cells #[.slice a1 lLu.length c1, .slice a2 lLl.length c2, .slice a3 lLo.length c3] 55)) = w4 at *
  refine (concatS_any w3.heap.size 3 [lLu, lLl, lLo] w4 LS.out (by decide) (by decide)).mono ?_
  rintro e w5 ⟨v, rfl, ow⟩
  obtain ⟨a, c, hv, hrg⟩ := ow.rg
  subst hv
  replace T1 := hid (T1.out.trans ow.touch (fun _ _ e => e))
  have RG := hid hrg
  clear ow hrg LS
  go_wp2
  go_ret
  exact ⟨a, c, rfl, RG.out, T1.out⟩

/-- What Perl answers: a set of some numbers. -/
def Perls (c : Nat) (l : List R2) (neg : Bool) : Prop := ∀ w : World, Calls Tryd.prog 17 #[.int .u8 c] w fun e w' => ∃ v s, e = .returned (.tuple #[v, .bool true]) ∧ Canon s ∧ (∀ x, In x s ↔ (0 ≤ x ∧ x ≤ 1114111) ∧ (if neg then ¬ In x l else In x l)) ∧ OwE w w' 33 v s

set_option maxRecDepth 100000 in
set_option maxHeartbeats 4000000 in
theorem perl_d : Perls 100 lNd false := by
  intro w
  go_enter Tryd.func17, Tryd.ntmps17
  go_wp2_with fail
  refine (spans_Nd w).mono ?_
  rintro e w1 ⟨a1, c1, rfl, r1, t1⟩
  have LS := hid (ls_one (c := c1) 55 r1)
  have T1 := hid (t1.alloc (.cells #[.slice a1 lNd.length c1] 55))
  clear r1 t1
  go_wp2_with fail
  generalize (w1.alloc (.cells #[.slice a1 lNd.length c1] 55)) = w2 at *
  refine (setOf_any w1.heap.size 1 [lNd] w2 LS.out (by decide) (by decide)).mono ?_
  rintro e w3 ⟨v, s, rfl, hcn, hin, ow⟩
  have OW := hid ow
  have HCN := hid hcn
  have HIN := hid hin
  obtain ⟨a, c, hv⟩ := own_shape ow.own
  subst hv
  clear ow hcn hin LS
  go_wp2
  go_ret2
  exact ⟨_, rfl, s, HCN.out, fun x => by rw [HIN.out x]; simp [List.flatten], ⟨OW.out.own, fun g e => Nat.le_trans T1.out.size (OW.out.new g e), T1.out.trans OW.out.touch (fun _ _ e => e)⟩⟩

set_option maxRecDepth 100000 in
set_option maxHeartbeats 4000000 in
theorem perl_s : Perls 115 lBl false := by
  intro w
  go_enter Tryd.func17, Tryd.ntmps17
  go_wp2_with fail
  refine (blanks_any w).mono ?_
  rintro e w1 ⟨a1, c1, rfl, r1, t1⟩
  have LS := hid (ls_one (c := c1) 55 r1)
  have T1 := hid (t1.alloc (.cells #[.slice a1 lBl.length c1] 55))
  clear r1 t1
  go_wp2_with fail
  generalize (w1.alloc (.cells #[.slice a1 lBl.length c1] 55)) = w2 at *
  refine (setOf_any w1.heap.size 1 [lBl] w2 LS.out (by decide) (by decide)).mono ?_
  rintro e w3 ⟨v, s, rfl, hcn, hin, ow⟩
  have OW := hid ow
  have HCN := hid hcn
  have HIN := hid hin
  obtain ⟨a, c, hv⟩ := own_shape ow.own
  subst hv
  clear ow hcn hin LS
  go_wp2
  go_ret2
  exact ⟨_, rfl, s, HCN.out, fun x => by rw [HIN.out x]; simp [List.flatten], ⟨OW.out.own, fun g e => Nat.le_trans T1.out.size (OW.out.new g e), T1.out.trans OW.out.touch (fun _ _ e => e)⟩⟩

def lW : List R2 := lL ++ lNd ++ lPc
set_option maxRecDepth 100000 in
set_option maxHeartbeats 4000000 in
theorem perl_w : Perls 119 lW false := by
  intro w
  go_enter Tryd.func17, Tryd.ntmps17
  go_wp2_with fail
  refine (spans_L w).mono ?_
  rintro e w1 ⟨a1, c1, rfl, r1, t1⟩
  have R1 := hid r1
  have T1 := hid t1
  clear r1 t1
  go_wp2_with fail
  refine (spans_Nd w1).mono ?_
  rintro e w2 ⟨a2, c2, rfl, r2, t2⟩
  have R2 := hid r2
  replace R1 := hid (R1.out.new t2)
  replace T1 := hid (T1.out.trans t2 (fun _ _ e => e))
  clear r2 t2
  go_wp2_with fail
  refine (spans_Pc w2).mono ?_
  rintro e w3 ⟨a3, c3, rfl, r3, t3⟩
  replace R1 := hid (R1.out.new t3)
  replace R2 := hid (R2.out.new t3)
  replace T1 := hid (T1.out.trans t3 (fun _ _ e => e))
  have LS := hid (ls_three (c1 := c1) (c2 := c2) (c3 := c3) 55 R1.out R2.out r3)
  replace T1 := hid (T1.out.alloc (.cells #[.slice a1 lL.length c1, .slice a2 lNd.length c2, .slice a3 lPc.length c3] 55))
  clear r3 t3 R1 R2
  go_wp2_with fail
  generalize (w3.alloc (.cells #[.slice a1 lL.length c1, .slice a2 lNd.length c2, .slice a3 lPc.length c3] 55)) = w4 at *
  refine (setOf_any w3.heap.size 3 [lL, lNd, lPc] w4 LS.out (by decide) (by decide)).mono ?_
  rintro e w5 ⟨v, s, rfl, hcn, hin, ow⟩
  have OW := hid ow
  have HCN := hid hcn
  have HIN := hid hin
  obtain ⟨a, c, hv⟩ := own_shape ow.own
  subst hv
  clear ow hcn hin LS
  go_wp2
  go_ret2
  exact ⟨_, rfl, s, HCN.out, fun x => by rw [HIN.out x]; simp [List.flatten, lW], ⟨OW.out.own, fun g e => Nat.le_trans T1.out.size (OW.out.new g e), T1.out.trans OW.out.touch (fun _ _ e => e)⟩⟩

set_option maxRecDepth 100000 in
set_option maxHeartbeats 4000000 in
theorem perl_D : Perls 68 lNd true := by
  intro w
  have K := hid (perl_d w)
  go_enter Tryd.func17, Tryd.ntmps17
  go_wp2_with fail
  refine K.out.mono ?_
  rintro e w1 ⟨v, s, rfl, hcn, hin, ow⟩
  obtain ⟨a, c, hv, hrg⟩ := ow.rg
  subst hv
  have T1 := hid ow.touch
  have HIN := hid hin
  have KN := hid (not_says a c s w1 hrg hcn)
  clear ow hcn hin hrg K
  go_wp2_with fail
  refine KN.out.mono ?_
  rintro e w2 ⟨v, n, rfl, hcn, hin, ow⟩
  have OW := hid ow
  have HCN := hid hcn
  have HI2 := hid hin
  obtain ⟨a', c', hv⟩ := own_shape ow.own
  subst hv
  clear ow hcn hin KN
  go_wp2
  go_ret2
  refine ⟨_, rfl, n, HCN.out, fun x => ?_, ⟨OW.out.own, fun g e => Nat.le_trans T1.out.size (OW.out.new g e), T1.out.trans OW.out.touch (fun _ _ e => e)⟩⟩
  rw [HI2.out x, HIN.out x]
  simp only [Bool.false_eq_true, if_false]
  constructor
  · exact fun h => ⟨h.1, fun k => h.2 ⟨h.1, k⟩⟩
  · exact fun h => ⟨h.1, fun k => h.2 k.2⟩

set_option maxRecDepth 100000 in
set_option maxHeartbeats 4000000 in
theorem perl_S : Perls 83 lBl true := by
  intro w
  have K := hid (perl_s w)
  go_enter Tryd.func17, Tryd.ntmps17
  go_wp2_with fail
  refine K.out.mono ?_
  rintro e w1 ⟨v, s, rfl, hcn, hin, ow⟩
  obtain ⟨a, c, hv, hrg⟩ := ow.rg
  subst hv
  have T1 := hid ow.touch
  have HIN := hid hin
  have KN := hid (not_says a c s w1 hrg hcn)
  clear ow hcn hin hrg K
  go_wp2_with fail
  refine KN.out.mono ?_
  rintro e w2 ⟨v, n, rfl, hcn, hin, ow⟩
  have OW := hid ow
  have HCN := hid hcn
  have HI2 := hid hin
  obtain ⟨a', c', hv⟩ := own_shape ow.own
  subst hv
  clear ow hcn hin KN
  go_wp2
  go_ret2
  refine ⟨_, rfl, n, HCN.out, fun x => ?_, ⟨OW.out.own, fun g e => Nat.le_trans T1.out.size (OW.out.new g e), T1.out.trans OW.out.touch (fun _ _ e => e)⟩⟩
  rw [HI2.out x, HIN.out x]
  simp only [Bool.false_eq_true, if_false]
  constructor
  · exact fun h => ⟨h.1, fun k => h.2 ⟨h.1, k⟩⟩
  · exact fun h => ⟨h.1, fun k => h.2 k.2⟩

set_option maxRecDepth 100000 in
set_option maxHeartbeats 4000000 in
theorem perl_W : Perls 87 lW true := by
  intro w
  have K := hid (perl_w w)
  go_enter Tryd.func17, Tryd.ntmps17
  go_wp2_with fail
  refine K.out.mono ?_
  rintro e w1 ⟨v, s, rfl, hcn, hin, ow⟩
  obtain ⟨a, c, hv, hrg⟩ := ow.rg
  subst hv
  have T1 := hid ow.touch
  have HIN := hid hin
  have KN := hid (not_says a c s w1 hrg hcn)
  clear ow hcn hin hrg K
  go_wp2_with fail
  refine KN.out.mono ?_
  rintro e w2 ⟨v, n, rfl, hcn, hin, ow⟩
  have OW := hid ow
  have HCN := hid hcn
  have HI2 := hid hin
  obtain ⟨a', c', hv⟩ := own_shape ow.own
  subst hv
  clear ow hcn hin KN
  go_wp2
  go_ret2
  refine ⟨_, rfl, n, HCN.out, fun x => ?_, ⟨OW.out.own, fun g e => Nat.le_trans T1.out.size (OW.out.new g e), T1.out.trans OW.out.touch (fun _ _ e => e)⟩⟩
  rw [HI2.out x, HIN.out x]
  simp only [Bool.false_eq_true, if_false]
  constructor
  · exact fun h => ⟨h.1, fun k => h.2 ⟨h.1, k⟩⟩
  · exact fun h => ⟨h.1, fun k => h.2 k.2⟩

end Go.Proofs.YtnngemdpoemhgaaDoor

/- The two tables of orbits, as the row's list gives them: their cells; no condition. -/
namespace Go.Proofs.YtnngemdpoemhgaaDoor
open Go.RowKit

def pairsC : Array Value := #[.int .i64 65, .int .i64 90, .int .i64 32, .int .i64 192, .int .i64 214, .int .i64 32, .int .i64 216, .int .i64 222, .int .i64 32, .int .i64 913, .int .i64 929, .int .i64 32, .int .i64 931, .int .i64 937, .int .i64 32, .int .i64 1040, .int .i64 1071, .int .i64 32, .int .i64 66560, .int .i64 66599, .int .i64 40]
def thirdsC : Array Value := #[.int .i64 8490, .int .i64 75, .int .i64 383, .int .i64 83, .int .i64 8491, .int .i64 197, .int .i64 181, .int .i64 924, .int .i64 962, .int .i64 931]

/-- Both tables lie where they lie. -/
structure Tabs (w : World) : Prop where
  pairs : ∃ t, w.heap[0]? = some (.cells pairsC t (0, 0))
  thirds : ∃ t, w.heap[1]? = some (.cells thirdsC t (0, 0))
theorem Tabs.new {w w' : World} (h : Tabs w) (t : Touch (fun _ => False) w w') : Tabs w' := by
  obtain ⟨⟨t0, h0⟩, ⟨t1, h1⟩⟩ := h
  exact ⟨⟨t0, (t.block 0 (lt_of_block h0) id).trans h0⟩, ⟨t1, (t.block 1 (lt_of_block h1) id).trans h1⟩⟩

theorem g0 : Tryd.prog.globalNamed "ferret/ucd.allPairs" = some 0 := by kernel_rfl
theorem g1 : Tryd.prog.globalNamed "ferret/ucd.thirds" = some 1 := by kernel_rfl
theorem y0 : (Tryd.prog.globals[0]?).map (·.type) = some 48 := by kernel_rfl
theorem y1 : (Tryd.prog.globals[1]?).map (·.type) = some 51 := by kernel_rfl
theorem c3 : Tryd.prog.cellsOf 3 = 1 := by kernel_rfl
theorem c47 : Tryd.prog.cellsOf 47 = 3 := by kernel_rfl
theorem c50 : Tryd.prog.cellsOf 50 = 2 := by kernel_rfl
theorem c48 : Tryd.prog.cellsOf 48 = 21 := by kernel_rfl
theorem c51 : Tryd.prog.cellsOf 51 = 10 := by kernel_rfl

theorem at_take {cs : List Value} {k : Nat} {v : Value} (h : (cs.drop k).take 1 = [v]) : cs[k]? = some v := by
  have := congrArg (·[0]?) h
  simpa [List.getElem?_take, List.getElem?_drop] using this
theorem three_list {cs : List Value} {x y z : Value} (hl : cs.length = 3) (q0 : cs[0]? = some x) (q1 : cs[1]? = some y) (q2 : cs[2]? = some z) : cs = [x, y, z] := by
  match cs, hl, q0, q1, q2 with
  | [a, b, c], _, q0, q1, q2 =>
    simp at q0 q1 q2
    subst q0 q1 q2
    rfl
theorem two_list {cs : List Value} {x y : Value} (hl : cs.length = 2) (q0 : cs[0]? = some x) (q1 : cs[1]? = some y) : cs = [x, y] := by
  match cs, hl, q0, q1 with
  | [a, b], _, q0, q1 =>
    simp at q0 q1
    subst q0 q1
    rfl
section
variable {H : Type} {enc : TypeId × Value → H} {w : World} {base : Nat} {sp : Nat → Bool} {held : Bool}
theorem row3 {fuel : Nat} {cs : List Value} {x y z : Int} {p : List MemPlace} (h : DataW.trod enc Tryd.prog w base sp held fuel 47 cs = some (.agg [.lit (.int .i64 x), .lit (.int .i64 y), .lit (.int .i64 z)], p)) : cs = [.int .i64 x, .int .i64 y, .int .i64 z] := by
  obtain ⟨xs, n, rfl, hx, hl, hxl, hall⟩ := DataW.trod_struct Tryd.underlying47 h
  rw [c47] at hl
  have hx3 : xs.map (·.1) = [.lit (.int .i64 x), .lit (.int .i64 y), .lit (.int .i64 z)] := by
    have := congrArg Prod.fst hx
    simpa using this.symm
  obtain ⟨x0, x1, x2, rfl⟩ : ∃ x0 x1 x2, xs = [x0, x1, x2] := by
    match xs, hx3 with
    | [x0, x1, x2], _ => exact ⟨x0, x1, x2, rfl⟩
  simp only [List.map_cons, List.map_nil, List.cons.injEq, and_true] at hx3
  obtain ⟨e0, e1, e2⟩ := hx3
  have f0 := hall 0 _ rfl
  have f1 := hall 1 _ rfl
  have f2 := hall 2 _ rfl
  change DataW.trod _ _ _ _ _ _ _ 3 ((cs.drop 0).take (Tryd.prog.cellsOf 3)) = some x0 at f0
  change DataW.trod _ _ _ _ _ _ _ 3 ((cs.drop 1).take (Tryd.prog.cellsOf 3)) = some x1 at f1
  change DataW.trod _ _ _ _ _ _ _ 3 ((cs.drop 2).take (Tryd.prog.cellsOf 3)) = some x2 at f2
  rw [c3] at f0 f1 f2
  have q0 : cs[0]? = some (.int .i64 x) := by
    obtain ⟨z, hz, hx', _⟩ := DataW.trod_int Tryd.underlying3 f0
    rw [hx'] at e0
    cases e0
    exact at_take hz
  have q1 : cs[1]? = some (.int .i64 y) := by
    obtain ⟨z, hz, hx', _⟩ := DataW.trod_int Tryd.underlying3 f1
    rw [hx'] at e1
    cases e1
    exact at_take hz
  have q2 : cs[2]? = some (.int .i64 z) := by
    obtain ⟨z, hz, hx', _⟩ := DataW.trod_int Tryd.underlying3 f2
    rw [hx'] at e2
    cases e2
    exact at_take hz
  exact three_list hl q0 q1 q2
theorem row2 {fuel : Nat} {cs : List Value} {x y : Int} {p : List MemPlace} (h : DataW.trod enc Tryd.prog w base sp held fuel 50 cs = some (.agg [.lit (.int .i64 x), .lit (.int .i64 y)], p)) : cs = [.int .i64 x, .int .i64 y] := by
  obtain ⟨xs, n, rfl, hx, hl, hxl, hall⟩ := DataW.trod_struct Tryd.underlying50 h
  rw [c50] at hl
  have hx3 : xs.map (·.1) = [.lit (.int .i64 x), .lit (.int .i64 y)] := by
    have := congrArg Prod.fst hx
    simpa using this.symm
  obtain ⟨x0, x1, rfl⟩ : ∃ x0 x1, xs = [x0, x1] := by
    match xs, hx3 with
    | [x0, x1], _ => exact ⟨x0, x1, rfl⟩
  simp only [List.map_cons, List.map_nil, List.cons.injEq, and_true] at hx3
  obtain ⟨e0, e1⟩ := hx3
  have f0 := hall 0 _ rfl
  have f1 := hall 1 _ rfl
  change DataW.trod _ _ _ _ _ _ _ 3 ((cs.drop 0).take (Tryd.prog.cellsOf 3)) = some x0 at f0
  change DataW.trod _ _ _ _ _ _ _ 3 ((cs.drop 1).take (Tryd.prog.cellsOf 3)) = some x1 at f1
  rw [c3] at f0 f1
  have q0 : cs[0]? = some (.int .i64 x) := by
    obtain ⟨z, hz, hx', _⟩ := DataW.trod_int Tryd.underlying3 f0
    rw [hx'] at e0
    cases e0
    exact at_take hz
  have q1 : cs[1]? = some (.int .i64 y) := by
    obtain ⟨z, hz, hx', _⟩ := DataW.trod_int Tryd.underlying3 f1
    rw [hx'] at e1
    cases e1
    exact at_take hz
  exact two_list hl q0 q1

/-- The list that the array is, out of its pieces. -/
theorem pieces {cs : List Value} {m : Nat} : ∀ (rows : List (List Value)) (k : Nat), (∀ i (h : i < rows.length), (cs.drop ((k + i) * m)).take m = rows[i]) → (∀ r ∈ rows, r.length = m) → (cs.drop (k * m)).take (rows.length * m) = rows.flatten
  | [], k, _, _ => by simp
  | r :: rows, k, h, hl => by
    have h0 := h 0 (by simp)
    have ih := pieces (cs := cs) (m := m) rows (k + 1) (fun i hi => by
      have := h (i + 1) (by simpa using hi)
      rw [show k + (i + 1) = k + 1 + i by omega] at this
      simpa using this) (fun q hq => hl q (by simp [hq]))
    simp only [Nat.add_zero, List.getElem_cons_zero] at h0
    rw [List.length_cons, Nat.add_mul, Nat.one_mul, Nat.add_comm, List.take_add, h0, List.drop_drop, List.flatten_cons]
    rw [show k * m + m = (k + 1) * m by rw [Nat.add_mul, Nat.one_mul], ih]
theorem whole {cs : List Value} {m : Nat} {rows : List (List Value)} (h : ∀ i (h : i < rows.length), (cs.drop (i * m)).take m = rows[i]) (hl : ∀ r ∈ rows, r.length = m) (hc : cs.length = rows.length * m) : cs = rows.flatten := by
  have := pieces rows 0 (fun i hi => by rw [Nat.zero_add]; exact h i hi) hl
  rw [Nat.zero_mul, List.drop_zero, List.take_of_length_le (by omega)] at this
  exact this

set_option maxRecDepth 100000 in
theorem pairs_cells {fuel : Nat} {cs : List Value} {p : List MemPlace} (h : DataW.trod enc Tryd.prog w base sp held fuel 48 cs = some (Rows.laid_ferret_ucd_allPairs, p)) : cs = pairsC.toList := by
  obtain ⟨xs, m, rfl, hx, hl, hxl, hall⟩ := DataW.trod_array Tryd.underlying48 h
  rw [c48] at hl
  have hx3 : xs.map (·.1) = [.agg [.lit (.int .i64 65), .lit (.int .i64 90), .lit (.int .i64 32)], .agg [.lit (.int .i64 192), .lit (.int .i64 214), .lit (.int .i64 32)], .agg [.lit (.int .i64 216), .lit (.int .i64 222), .lit (.int .i64 32)], .agg [.lit (.int .i64 913), .lit (.int .i64 929), .lit (.int .i64 32)], .agg [.lit (.int .i64 931), .lit (.int .i64 937), .lit (.int .i64 32)], .agg [.lit (.int .i64 1040), .lit (.int .i64 1071), .lit (.int .i64 32)], .agg [.lit (.int .i64 66560), .lit (.int .i64 66599), .lit (.int .i64 40)]] := by
    have := congrArg Prod.fst hx
    exact (DataW.agg.inj this).symm
  have row : ∀ i (hi : i < 7) (x y z : Int), (xs.map (·.1))[i]? = some (.agg [.lit (.int .i64 x), .lit (.int .i64 y), .lit (.int .i64 z)]) → (cs.drop (i * 3)).take 3 = [.int .i64 x, .int .i64 y, .int .i64 z] := by
    intro i hi x y z hd
    have h1 := hall i hi
    rw [c47] at h1
    rw [List.getElem?_map] at hd
    obtain ⟨⟨d, q⟩, hq, rfl⟩ := Option.map_eq_some_iff.1 hd
    rw [hq] at h1
    exact row3 h1
  rw [hx3] at row
  have := whole (cs := cs) (m := 3) (rows := [[.int .i64 65, .int .i64 90, .int .i64 32], [.int .i64 192, .int .i64 214, .int .i64 32], [.int .i64 216, .int .i64 222, .int .i64 32], [.int .i64 913, .int .i64 929, .int .i64 32], [.int .i64 931, .int .i64 937, .int .i64 32], [.int .i64 1040, .int .i64 1071, .int .i64 32], [.int .i64 66560, .int .i64 66599, .int .i64 40]]) (fun i hi => by
    simp only [List.length_cons, List.length_nil] at hi
    match i, hi with
    | 0, hi => exact row 0 hi _ _ _ rfl
    | 1, hi => exact row 1 hi _ _ _ rfl
    | 2, hi => exact row 2 hi _ _ _ rfl
    | 3, hi => exact row 3 hi _ _ _ rfl
    | 4, hi => exact row 4 hi _ _ _ rfl
    | 5, hi => exact row 5 hi _ _ _ rfl
    | 6, hi => exact row 6 hi _ _ _ rfl) (by simp) (by simp [hl])
  exact this
set_option maxRecDepth 100000 in
theorem thirds_cells {fuel : Nat} {cs : List Value} {p : List MemPlace} (h : DataW.trod enc Tryd.prog w base sp held fuel 51 cs = some (Rows.laid_ferret_ucd_thirds, p)) : cs = thirdsC.toList := by
  obtain ⟨xs, m, rfl, hx, hl, hxl, hall⟩ := DataW.trod_array Tryd.underlying51 h
  rw [c51] at hl
  have hx3 : xs.map (·.1) = [.agg [.lit (.int .i64 8490), .lit (.int .i64 75)], .agg [.lit (.int .i64 383), .lit (.int .i64 83)], .agg [.lit (.int .i64 8491), .lit (.int .i64 197)], .agg [.lit (.int .i64 181), .lit (.int .i64 924)], .agg [.lit (.int .i64 962), .lit (.int .i64 931)]] := by
    have := congrArg Prod.fst hx
    exact (DataW.agg.inj this).symm
  have row : ∀ i (hi : i < 5) (x y : Int), (xs.map (·.1))[i]? = some (.agg [.lit (.int .i64 x), .lit (.int .i64 y)]) → (cs.drop (i * 2)).take 2 = [.int .i64 x, .int .i64 y] := by
    intro i hi x y hd
    have h1 := hall i hi
    rw [c50] at h1
    rw [List.getElem?_map] at hd
    obtain ⟨⟨d, q⟩, hq, rfl⟩ := Option.map_eq_some_iff.1 hd
    rw [hq] at h1
    exact row2 h1
  rw [hx3] at row
  have := whole (cs := cs) (m := 2) (rows := [[.int .i64 8490, .int .i64 75], [.int .i64 383, .int .i64 83], [.int .i64 8491, .int .i64 197], [.int .i64 181, .int .i64 924], [.int .i64 962, .int .i64 931]]) (fun i hi => by
    simp only [List.length_cons, List.length_nil] at hi
    match i, hi with
    | 0, hi => exact row 0 hi _ _ rfl
    | 1, hi => exact row 1 hi _ _ rfl
    | 2, hi => exact row 2 hi _ _ rfl
    | 3, hi => exact row 3 hi _ _ rfl
    | 4, hi => exact row 4 hi _ _ rfl) (by simp) (by simp [hl])
  exact this
end

set_option maxRecDepth 100000 in
theorem tabs_of {W : World} (h : laidMet Tryd.prog [("ferret/ucd.allPairs", Rows.laid_ferret_ucd_allPairs), ("ferret/ucd.thirds", Rows.laid_ferret_ucd_thirds)] W) : Tabs W := by
  obtain ⟨ps, ⟨g, t, cs, fuel, p, q, hg, ht, hvar, hd, ⟨g', t', cs', fuel', p', q', hg', ht', hvar', hd', _, rfl⟩, rfl⟩, _, hfree⟩ := h
  obtain rfl := Option.some.inj (g0.symm.trans hg)
  obtain rfl := Option.some.inj (y0.symm.trans ht)
  obtain rfl := Option.some.inj (g1.symm.trans hg')
  obtain rfl := Option.some.inj (y1.symm.trans ht')
  have e0 : cs = pairsC := by
    have := pairs_cells hd
    cases cs
    simpa using congrArg List.toArray this
  have e1 : cs' = thirdsC := by
    have := thirds_cells hd'
    cases cs'
    simpa using congrArg List.toArray this
  subst e0
  subst e1
  unfold World.var? at hvar hvar'
  rw [g0] at hvar
  rw [g1] at hvar'
  simp only [Option.bind_some] at hvar hvar'
  obtain ⟨⟨cc, tt, hh⟩, _⟩ := hfree 0 0 (by simp [MemPlace.row, pairsC])
  obtain ⟨⟨cc', tt', hh'⟩, _⟩ := hfree 1 0 (by simp [MemPlace.row, thirdsC])
  rw [hh] at hvar
  rw [hh'] at hvar'
  simp only [Option.some.injEq] at hvar hvar'
  subst hvar
  subst hvar'
  exact ⟨⟨tt, hh⟩, ⟨tt', hh'⟩⟩
end Go.Proofs.YtnngemdpoemhgaaDoor

/- A list of few numbers that rises, sorted: it is as it was; condition: at most twelve numbers. -/
namespace Go.Proofs.YtnngemdpoemhgaaDoor
open Go.Shelf Go.RowKit

/-- Numbers that lie there. -/
def Ig (w : World) (a : Option Addr) (e : List Int) : Prop := ∃ b, a = some ⟨b, 0, none⟩ ∧ b < w.heap.size ∧ ∀ i (h : i < e.length), w.cell? ⟨b, i, none⟩ = some (.int .i64 e[i])
theorem Ig.new {w w' : World} {a : Option Addr} {e : List Int} (h : Ig w a e) (t : Touch (fun _ => False) w w') : Ig w' a e := by
  obtain ⟨b, rfl, hb, hc⟩ := h
  refine ⟨b, rfl, Nat.lt_of_lt_of_le hb t.size, fun i hi => ?_⟩
  rw [t.cell (p := ⟨b, i, none⟩) hb id]
  exact hc i hi

set_option maxRecDepth 100000 in
theorem nan_no (x : Int) (w : World) : Calls Tryd.prog 51 #[.int .i64 x] w fun e w' => e = .returned (.bool false) ∧ w' = w := by
  go_enter Tryd.func51, Tryd.ntmps51
  go_wp2
  go_ret
  exact ⟨by simp, rfl⟩
set_option maxRecDepth 100000 in
theorem less_any (x y : Int) (w : World) : Calls Tryd.prog 59 #[.int .i64 x, .int .i64 y] w fun e w' => e = .returned (.bool (decide (x < y))) ∧ w' = w := by
  go_enter Tryd.func59, Tryd.ntmps59
  go_wp2_with fail
  refine (nan_no x w).mono ?_
  rintro e w1 ⟨rfl, rfl⟩
  go_wp2
  go_ret
  exact ⟨rfl, rfl⟩

set_option maxRecDepth 100000 in
set_option maxHeartbeats 4000000 in
theorem ins_up (a : Option Addr) (cap : Nat) (e : List Int) (w : World) (hi : Ig w a e) (hup : ∀ i (h : i + 1 < e.length), e[i] < e[i + 1]) (h1 : 1 ≤ e.length) (hb : e.length ≤ 12) :
    Calls Tryd.prog 53 #[.slice a e.length cap, .int .i64 0, .int .i64 e.length] w fun en w' => en = .returned (.tuple #[]) ∧ Touch (fun _ => False) w w' := by
  have HI := hid hi
  have HUP := hid hup
  clear hi hup
  go_enter Tryd.func53, Tryd.ntmps53
  go_wp2_with fail
  go_loopg [6] e.length (fun gk i wr => ∃ k : Nat, k + gk = e.length + 1 ∧ k ≤ e.length ∧ 1 ≤ k ∧ i = .int .i64 (k : Nat) ∧ Touch (fun _ => False) w wr)
  case atStart => exact ⟨1, by omega, h1, Nat.le_refl _, rfl, Touch.refl _ _⟩
  case round =>
    obtain ⟨k, hk, hke, hk1, rfl, htc⟩ := hrel
    obtain ⟨G, hG⟩ : ∃ G, G = gk := ⟨_, rfl⟩
    have HG := hid hG
    clear hG
    have TC := hid htc
    clear htc
    by_cases hlt : k < e.length
    · obtain ⟨j, rfl⟩ : ∃ j, k = j + 1 := ⟨k - 1, by omega⟩
      go_wp2_with fail
      go_loopg [7] 1 (fun g2 v wq => v = .int .i64 ((j + 1 : Nat) : Int) ∧ Touch (fun _ => False) w wq)
      case atStart => exact ⟨rfl, TC.out⟩
      case round =>
        obtain ⟨rfl, htq⟩ := hrel
        have TQ := hid htq
        obtain ⟨b, ha, hbl, hc⟩ := HI.out.new htq
        subst ha
        have d0 := hc (j + 1) hlt
        have d1 := hc j (by omega)
        have hx := HUP.out j hlt
        obtain ⟨x, hxx⟩ : ∃ x, x = e[j + 1] := ⟨_, rfl⟩
        obtain ⟨y, hyy⟩ : ∃ y, y = e[j] := ⟨_, rfl⟩
        rw [← hxx] at d0 hx
        rw [← hyy] at d1 hx
        have hd : decide (x < y) = false := decide_eq_false (by omega)
        have KL := hid (fun wq => less_any x y wq)
        rw [hd] at KL
        have hjI : ((j + 1 : Nat) : Int) < (e.length : Int) := by omega
        clear hc htq hxx hyy hx
        go_wp2_with fail
        go_quiet ((go_at_call 59; refine Calls.quiet_of_same (KL.out _)))
        go_wp2
        go_roundg (G - 1)
        case measure => have := HG.out; omega
        case rel => exact ⟨j + 2, by have := HG.out; omega, by omega, by omega, by go_num, TQ.out.drewN _⟩
    · obtain rfl : k = e.length := by omega
      go_wp2
      go_end0
      exact ⟨rfl, TC.out⟩

set_option maxRecDepth 100000 in
set_option maxHeartbeats 4000000 in
theorem pdq_up (a : Option Addr) (cap : Nat) (e : List Int) (n : Int) (w : World) (hi : Ig w a e) (hup : ∀ i (h : i + 1 < e.length), e[i] < e[i + 1]) (h1 : 1 ≤ e.length) (hb : e.length ≤ 12) :
    Calls Tryd.prog 45 #[.slice a e.length cap, .int .i64 0, .int .i64 e.length, .int .i64 n] w fun en w' => en = .returned (.tuple #[]) ∧ Touch (fun _ => False) w w' := by
  have K := hid (ins_up a cap e w hi hup h1 hb)
  clear hi hup
  go_enter Tryd.func45, Tryd.ntmps45
  go_wp2_with fail
  go_loopg [1, 2] 1 (fun gk x y wr => gk = 1 ∧ x = .int .i64 0 ∧ y = .int .i64 e.length ∧ w = wr)
  case atStart => exact ⟨rfl, rfl, rfl, rfl⟩
  case round =>
    obtain ⟨_, rfl, rfl, rfl⟩ := hrel
    go_wp2_with fail
    refine K.out.mono ?_
    rintro en w1 ⟨rfl, tc⟩
    have TC := hid tc
    clear tc
    go_wp2
    exact bodyPost_ret (results_none (fn := Tryd.f45) rfl _ Tryd.prog _) rfl ⟨rfl, TC.out⟩

set_option maxRecDepth 100000 in
set_option maxHeartbeats 4000000 in
theorem sort_up (a : Option Addr) (cap : Nat) (e : List Int) (w : World) (hi : Ig w a e) (hup : ∀ i (h : i + 1 < e.length), e[i] < e[i + 1]) (h1 : 1 ≤ e.length) (hb : e.length ≤ 12) :
    Calls Tryd.prog 26 #[.slice a e.length cap] w fun en w' => en = .returned (.tuple #[]) ∧ Touch (fun _ => False) w w' := by
  have hlen := fun wq => Any.bits_Len Tryd.bitsLen2 (e.length : Int) wq (by omega) (by omega)
  change ∀ wq, Calls Tryd.prog 46 _ _ _ at hlen
  have HLN := hid hlen
  have K := hid (fun n => pdq_up a cap e n w hi hup h1 hb)
  clear hi hup hlen
  go_enter Tryd.func26, Tryd.ntmps26
  go_wp2_with fail
  refine (HLN.out _).mono ?_
  rintro en w1 ⟨rfl, rfl⟩
  go_wp2_with fail
  refine (K.out _).mono ?_
  rintro en w2 ⟨rfl, tc⟩
  have TC := hid tc
  clear tc
  go_wp2
  go_end0
  exact ⟨rfl, TC.out⟩
end Go.Proofs.YtnngemdpoemhgaaDoor
