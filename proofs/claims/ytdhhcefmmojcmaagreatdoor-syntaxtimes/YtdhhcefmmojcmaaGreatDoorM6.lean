/- Texts of this proof, one behind the other: what each says stands ahead of it. -/
import Derived.Test.YtdhhcefmmojcmaaGreatDoorM5
import Derived.Test.YtdhhcefmmojcmaaGreatDoorM3
/- Perl of the six letters: what it answers; no condition. -/
namespace Go.Proofs.YtdhhcefmmojcmaaGreatDoor
open Go.RowKit

theorem ls_one {w : World} {a : Option Addr} {c : Nat} {l : List R2} (t : TypeId) (h : Rg w a l) : Ls (w.alloc (.cells #[.slice a l.length c] t)) w.heap.size [l] := by
  refine ⟨by simp, fun i hi => ?_⟩
  obtain rfl : i = 0 := by simpa using hi
  refine ⟨a, c, ?_, h.new ((Touch.refl _ w).alloc _)⟩
  rw [World.cell?_alloc_at _ _ _ _ (by simp)]
  rfl
theorem ls_three {w : World} {a1 a2 a3 : Option Addr} {c1 c2 c3 : Nat} {l m n : List R2} (t : TypeId) (h1 : Rg w a1 l) (h2 : Rg w a2 m) (h3 : Rg w a3 n) : Ls (w.alloc (.cells #[.slice a1 l.length c1, .slice a2 m.length c2, .slice a3 n.length c3] t)) w.heap.size [l, m, n] := by
  refine ⟨by simp, fun i hi => ?_⟩
  simp only [List.length_cons, List.length_nil] at hi
  have T := (Touch.refl (fun _ => False) w).alloc (.cells #[.slice a1 l.length c1, .slice a2 m.length c2, .slice a3 n.length c3] t)
  match i, hi with
  | 0, _ => exact ⟨a1, c1, by rw [World.cell?_alloc_at _ _ _ _ (by simp)]; rfl, h1.new T⟩
  | 1, _ => exact ⟨a2, c2, by rw [World.cell?_alloc_at _ _ _ _ (by simp)]; rfl, h2.new T⟩
  | 2, _ => exact ⟨a3, c3, by rw [World.cell?_alloc_at _ _ _ _ (by simp)]; rfl, h3.new T⟩

def lL : List R2 := lLu ++ lLl ++ lLo
set_option maxRecDepth 100000 in
set_option maxHeartbeats 4000000 in
theorem spans_L (w : World) : Calls Tryz.prog 39 #[.string ⟨#[76]⟩] w fun e w' => ∃ a c, e = .returned (.slice a lL.length c) ∧ Rg w' a lL ∧ Touch (fun _ => False) w w' := by
  go_enter Tryz.func39, Tryz.ntmps39
  go_wp2_with fail
  refine (spans_Lu w).mono ?_
  rintro e w1 ⟨a1, c1, rfl, r1, t1⟩
  have R1 := hid r1
  have T1 := hid t1
  clear r1 t1
  go_wp2_with fail
  refine (spans_Ll w1).mono ?_
  rintro e w2 ⟨a2, c2, rfl, r2, t2⟩
  have R2 := hid r2
  replace R1 := hid (R1.out.new t2)
  replace T1 := hid (T1.out.trans t2 (fun _ _ e => e))
  clear r2 t2
  go_wp2_with fail
  refine (spans_Lo w2).mono ?_
  rintro e w3 ⟨a3, c3, rfl, r3, t3⟩
  replace R1 := hid (R1.out.new t3)
  replace R2 := hid (R2.out.new t3)
  replace T1 := hid (T1.out.trans t3 (fun _ _ e => e))
  have LS := hid (ls_three (c1 := c1) (c2 := c2) (c3 := c3) 96 R1.out R2.out r3)
  replace T1 := hid (T1.out.alloc (.cells #[.slice a1 lLu.length c1, .slice a2 lLl.length c2, .slice a3 lLo.length c3] 96))
  clear r3 t3 R1 R2
  go_wp2_with fail
  generalize (w3.alloc (.cells #[.slice a1 lLu.length c1, .slice a2 lLl.length c2, .slice a3 lLo.length c3] 96)) = w4 at *
  refine (concatS_any w3.heap.size 3 [lLu, lLl, lLo] w4 LS.out (by decide) (by decide)).mono ?_
  rintro e w5 ⟨v, rfl, ow⟩
  obtain ⟨a, c, hv, hrg⟩ := ow.rg
  subst hv
  replace T1 := hid (T1.out.trans ow.touch (fun _ _ e => e))
  have RG := hid hrg
  clear ow hrg LS
  go_wp2
  go_ret
  exact ⟨a, c, rfl, RG.out, T1.out⟩

/-- What Perl answers: a set of some numbers. -/
def Perls (c : Nat) (l : List R2) (neg : Bool) : Prop := ∀ w : World, Calls Tryz.prog 23 #[.int .u8 c] w fun e w' => ∃ v s, e = .returned (.tuple #[v, .bool true]) ∧ Canon s ∧ (∀ x, In x s ↔ (0 ≤ x ∧ x ≤ 1114111) ∧ (if neg then ¬ In x l else In x l)) ∧ OwE w w' 60 v s

set_option maxRecDepth 100000 in
set_option maxHeartbeats 4000000 in
theorem perl_d : Perls 100 lNd false := by
  intro w
  go_enter Tryz.func23, Tryz.ntmps23
  go_wp2_with fail
  refine (spans_Nd w).mono ?_
  rintro e w1 ⟨a1, c1, rfl, r1, t1⟩
  have LS := hid (ls_one (c := c1) 96 r1)
  have T1 := hid (t1.alloc (.cells #[.slice a1 lNd.length c1] 96))
  clear r1 t1
  go_wp2_with fail
  generalize (w1.alloc (.cells #[.slice a1 lNd.length c1] 96)) = w2 at *
  refine (setOf_any w1.heap.size 1 [lNd] w2 LS.out (by decide) (by decide)).mono ?_
  rintro e w3 ⟨v, s, rfl, hcn, hin, ow⟩
  have OW := hid ow
  have HCN := hid hcn
  have HIN := hid hin
  obtain ⟨a, c, hv⟩ := own_shape ow.own
  subst hv
  clear ow hcn hin LS
  go_wp2
  go_ret2
  exact ⟨_, rfl, s, HCN.out, fun x => by rw [HIN.out x]; simp [List.flatten], ⟨OW.out.own, fun g e => Nat.le_trans T1.out.size (OW.out.new g e), T1.out.trans OW.out.touch (fun _ _ e => e)⟩⟩

set_option maxRecDepth 100000 in
set_option maxHeartbeats 4000000 in
theorem perl_s : Perls 115 lBl false := by
  intro w
  go_enter Tryz.func23, Tryz.ntmps23
  go_wp2_with fail
  refine (blanks_any w).mono ?_
  rintro e w1 ⟨a1, c1, rfl, r1, t1⟩
  have LS := hid (ls_one (c := c1) 96 r1)
  have T1 := hid (t1.alloc (.cells #[.slice a1 lBl.length c1] 96))
  clear r1 t1
  go_wp2_with fail
  generalize (w1.alloc (.cells #[.slice a1 lBl.length c1] 96)) = w2 at *
  refine (setOf_any w1.heap.size 1 [lBl] w2 LS.out (by decide) (by decide)).mono ?_
  rintro e w3 ⟨v, s, rfl, hcn, hin, ow⟩
  have OW := hid ow
  have HCN := hid hcn
  have HIN := hid hin
  obtain ⟨a, c, hv⟩ := own_shape ow.own
  subst hv
  clear ow hcn hin LS
  go_wp2
  go_ret2
  exact ⟨_, rfl, s, HCN.out, fun x => by rw [HIN.out x]; simp [List.flatten], ⟨OW.out.own, fun g e => Nat.le_trans T1.out.size (OW.out.new g e), T1.out.trans OW.out.touch (fun _ _ e => e)⟩⟩

def lW : List R2 := lL ++ lNd ++ lPc
set_option maxRecDepth 100000 in
set_option maxHeartbeats 4000000 in
theorem perl_w : Perls 119 lW false := by
  intro w
  go_enter Tryz.func23, Tryz.ntmps23
  go_wp2_with fail
  refine (spans_L w).mono ?_
  rintro e w1 ⟨a1, c1, rfl, r1, t1⟩
  have R1 := hid r1
  have T1 := hid t1
  clear r1 t1
  go_wp2_with fail
  refine (spans_Nd w1).mono ?_
  rintro e w2 ⟨a2, c2, rfl, r2, t2⟩
  have R2 := hid r2
  replace R1 := hid (R1.out.new t2)
  replace T1 := hid (T1.out.trans t2 (fun _ _ e => e))
  clear r2 t2
  go_wp2_with fail
  refine (spans_Pc w2).mono ?_
  rintro e w3 ⟨a3, c3, rfl, r3, t3⟩
  replace R1 := hid (R1.out.new t3)
  replace R2 := hid (R2.out.new t3)
  replace T1 := hid (T1.out.trans t3 (fun _ _ e => e))
  have LS := hid (ls_three (c1 := c1) (c2 := c2) (c3 := c3) 96 R1.out R2.out r3)
  replace T1 := hid (T1.out.alloc (.cells #[.slice a1 lL.length c1, .slice a2 lNd.length c2, .slice a3 lPc.length c3] 96))
  clear r3 t3 R1 R2
  go_wp2_with fail
  generalize (w3.alloc (.cells #[.slice a1 lL.length c1, .slice a2 lNd.length c2, .slice a3 lPc.length c3] 96)) = w4 at *
  refine (setOf_any w3.heap.size 3 [lL, lNd, lPc] w4 LS.out (by decide) (by decide)).mono ?_
  rintro e w5 ⟨v, s, rfl, hcn, hin, ow⟩
  have OW := hid ow
  have HCN := hid hcn
  have HIN := hid hin
  obtain ⟨a, c, hv⟩ := own_shape ow.own
  subst hv
  clear ow hcn hin LS
  go_wp2
  go_ret2
  exact ⟨_, rfl, s, HCN.out, fun x => by rw [HIN.out x]; simp [List.flatten, lW], ⟨OW.out.own, fun g e => Nat.le_trans T1.out.size (OW.out.new g e), T1.out.trans OW.out.touch (fun _ _ e => e)⟩⟩

set_option maxRecDepth 100000 in
set_option maxHeartbeats 4000000 in
theorem perl_D : Perls 68 lNd true := by
  intro w
  have K := hid (perl_d w)
  go_enter Tryz.func23, Tryz.ntmps23
  go_wp2_with fail
  refine K.out.mono ?_
  rintro e w1 ⟨v, s, rfl, hcn, hin, ow⟩
  obtain ⟨a, c, hv, hrg⟩ := ow.rg
  subst hv
  have T1 := hid ow.touch
  have HIN := hid hin
  have KN := hid (not_says a c s w1 hrg hcn)
  clear ow hcn hin hrg K
  go_wp2_with fail
  refine KN.out.mono ?_
  rintro e w2 ⟨v, n, rfl, hcn, hin, ow⟩
  have OW := hid ow
  have HCN := hid hcn
  have HI2 := hid hin
  obtain ⟨a', c', hv⟩ := own_shape ow.own
  subst hv
  clear ow hcn hin KN
  go_wp2
  go_ret2
  refine ⟨_, rfl, n, HCN.out, fun x => ?_, ⟨OW.out.own, fun g e => Nat.le_trans T1.out.size (OW.out.new g e), T1.out.trans OW.out.touch (fun _ _ e => e)⟩⟩
  rw [HI2.out x, HIN.out x]
  simp only [Bool.false_eq_true, if_false]
  constructor
  · exact fun h => ⟨h.1, fun k => h.2 ⟨h.1, k⟩⟩
  · exact fun h => ⟨h.1, fun k => h.2 k.2⟩

set_option maxRecDepth 100000 in
set_option maxHeartbeats 4000000 in
theorem perl_S : Perls 83 lBl true := by
  intro w
  have K := hid (perl_s w)
  go_enter Tryz.func23, Tryz.ntmps23
  go_wp2_with fail
  refine K.out.mono ?_
  rintro e w1 ⟨v, s, rfl, hcn, hin, ow⟩
  obtain ⟨a, c, hv, hrg⟩ := ow.rg
  subst hv
  have T1 := hid ow.touch
  have HIN := hid hin
  have KN := hid (not_says a c s w1 hrg hcn)
  clear ow hcn hin hrg K
  go_wp2_with fail
  refine KN.out.mono ?_
  rintro e w2 ⟨v, n, rfl, hcn, hin, ow⟩
  have OW := hid ow
  have HCN := hid hcn
  have HI2 := hid hin
  obtain ⟨a', c', hv⟩ := own_shape ow.own
  subst hv
  clear ow hcn hin KN
  go_wp2
  go_ret2
  refine ⟨_, rfl, n, HCN.out, fun x => ?_, ⟨OW.out.own, fun g e => Nat.le_trans T1.out.size (OW.out.new g e), T1.out.trans OW.out.touch (fun _ _ e => e)⟩⟩
  rw [HI2.out x, HIN.out x]
  simp only [Bool.false_eq_true, if_false]
  constructor
  · exact fun h => ⟨h.1, fun k => h.2 ⟨h.1, k⟩⟩
  · exact fun h => ⟨h.1, fun k => h.2 k.2⟩

set_option maxRecDepth 100000 in
set_option maxHeartbeats 4000000 in
theorem perl_W : Perls 87 lW true := by
  intro w
  have K := hid (perl_w w)
  go_enter Tryz.func23, Tryz.ntmps23
  go_wp2_with fail
  refine K.out.mono ?_
  rintro e w1 ⟨v, s, rfl, hcn, hin, ow⟩
  obtain ⟨a, c, hv, hrg⟩ := ow.rg
  subst hv
  have T1 := hid ow.touch
  have HIN := hid hin
  have KN := hid (not_says a c s w1 hrg hcn)
  clear ow hcn hin hrg K
  go_wp2_with fail
  refine KN.out.mono ?_
  rintro e w2 ⟨v, n, rfl, hcn, hin, ow⟩
  have OW := hid ow
  have HCN := hid hcn
  have HI2 := hid hin
  obtain ⟨a', c', hv⟩ := own_shape ow.own
  subst hv
  clear ow hcn hin KN
  go_wp2
  go_ret2
  refine ⟨_, rfl, n, HCN.out, fun x => ?_, ⟨OW.out.own, fun g e => Nat.le_trans T1.out.size (OW.out.new g e), T1.out.trans OW.out.touch (fun _ _ e => e)⟩⟩
  rw [HI2.out x, HIN.out x]
  simp only [Bool.false_eq_true, if_false]
  constructor
  · exact fun h => ⟨h.1, fun k => h.2 ⟨h.1, k⟩⟩
  · exact fun h => ⟨h.1, fun k => h.2 k.2⟩

end Go.Proofs.YtdhhcefmmojcmaaGreatDoor

/- A parser of patterns, plain: what any text tells, or what is wrong, and where; no condition. -/
namespace Go.Proofs.YtdhhcefmmojcmaaGreatDoor
open Go.RowKit

/-! ### Sets -/
def srtR (l : List R2) : List R2 := l.mergeSort fun a b => decide (a.1 ≤ b.1)
theorem srt_perm (l : List R2) : (srtR l).Perm l := List.mergeSort_perm _ _
theorem srt_up (l : List R2) : (srtR l).Pairwise (fun a b => a.1 ≤ b.1) := by
  have h := List.pairwise_mergeSort (le := fun a b : R2 => decide (a.1 ≤ b.1)) (fun a b c h1 h2 => by simp only [decide_eq_true_eq] at *; omega) (fun a b => by simp only [Bool.or_eq_true, decide_eq_true_eq]; omega) l
  exact h.imp (fun h => by simpa using h)
/-- The set of any ranges. -/
def cnR (l : List R2) : List R2 := joinedL (srtR (withinL l))
theorem cn_good (l : List R2) : Canon (cnR l) ∧ ∀ x, In x (cnR l) ↔ (0 ≤ x ∧ x ≤ 1114111) ∧ In x l := by
  have h := joined_good (m := srtR (withinL l)) (fun r hr => within_in l r ((srt_perm _).mem_iff.1 hr)) (srt_up _)
  exact ⟨h.1, fun x => by rw [show cnR l = joinedL (srtR (withinL l)) from rfl, h.2 x, in_perm (srt_perm _), in_within]⟩
/-- Two lists that are one set. -/
def Eqv (l m : List R2) : Prop := ∀ x, 0 ≤ x → x ≤ 1114111 → (In x l ↔ In x m)
theorem Eqv.refl (l : List R2) : Eqv l l := fun _ _ _ => Iff.rfl
theorem Eqv.symm {l m : List R2} (h : Eqv l m) : Eqv m l := fun x a b => (h x a b).symm
theorem Eqv.trans {l m n : List R2} (h : Eqv l m) (k : Eqv m n) : Eqv l n := fun x a b => (h x a b).trans (k x a b)
theorem Eqv.app {l m l' m' : List R2} (h : Eqv l m) (k : Eqv l' m') : Eqv (l ++ l') (m ++ m') := fun x a b => by rw [in_append, in_append, h x a b, k x a b]
theorem eqv_cn (l : List R2) : Eqv (cnR l) l := fun x a b => by rw [(cn_good l).2]; exact ⟨fun h => h.2, fun h => ⟨⟨a, b⟩, h⟩⟩
theorem cn_is {l s : List R2} (hs : Canon s) (h : Eqv s l) : s = cnR l := by
  refine canon_one hs (cn_good l).1 (fun x => ?_)
  rw [(cn_good l).2]
  refine ⟨fun hx => ?_, fun hx => (h x hx.1.1 hx.1.2).2 hx.2⟩
  obtain ⟨r, hr, h1, h2⟩ := hx
  have := hs.in_ r hr
  unfold inB at this
  exact ⟨⟨by omega, by omega⟩, (h x (by omega) (by omega)).1 ⟨r, hr, h1, h2⟩⟩
theorem cn_eq {l m : List R2} (h : Eqv l m) : cnR l = cnR m := cn_is (cn_good l).1 ((eqv_cn l).trans h)
theorem cn_of {l s : List R2} (hs : Canon s) (h : ∀ x, In x s ↔ (0 ≤ x ∧ x ≤ 1114111) ∧ In x l) : s = cnR l :=
  canon_one hs (cn_good l).1 (fun x => by rw [h, (cn_good l).2])
/-- All numbers that aren't in some ranges. -/
def notR (l : List R2) : List R2 := notL (cnR l)
theorem not_good2 (l : List R2) : Canon (notR l) ∧ ∀ x, In x (notR l) ↔ (0 ≤ x ∧ x ≤ 1114111) ∧ ¬ In x l := by
  have h := notL_good (cn_good l).1
  refine ⟨h.1, fun x => ?_⟩
  rw [show notR l = notL (cnR l) from rfl, h.2 x, (cn_good l).2]
  exact ⟨fun g => ⟨g.1, fun e => g.2 ⟨g.1, e⟩⟩, fun g => ⟨g.1, fun e => g.2 e.2⟩⟩
theorem not_of {l s : List R2} (hs : Canon s) (h : ∀ x, In x s ↔ (0 ≤ x ∧ x ≤ 1114111) ∧ ¬ In x l) : s = notR l :=
  canon_one hs (not_good2 l).1 (fun x => by rw [h, (not_good2 l).2])
theorem not_eq {l m : List R2} (h : Eqv l m) : notR l = notR m := by
  unfold notR
  rw [cn_eq h]
theorem not_cn (l : List R2) : notR (cnR l) = notR l := not_eq (eqv_cn l)
theorem eqv_not {l m : List R2} (h : Eqv l m) : Eqv (notR l) (notR m) := by rw [not_eq h]; exact Eqv.refl _

/-! ### Scalars -/
/-- The scalar at a place; -1: there is none. -/
def lkR (R : List Int) (k : Nat) : Int := match R[k]? with
  | some c => c
  | none => -1
/-- Flags: i, m, s, U. -/
structure Fl where
  i : Bool
  m : Bool
  s : Bool
  u : Bool
/-- A tree. -/
inductive Nd where
  | mk (kind min max cap : Int) (fold lazy : Bool) (set : List R2) (name : ByteArray) (kids : List Nd) : Nd
def Nd.empty : Nd := .mk 0 0 0 0 false false [] ⟨#[]⟩ []
def Nd.border (k : Int) : Nd := .mk k 0 0 0 false false [] ⟨#[]⟩ []
def Nd.cls (f : Fl) (s : List R2) : Nd := .mk 1 0 0 0 f.i false s ⟨#[]⟩ []
def Nd.many (kind : Int) (kids : List Nd) : Nd := .mk kind 0 0 0 false false [] ⟨#[]⟩ kids
def Nd.rep (a b : Int) (lazy : Bool) (x : Nd) : Nd := .mk 10 a b 0 false lazy [] ⟨#[]⟩ [x]
def Nd.grp (cap : Nat) (name : ByteArray) (x : Nd) : Nd := .mk 11 0 0 (cap : Int) false false [] name [x]
abbrev PR (α : Type) := Except (Nat × Nat) α

/-! ### Quantifiers -/
def isDig (c : Int) : Bool := decide (48 ≤ c) && decide (c ≤ 57)
/-- The digits that stand at a place, at most so many. -/
def digs (R : List Int) : Nat → Nat → List Nat
  | 0, _ => []
  | f + 1, k => if isDig (lkR R k) then (lkR R k - 48).toNat :: digs R f (k + 1) else []
def val10 (l : List Nat) : Nat := l.foldl (fun a d => 10 * a + d) 0
def numsF (R : List Int) (k : Nat) : Option (Int × Int × Nat) :=
  let l := digs R 4 k
  let k1 := k + l.length
  if l = [] then none
  else if lkR R k1 = 125 then some (val10 l, val10 l, k1 + 1)
  else if lkR R k1 = 44 then
    if lkR R (k1 + 1) = 125 then some (val10 l, -1, k1 + 2)
    else
      let m := digs R 4 (k1 + 1)
      if m = [] then none
      else if lkR R (k1 + 1 + m.length) = 125 then some (val10 l, val10 m, k1 + 1 + m.length + 1)
      else none
  else none
def boundF (R : List Int) (k : Nat) : Option (Int × Int × Nat) :=
  if lkR R k = 42 then some (0, -1, k + 1)
  else if lkR R k = 43 then some (1, -1, k + 1)
  else if lkR R k = 63 then some (0, 1, k + 1)
  else if lkR R k = 123 then numsF R (k + 1)
  else none
def quantF (R : List Int) (u : Bool) (k : Nat) : PR (Option (Int × Int × Bool × Nat)) := match boundF R k with
  | none => .ok none
  | some (a, b, k1) =>
    if a > 64 ∨ b > 64 ∨ (0 ≤ b ∧ b < a) then .error (23, k)
    else if lkR R k1 = 63 then .ok (some (a, b, !u, k1 + 1))
    else .ok (some (a, b, u, k1))

/-! ### Classes -/
def isLet (c : Int) : Bool := (decide (65 ≤ c) && decide (c ≤ 90)) || (decide (97 ≤ c) && decide (c ≤ 122))
def isAln (c : Int) : Bool := isDig c || isLet c
def isNam (c : Int) : Bool := isAln c || decide (c = 95)
def isHex (c : Int) : Bool := isDig c || (decide (65 ≤ c) && decide (c ≤ 70)) || (decide (97 ≤ c) && decide (c ≤ 102))
/-- The scalars that fit, at most so many. -/
def runF (R : List Int) (p : Int → Bool) : Nat → Nat → List Int
  | 0, _ => []
  | f + 1, k => if p (lkR R k) then lkR R k :: runF R p f (k + 1) else []
/-- A word of ASCII as bytes. -/
def bytesI (l : List Int) : ByteArray := ⟨(l.map fun c => UInt8.ofNat c.toNat).toArray⟩
def hexV (c : Int) : Nat := if c ≤ 57 then (c - 48).toNat else if c ≤ 70 then (c - 55).toNat else (c - 87).toNat
def val16 (l : List Int) : Nat := l.foldl (fun a d => 16 * a + hexV d) 0
def codeF (R : List Int) (k0 k : Nat) : PR (Nat × Nat) :=
  if lkR R k = 123 then
    let l := runF R isHex 6 (k + 1)
    if l ≠ [] ∧ lkR R (k + 1 + l.length) = 125 ∧ val16 l ≤ 1114111 then .ok (val16 l, k + 1 + l.length + 1) else .error (20, k0)
  else
    let l := runF R isHex 2 k
    if l.length = 2 then .ok (val16 l, k + 2) else .error (20, k0)
def lookupN (s : ByteArray) : List (ByteArray × List R2) → Option (List R2)
  | [] => none
  | (n, l) :: t => if s = n then some l else lookupN s t
def namedF (R : List Int) (tab : List (ByteArray × List R2)) (k0 : Nat) (neg : Bool) (k : Nat) : PR (List R2 × Nat) :=
  if lkR R k = 123 then
    let l := runF R isAln R.length (k + 1)
    match lookupN (bytesI l) tab with
    | some m => if lkR R (k + 1 + l.length) = 125 then .ok (if neg then notR m else m, k + 1 + l.length + 1) else .error (24, k0)
    | none => .error (24, k0)
  else .error (24, k0)
/-- What stands behind a stroke: ranges, the number if it is one, the place behind. -/
def escC (R : List Int) (tab : List (ByteArray × List R2)) (k0 k : Nat) (c : Int) : PR (List R2 × Option Int × Nat) :=
  if c = 100 then .ok (lNd, none, k + 1)
  else if c = 68 then .ok (notR lNd, none, k + 1)
  else if c = 115 then .ok (lBl, none, k + 1)
  else if c = 83 then .ok (notR lBl, none, k + 1)
  else if c = 119 then .ok (lW, none, k + 1)
  else if c = 87 then .ok (notR lW, none, k + 1)
  else if c = 112 ∨ c = 80 then match namedF R tab k0 (decide (c = 80)) (k + 1) with
    | .error e => .error e
    | .ok (l, k1) => .ok (l, none, k1)
  else if c = 120 then match codeF R k0 (k + 1) with
    | .error e => .error e
    | .ok (n, k1) => .ok ([((n : Int), (n : Int))], some (n : Int), k1)
  else if c = 110 then .ok ([(10, 10)], some 10, k + 1)
  else if c = 116 then .ok ([(9, 9)], some 9, k + 1)
  else if c = 114 then .ok ([(13, 13)], some 13, k + 1)
  else if c = 102 then .ok ([(12, 12)], some 12, k + 1)
  else if c = 118 then .ok ([(11, 11)], some 11, k + 1)
  else if c < 33 ∨ c > 126 ∨ isAln c = true then .error (20, k0)
  else .ok ([(c, c)], some c, k + 1)
def escF (R : List Int) (tab : List (ByteArray × List R2)) (k0 k : Nat) : PR (List R2 × Option Int × Nat) := escC R tab k0 k (lkR R k)
/-- A scalar or an escape in brackets. -/
def membF (R : List Int) (tab : List (ByteArray × List R2)) (op k : Nat) : PR (List R2 × Option Int × Nat) :=
  if lkR R k = -1 then .error (24, op)
  else if lkR R k = 92 then escF R tab k (k + 1)
  else .ok ([(lkR R k, lkR R k)], some (lkR R k), k + 1)
def itemF (R : List Int) (tab : List (ByteArray × List R2)) (op k : Nat) : PR (List R2 × Nat) := match membF R tab op k with
  | .error e => .error e
  | .ok (l, none, k1) => .ok (l, k1)
  | .ok (l, some a, k1) =>
    if lkR R k1 = 45 ∧ lkR R (k1 + 1) ≠ 93 then match membF R tab op (k1 + 1) with
      | .error e => .error e
      | .ok (_, none, _) => .error (22, k)
      | .ok (_, some b, k2) => if b < a then .error (22, k) else .ok ([(a, b)], k2)
    else .ok (l, k1)
/-- Items up to the bracket; the first one is known. -/
def itemsF (R : List Int) (tab : List (ByteArray × List R2)) (op : Nat) : Nat → Nat → List R2 → PR (List R2 × Nat)
  | 0, k, l => .ok (l, k)
  | f + 1, k, l => if lkR R k = 93 then .ok (l, k + 1) else match itemF R tab op k with
    | .error e => .error e
    | .ok (m, k1) => itemsF R tab op f k1 (l ++ m)
/-- What stands behind a `[`, and the bracket. -/
def class2 (R : List Int) (tab : List (ByteArray × List R2)) (op k : Nat) : PR (List R2 × Nat) := match itemF R tab op k with
  | .error e => .error e
  | .ok (m, k1) => itemsF R tab op (R.length + 1) k1 m
def turnC (neg : Bool) : PR (List R2 × Nat) → PR (List R2 × Nat)
  | .error e => .error e
  | .ok (l, k2) => .ok (if neg then notR l else cnR l, k2)
def classF (R : List Int) (tab : List (ByteArray × List R2)) (op k : Nat) : PR (List R2 × Nat) :=
  if lkR R k = 94 then turnC true (class2 R tab op (k + 1)) else turnC false (class2 R tab op k)

/-! ### Trees -/
/-- Where the parser is: the place, the flags, the names of the groups so far. -/
structure St where
  k : Nat
  f : Fl
  ns : List ByteArray
abbrev Sub := St → PR (Nd × St)
/-- Letters of flags, up to one that was there. -/
def letF (R : List Int) : Nat → Nat → Fl → Fl × Nat
  | 0, k, f => (f, k)
  | n + 1, k, f =>
    if lkR R k = 105 ∧ f.i = false then letF R n (k + 1) { f with i := true }
    else if lkR R k = 109 ∧ f.m = false then letF R n (k + 1) { f with m := true }
    else if lkR R k = 115 ∧ f.s = false then letF R n (k + 1) { f with s := true }
    else if lkR R k = 85 ∧ f.u = false then letF R n (k + 1) { f with u := true }
    else (f, k)
def fl0 : Fl := ⟨false, false, false, false⟩
def Fl.some (f : Fl) : Bool := f.i || f.m || f.s || f.u
def Fl.turn (f a b : Fl) : Fl := ⟨(f.i || a.i) && !b.i, (f.m || a.m) && !b.m, (f.s || a.s) && !b.s, (f.u || a.u) && !b.u⟩
/-- Flags: those that are set behind what stands here; is there a letter; the place. -/
def flagsF (R : List Int) (f : Fl) (k : Nat) : Fl × Bool × Nat :=
  let a := letF R 5 k fl0
  if lkR R a.2 = 45 then
    let b := letF R 5 (a.2 + 1) fl0
    (f.turn a.1 b.1, a.1.some || b.1.some, b.2)
  else (f.turn a.1 fl0, a.1.some, a.2)
/-- Alternatives up to the bracket that closes the one at a place. -/
def withF (R : List Int) (alt : Sub) (k0 : Nat) (st : St) (f : Fl) : PR (Nd × St) := match alt { st with f := f } with
  | .error e => .error e
  | .ok (x, s1) => if lkR R s1.k = 41 then .ok (x, ⟨s1.k + 1, st.f, s1.ns⟩) else .error (25, k0)
def groupF (R : List Int) (alt : Sub) (k0 : Nat) (st : St) (name : ByteArray) : PR (Nd × St) := match withF R alt k0 { st with ns := st.ns ++ [name] } st.f with
  | .error e => .error e
  | .ok (x, s1) => .ok (.grp st.ns.length name x, s1)
/-- Does a name stand among some? -/
def isIn (s : ByteArray) (ns : List ByteArray) : Bool := ns.any fun x => decide (x = s)
/-- A new group's name, behind (?P. -/
def nameF (R : List Int) (k0 : Nat) (ns : List ByteArray) (k : Nat) : PR (ByteArray × Nat) :=
  if lkR R k = 60 then
    let l := runF R isNam 32 (k + 1)
    if l ≠ [] ∧ lkR R (k + 1 + l.length) = 62 ∧ isIn (bytesI l) ns = false then .ok (bytesI l, k + 1 + l.length + 1) else .error (25, k0)
  else .error (25, k0)
def brackF (R : List Int) (sub : Option Sub) (st : St) : PR (Option Nd × St) := match sub with
  | none => .error (21, st.k)
  | some alt =>
    if lkR R (st.k + 1) = 63 then
      if lkR R (st.k + 2) = 80 then match nameF R st.k st.ns (st.k + 3) with
        | .error e => .error e
        | .ok (name, k1) => match groupF R alt st.k { st with k := k1 } name with
          | .error e => .error e
          | .ok (x, s1) => .ok (some x, s1)
      else if lkR R (st.k + 2) = 58 then match withF R alt st.k { st with k := st.k + 3 } st.f with
        | .error e => .error e
        | .ok (x, s1) => .ok (some x, s1)
      else
        let g := flagsF R st.f (st.k + 2)
        if g.2.1 = true ∧ lkR R g.2.2 = 58 then match withF R alt st.k { st with k := g.2.2 + 1 } g.1 with
          | .error e => .error e
          | .ok (x, s1) => .ok (some x, s1)
        else if g.2.1 = true ∧ lkR R g.2.2 = 41 then .ok (none, ⟨g.2.2 + 1, g.1, st.ns⟩)
        else .error (20, st.k)
    else match groupF R alt st.k { st with k := st.k + 1 } ⟨#[]⟩ with
      | .error e => .error e
      | .ok (x, s1) => .ok (some x, s1)
def lDot : List R2 := [(0, 9), (11, 1114111)]
def clsF (st : St) : PR (List R2 × Nat) → PR (Option Nd × St)
  | .error e => .error e
  | .ok (l, k1) => .ok (some (.cls st.f l), { st with k := k1 })
/-- An escape outside of brackets. -/
def strokeC (R : List Int) (tab : List (ByteArray × List R2)) (st : St) (c : Int) : PR (Option Nd × St) :=
  if c = 65 then .ok (some (.border 2), { st with k := st.k + 2 })
  else if c = 122 then .ok (some (.border 3), { st with k := st.k + 2 })
  else if c = 98 then .ok (some (.border 6), { st with k := st.k + 2 })
  else if c = 66 then .ok (some (.border 7), { st with k := st.k + 2 })
  else match escF R tab st.k (st.k + 1) with
    | .error e => .error e
    | .ok (l, _, k1) => .ok (some (.cls st.f (cnR l)), { st with k := k1 })
def strokeF (R : List Int) (tab : List (ByteArray × List R2)) (st : St) : PR (Option Nd × St) := strokeC R tab st (lkR R (st.k + 1))
/-- An atom; none: flags. -/
def atomC (R : List Int) (tab : List (ByteArray × List R2)) (sub : Option Sub) (st : St) (c : Int) : PR (Option Nd × St) :=
  if c = 40 then brackF R sub st
  else if c = 91 then clsF st (classF R tab st.k (st.k + 1))
  else if c = 92 then strokeF R tab st
  else if c = 46 then .ok (some (.cls st.f (if st.f.s then cnR lAny else cnR lDot)), { st with k := st.k + 1 })
  else if c = 94 then .ok (some (.border (if st.f.m then 4 else 2)), { st with k := st.k + 1 })
  else if c = 36 then .ok (some (.border (if st.f.m then 5 else 3)), { st with k := st.k + 1 })
  else .ok (some (.cls st.f (cnR [(c, c)])), { st with k := st.k + 1 })
def atomF (R : List Int) (tab : List (ByteArray × List R2)) (sub : Option Sub) (st : St) : PR (Option Nd × St) := atomC R tab sub st (lkR R st.k)
def endR (c : Int) : Bool := decide (c = -1) || decide (c = 124) || decide (c = 41)
/-- An atom with the quantifier behind it. -/
def repF (R : List Int) (x : Nd) (st : St) : PR (Nd × St) := match quantF R st.f.u st.k with
  | .error e => .error e
  | .ok none => .ok (x, st)
  | .ok (some (a, b, z, k1)) => .ok (.rep a b z x, { st with k := k1 })
def pieceF (R : List Int) (tab : List (ByteArray × List R2)) (sub : Option Sub) (st : St) : PR (Option Nd × St) := match boundF R st.k with
  | some _ => .error (23, st.k)
  | none => match atomF R tab sub st with
    | .error e => .error e
    | .ok (none, s1) => .ok (none, s1)
    | .ok (some x, s1) => match repF R x s1 with
      | .error e => .error e
      | .ok (y, s2) => .ok (some y, s2)
def rowF (R : List Int) (tab : List (ByteArray × List R2)) (sub : Option Sub) : Nat → St → List Nd → PR (List Nd × St)
  | 0, st, l => .ok (l, st)
  | f + 1, st, l => if endR (lkR R st.k) then .ok (l, st) else match pieceF R tab sub st with
    | .error e => .error e
    | .ok (none, s1) => rowF R tab sub f s1 l
    | .ok (some x, s1) => rowF R tab sub f s1 (l ++ [x])
def togeF (kind : Int) : List Nd → Nd
  | [] => .empty
  | [x] => x
  | x :: y :: l => .many kind (x :: y :: l)
def catF (R : List Int) (tab : List (ByteArray × List R2)) (sub : Option Sub) (st : St) : PR (Nd × St) := match rowF R tab sub (R.length + 1) st [] with
  | .error e => .error e
  | .ok (l, s1) => .ok (togeF 8 l, s1)
def altsF (R : List Int) (tab : List (ByteArray × List R2)) (sub : Option Sub) : Nat → St → List Nd → PR (Nd × St)
  | 0, st, l => .ok (togeF 9 l, st)
  | f + 1, st, l => if lkR R st.k = 124 then match catF R tab sub { st with k := st.k + 1 } with
      | .error e => .error e
      | .ok (x, s1) => altsF R tab sub f s1 (l ++ [x])
    else .ok (togeF 9 l, st)
def altB (R : List Int) (tab : List (ByteArray × List R2)) (sub : Option Sub) (st : St) : PR (Nd × St) := match catF R tab sub st with
  | .error e => .error e
  | .ok (x, s1) => altsF R tab sub (R.length + 1) s1 [x]
/-- Alternatives; so many brackets may stand around one another in them. -/
def altN (R : List Int) (tab : List (ByteArray × List R2)) : Nat → Sub
  | 0 => altB R tab none
  | n + 1 => altB R tab (some (altN R tab n))
/-- The whole text. -/
def patF (R : List Int) (tab : List (ByteArray × List R2)) (f : Fl) : PR (Nd × List ByteArray) := match altN R tab 32 ⟨0, f, [⟨#[]⟩]⟩ with
  | .error e => .error e
  | .ok (x, s1) => if lkR R s1.k = -1 then .ok (x, s1.ns) else .error (25, s1.k)
end Go.Proofs.YtdhhcefmmojcmaaGreatDoor
