/- Texts of this proof, one behind the other: what each says stands ahead of it. -/
import Derived.Test.YtnngemdpoemhgaaDoorM6
import Derived.Test.YtnngemdpoemhgaaDoorM7
import Derived.Test.YtnngemdpoemhgaaDoorM4
/- Perl of the six letters: what it answers; no condition. -/
namespace Go.Proofs.YtnngemdpoemhgaaDoor
open Go.RowKit

theorem ls_one {w : World} {a : Option Addr} {c : Nat} {l : List R2} (t : TypeId) (h : Rg w a l) : Ls (w.alloc (.cells #[.slice a l.length c] t)) w.heap.size [l] := by
  refine ⟨by simp, fun i hi => ?_⟩
  obtain rfl : i = 0 := by simpa using hi
  refine ⟨a, c, ?_, h.new ((Touch.refl _ w).alloc _)⟩
  rw [World.cell?_alloc_at _ _ _ _ (by simp)]
  rfl
theorem ls_three {w : World} {a1 a2 a3 : Option Addr} {c1 c2 c3 : Nat} {l m n : List R2} (t : TypeId) (h1 : Rg w a1 l) (h2 : Rg w a2 m) (h3 : Rg w a3 n) : Ls (w.alloc (.cells #[.slice a1 l.length c1, .slice a2 m.length c2, .slice a3 n.length c3] t)) w.heap.size [l, m, n] := by
  refine ⟨by simp, fun i hi => ?_⟩
  simp only [List.length_cons, List.length_nil] at hi
  have T := (Touch.refl (fun _ => False) w).alloc (.cells #[.slice a1 l.length c1, .slice a2 m.length c2, .slice a3 n.length c3] t)
  match i, hi with
  | 0, _ => exact ⟨a1, c1, by rw [World.cell?_alloc_at _ _ _ _ (by simp)]; rfl, h1.new T⟩
  | 1, _ => exact ⟨a2, c2, by rw [World.cell?_alloc_at _ _ _ _ (by simp)]; rfl, h2.new T⟩
  | 2, _ => exact ⟨a3, c3, by rw [World.cell?_alloc_at _ _ _ _ (by simp)]; rfl, h3.new T⟩

def lL : List R2 := lLu ++ lLl ++ lLo
set_option maxRecDepth 100000 in
set_option maxHeartbeats 4000000 in
theorem spans_L (w : World) : Calls Tryd.prog 29 #[.string ⟨#[76]⟩] w fun e w' => ∃ a c, e = .returned (.slice a lL.length c) ∧ Rg w' a lL ∧ Touch (fun _ => False) w w' := by
  go_enter Tryd.func29, Tryd.ntmps29
  go_wp2_with fail
  refine (spans_Lu w).mono ?_
  rintro e w1 ⟨a1, c1, rfl, r1, t1⟩
  have R1 := hid r1
  have T1 := hid t1
  clear r1 t1
  go_wp2_with fail
  refine (spans_Ll w1).mono ?_
  rintro e w2 ⟨a2, c2, rfl, r2, t2⟩
  have R2 := hid r2
  replace R1 := hid (R1.out.new t2)
  replace T1 := hid (T1.out.trans t2 (fun _ _ e => e))
  clear r2 t2
  go_wp2_with fail
  refine (spans_Lo w2).mono ?_
  rintro e w3 ⟨a3, c3, rfl, r3, t3⟩
  replace R1 := hid (R1.out.new t3)
  replace R2 := hid (R2.out.new t3)
  replace T1 := hid (T1.out.trans t3 (fun _ _ e => e))
  have LS := hid (ls_three (c1 := c1) (c2 := c2) (c3 := c3) 55 R1.out R2.out r3)
  replace T1 := hid (T1.out.alloc (.cells #[.slice a1 lLu.length c1, .slice a2 lLl.length c2, .slice a3 lLo.length c3] 55))
  clear r3 t3 R1 R2
  go_wp2_with fail
  generalize (w3.alloc (.cells #[.slice a1 lLu.length c1, .slice a2 lLl.length c2, .slice a3 lLo.length c3] 55)) = w4 at *
  refine (concatS_any w3.heap.size 3 [lLu, lLl, lLo] w4 LS.out (by decide) (by decide)).mono ?_
  rintro e w5 ⟨v, rfl, ow⟩
  obtain ⟨a, c, hv, hrg⟩ := ow.rg
  subst hv
  replace T1 := hid (T1.out.trans ow.touch (fun _ _ e => e))
  have RG := hid hrg
  clear ow hrg LS
  go_wp2
  go_ret
  exact ⟨a, c, rfl, RG.out, T1.out⟩

/-- What Perl answers: a set of some numbers. -/
def Perls (c : Nat) (l : List R2) (neg : Bool) : Prop := ∀ w : World, Calls Tryd.prog 17 #[.int .u8 c] w fun e w' => ∃ v s, e = .returned (.tuple #[v, .bool true]) ∧ Canon s ∧ (∀ x, In x s ↔ (0 ≤ x ∧ x ≤ 1114111) ∧ (if neg then ¬ In x l else In x l)) ∧ OwE w w' 33 v s

set_option maxRecDepth 100000 in
set_option maxHeartbeats 4000000 in
theorem perl_d : Perls 100 lNd false := by
  intro w
  go_enter Tryd.func17, Tryd.ntmps17
  go_wp2_with fail
  refine (spans_Nd w).mono ?_
  rintro e w1 ⟨a1, c1, rfl, r1, t1⟩
  have LS := hid (ls_one (c := c1) 55 r1)
  have T1 := hid (t1.alloc (.cells #[.slice a1 lNd.length c1] 55))
  clear r1 t1
  go_wp2_with fail
  generalize (w1.alloc (.cells #[.slice a1 lNd.length c1] 55)) = w2 at *
  refine (setOf_any w1.heap.size 1 [lNd] w2 LS.out (by decide) (by decide)).mono ?_
  rintro e w3 ⟨v, s, rfl, hcn, hin, ow⟩
  have OW := hid ow
  have HCN := hid hcn
  have HIN := hid hin
  obtain ⟨a, c, hv⟩ := own_shape ow.own
  subst hv
  clear ow hcn hin LS
  go_wp2
  go_ret2
  exact ⟨_, rfl, s, HCN.out, fun x => by rw [HIN.out x]; simp [List.flatten], ⟨OW.out.own, fun g e => Nat.le_trans T1.out.size (OW.out.new g e), T1.out.trans OW.out.touch (fun _ _ e => e)⟩⟩

set_option maxRecDepth 100000 in
set_option maxHeartbeats 4000000 in
theorem perl_s : Perls 115 lBl false := by
  intro w
  go_enter Tryd.func17, Tryd.ntmps17
  go_wp2_with fail
  refine (blanks_any w).mono ?_
  rintro e w1 ⟨a1, c1, rfl, r1, t1⟩
  have LS := hid (ls_one (c := c1) 55 r1)
  have T1 := hid (t1.alloc (.cells #[.slice a1 lBl.length c1] 55))
  clear r1 t1
  go_wp2_with fail
  generalize (w1.alloc (.cells #[.slice a1 lBl.length c1] 55)) = w2 at *
  refine (setOf_any w1.heap.size 1 [lBl] w2 LS.out (by decide) (by decide)).mono ?_
  rintro e w3 ⟨v, s, rfl, hcn, hin, ow⟩
  have OW := hid ow
  have HCN := hid hcn
  have HIN := hid hin
  obtain ⟨a, c, hv⟩ := own_shape ow.own
  subst hv
  clear ow hcn hin LS
  go_wp2
  go_ret2
  exact ⟨_, rfl, s, HCN.out, fun x => by rw [HIN.out x]; simp [List.flatten], ⟨OW.out.own, fun g e => Nat.le_trans T1.out.size (OW.out.new g e), T1.out.trans OW.out.touch (fun _ _ e => e)⟩⟩

def lW : List R2 := lL ++ lNd ++ lPc
set_option maxRecDepth 100000 in
set_option maxHeartbeats 4000000 in
theorem perl_w : Perls 119 lW false := by
  intro w
  go_enter Tryd.func17, Tryd.ntmps17
  go_wp2_with fail
  refine (spans_L w).mono ?_
  rintro e w1 ⟨a1, c1, rfl, r1, t1⟩
  have R1 := hid r1
  have T1 := hid t1
  clear r1 t1
  go_wp2_with fail
  refine (spans_Nd w1).mono ?_
  rintro e w2 ⟨a2, c2, rfl, r2, t2⟩
  have R2 := hid r2
  replace R1 := hid (R1.out.new t2)
  replace T1 := hid (T1.out.trans t2 (fun _ _ e => e))
  clear r2 t2
  go_wp2_with fail
  refine (spans_Pc w2).mono ?_
  rintro e w3 ⟨a3, c3, rfl, r3, t3⟩
  replace R1 := hid (R1.out.new t3)
  replace R2 := hid (R2.out.new t3)
  replace T1 := hid (T1.out.trans t3 (fun _ _ e => e))
  have LS := hid (ls_three (c1 := c1) (c2 := c2) (c3 := c3) 55 R1.out R2.out r3)
  replace T1 := hid (T1.out.alloc (.cells #[.slice a1 lL.length c1, .slice a2 lNd.length c2, .slice a3 lPc.length c3] 55))
  clear r3 t3 R1 R2
  go_wp2_with fail
  generalize (w3.alloc (.cells #[.slice a1 lL.length c1, .slice a2 lNd.length c2, .slice a3 lPc.length c3] 55)) = w4 at *
  refine (setOf_any w3.heap.size 3 [lL, lNd, lPc] w4 LS.out (by decide) (by decide)).mono ?_
  rintro e w5 ⟨v, s, rfl, hcn, hin, ow⟩
  have OW := hid ow
  have HCN := hid hcn
  have HIN := hid hin
  obtain ⟨a, c, hv⟩ := own_shape ow.own
  subst hv
  clear ow hcn hin LS
  go_wp2
  go_ret2
  exact ⟨_, rfl, s, HCN.out, fun x => by rw [HIN.out x]; simp [List.flatten, lW], ⟨OW.out.own, fun g e => Nat.le_trans T1.out.size (OW.out.new g e), T1.out.trans OW.out.touch (fun _ _ e => e)⟩⟩

set_option maxRecDepth 100000 in
set_option maxHeartbeats 4000000 in
theorem perl_D : Perls 68 lNd true := by
  intro w
  have K := hid (perl_d w)
  go_enter Tryd.func17, Tryd.ntmps17
  go_wp2_with fail
  refine K.out.mono ?_
  rintro e w1 ⟨v, s, rfl, hcn, hin, ow⟩
  obtain ⟨a, c, hv, hrg⟩ := ow.rg
  subst hv
  have T1 := hid ow.touch
  have HIN := hid hin
  have KN := hid (not_says a c s w1 hrg hcn)
  clear ow hcn hin hrg K
  go_wp2_with fail
  refine KN.out.mono ?_
  rintro e w2 ⟨v, n, rfl, hcn, hin, ow⟩
  have OW := hid ow
  have HCN := hid hcn
  have HI2 := hid hin
  obtain ⟨a', c', hv⟩ := own_shape ow.own
  subst hv
  clear ow hcn hin KN
  go_wp2
  go_ret2
  refine ⟨_, rfl, n, HCN.out, fun x => ?_, ⟨OW.out.own, fun g e => Nat.le_trans T1.out.size (OW.out.new g e), T1.out.trans OW.out.touch (fun _ _ e => e)⟩⟩
  rw [HI2.out x, HIN.out x]
  simp only [Bool.false_eq_true, if_false]
  constructor
  · exact fun h => ⟨h.1, fun k => h.2 ⟨h.1, k⟩⟩
  · exact fun h => ⟨h.1, fun k => h.2 k.2⟩

set_option maxRecDepth 100000 in
set_option maxHeartbeats 4000000 in
theorem perl_S : Perls 83 lBl true := by
  intro w
  have K := hid (perl_s w)
  go_enter Tryd.func17, Tryd.ntmps17
  go_wp2_with fail
  refine K.out.mono ?_
  rintro e w1 ⟨v, s, rfl, hcn, hin, ow⟩
  obtain ⟨a, c, hv, hrg⟩ := ow.rg
  subst hv
  have T1 := hid ow.touch
  have HIN := hid hin
  have KN := hid (not_says a c s w1 hrg hcn)
  clear ow hcn hin hrg K
  go_wp2_with fail
  refine KN.out.mono ?_
  rintro e w2 ⟨v, n, rfl, hcn, hin, ow⟩
  have OW := hid ow
  have HCN := hid hcn
  have HI2 := hid hin
  obtain ⟨a', c', hv⟩ := own_shape ow.own
  subst hv
  clear ow hcn hin KN
  go_wp2
  go_ret2
  refine ⟨_, rfl, n, HCN.out, fun x => ?_, ⟨OW.out.own, fun g e => Nat.le_trans T1.out.size (OW.out.new g e), T1.out.trans OW.out.touch (fun _ _ e => e)⟩⟩
  rw [HI2.out x, HIN.out x]
  simp only [Bool.false_eq_true, if_false]
  constructor
  · exact fun h => ⟨h.1, fun k => h.2 ⟨h.1, k⟩⟩
  · exact fun h => ⟨h.1, fun k => h.2 k.2⟩

set_option maxRecDepth 100000 in
set_option maxHeartbeats 4000000 in
theorem perl_W : Perls 87 lW true := by
  intro w
  have K := hid (perl_w w)
  go_enter Tryd.func17, Tryd.ntmps17
  go_wp2_with fail
  refine K.out.mono ?_
  rintro e w1 ⟨v, s, rfl, hcn, hin, ow⟩
  obtain ⟨a, c, hv, hrg⟩ := ow.rg
  subst hv
  have T1 := hid ow.touch
  have HIN := hid hin
  have KN := hid (not_says a c s w1 hrg hcn)
  clear ow hcn hin hrg K
  go_wp2_with fail
  refine KN.out.mono ?_
  rintro e w2 ⟨v, n, rfl, hcn, hin, ow⟩
  have OW := hid ow
  have HCN := hid hcn
  have HI2 := hid hin
  obtain ⟨a', c', hv⟩ := own_shape ow.own
  subst hv
  clear ow hcn hin KN
  go_wp2
  go_ret2
  refine ⟨_, rfl, n, HCN.out, fun x => ?_, ⟨OW.out.own, fun g e => Nat.le_trans T1.out.size (OW.out.new g e), T1.out.trans OW.out.touch (fun _ _ e => e)⟩⟩
  rw [HI2.out x, HIN.out x]
  simp only [Bool.false_eq_true, if_false]
  constructor
  · exact fun h => ⟨h.1, fun k => h.2 ⟨h.1, k⟩⟩
  · exact fun h => ⟨h.1, fun k => h.2 k.2⟩

end Go.Proofs.YtnngemdpoemhgaaDoor

/- How many numbers a list of ranges has, plain facts; no condition beside those told. -/
namespace Go.Proofs.YtnngemdpoemhgaaDoor

def hasB (x : Int) (s : List R2) : Bool := s.any fun r => decide (r.1 ≤ x) && decide (x ≤ r.2)
theorem hasB_iff {x : Int} {s : List R2} : hasB x s = true ↔ In x s := by
  unfold hasB In
  simp [List.any_eq_true]
theorem hasB_eq {x : Int} {s : List R2} {p : Bool} (h : In x s ↔ p = true) : hasB x s = p := by
  rw [Bool.eq_iff_iff, hasB_iff, h]

def cnt (N : Nat) (p : Nat → Bool) : Nat := (List.range N).countP p
theorem cnt_zero (p : Nat → Bool) : cnt 0 p = 0 := rfl
theorem cnt_succ (N : Nat) (p : Nat → Bool) : cnt (N + 1) p = cnt N p + (if p N = true then 1 else 0) := by
  unfold cnt
  rw [List.range_succ, List.countP_append, List.countP_singleton]
theorem cnt_or (p q : Nat → Bool) : ∀ N, cnt N (fun i => p i || q i) + cnt N (fun i => p i && q i) = cnt N p + cnt N q
  | 0 => rfl
  | N + 1 => by
    have := cnt_or p q N
    rw [cnt_succ, cnt_succ, cnt_succ, cnt_succ]
    cases p N <;> cases q N <;> simp <;> omega
theorem cnt_not (p : Nat → Bool) : ∀ N, cnt N p + cnt N (fun i => !p i) = N
  | 0 => rfl
  | N + 1 => by
    have := cnt_not p N
    rw [cnt_succ, cnt_succ]
    cases p N <;> simp <;> omega
theorem cnt_none (p : Nat → Bool) (h : ∀ i, p i = false) : ∀ N, cnt N p = 0
  | 0 => rfl
  | N + 1 => by rw [cnt_succ, cnt_none p h N, h N]; rfl
theorem cnt_same (p q : Nat → Bool) : ∀ N, (∀ i, i < N → p i = q i) → cnt N p = cnt N q
  | 0, _ => rfl
  | N + 1, h => by rw [cnt_succ, cnt_succ, cnt_same p q N (fun i hi => h i (by omega)), h N (by omega)]
theorem cnt_le (p q : Nat → Bool) : ∀ N, (∀ i, i < N → p i = true → q i = true) → cnt N p ≤ cnt N q
  | 0, _ => Nat.le_refl _
  | N + 1, h => by
    have h1 := cnt_le p q N (fun i hi => h i (by omega))
    have h2 := h N (by omega)
    rw [cnt_succ, cnt_succ]
    cases hp : p N
    · simp; omega
    · rw [h2 hp]; simp; omega
theorem cnt_iv_at (a b : Int) (ha : 0 ≤ a) (hab : a ≤ b + 1) : ∀ N : Nat, (cnt N (fun i => decide (a ≤ (i : Int)) && decide ((i : Int) ≤ b)) : Int) = min (N : Int) (b + 1) - min (N : Int) a
  | 0 => by rw [cnt_zero]; omega
  | N + 1 => by
    have := cnt_iv_at a b ha hab N
    rw [cnt_succ]
    by_cases h1 : a ≤ (N : Int) <;> by_cases h2 : (N : Int) ≤ b
    · simp only [h1, h2, decide_true, Bool.and_self, if_true]
      omega
    · simp only [h1, h2, decide_true, decide_false, Bool.and_false, Bool.false_eq_true, if_false]
      omega
    · simp only [h1, h2, decide_true, decide_false, Bool.false_and, Bool.false_eq_true, if_false]
      omega
    · simp only [h1, h2, decide_false, Bool.false_and, Bool.false_eq_true, if_false]
      omega
def sizeL (s : List R2) : Int := (s.map fun r => r.2 - r.1 + 1).sum
theorem sizeL_nil : sizeL [] = 0 := rfl
theorem sizeL_cons (r : R2) (s : List R2) : sizeL (r :: s) = (r.2 - r.1 + 1) + sizeL s := by simp [sizeL]
theorem sizeL_append (s t : List R2) : sizeL (s ++ t) = sizeL s + sizeL t := by simp [sizeL]

theorem size_cnt_at (N : Nat) : ∀ s : List R2, (∀ r ∈ s, 0 ≤ r.1 ∧ r.1 ≤ r.2 ∧ r.2 < N) → s.Pairwise (fun a b => a.2 + 1 < b.1) → sizeL s = (cnt N (fun i => hasB i s) : Nat)
  | [], _, _ => by
    rw [cnt_none _ (fun i => by simp [hasB]) N]
    rfl
  | r :: s, hin, hup => by
    have hp := List.pairwise_cons.1 hup
    have hr := hin r (by simp)
    have ih := size_cnt_at N s (fun a ha => hin a (by simp [ha])) hp.2
    have h1 := cnt_or (fun i => decide (r.1 ≤ (i : Int)) && decide ((i : Int) ≤ r.2)) (fun i => hasB i s) N
    have h2 : cnt N (fun i => (decide (r.1 ≤ (i : Int)) && decide ((i : Int) ≤ r.2)) && hasB i s) = 0 := by
      refine cnt_none _ (fun i => ?_) N
      by_cases h : (decide (r.1 ≤ (i : Int)) && decide ((i : Int) ≤ r.2)) = true
      · by_cases k : hasB (i : Int) s = true
        · obtain ⟨q, hq, h3, _⟩ := hasB_iff.1 k
          have := hp.1 q hq
          simp only [Bool.and_eq_true, decide_eq_true_eq] at h
          omega
        · simp [k]
      · rw [Bool.not_eq_true] at h
        simp [h]
    have h3 := cnt_iv_at r.1 r.2 hr.1 (by omega) N
    have h4 : cnt N (fun i => hasB i (r :: s)) = cnt N (fun i => (decide (r.1 ≤ (i : Int)) && decide ((i : Int) ≤ r.2)) || hasB i s) := by
      refine cnt_same _ _ N (fun i _ => ?_)
      simp [hasB]
    rw [sizeL_cons, h4, ih]
    rw [h2] at h1
    omega

theorem size_cnt {s : List R2} (h : Canon s) : sizeL s = (cnt 1114112 (fun i => hasB i s) : Nat) := by
  refine size_cnt_at 1114112 s (fun r hr => ?_) h.up
  have := h.in_ r hr
  unfold inB at this
  exact ⟨this.1, by omega, by omega⟩
theorem cnt_top (N : Nat) (p : Nat → Bool) : cnt N p ≤ N := by
  have := cnt_not p N
  omega
theorem sizeL_pos {s : List R2} (h : Canon s) : 0 ≤ sizeL s ∧ sizeL s ≤ 1114112 := by
  rw [size_cnt h]
  have := cnt_top 1114112 (fun i => hasB i s)
  omega
theorem size_not {s n : List R2} (h : Canon s) (k : Canon n) (hn : ∀ x, In x n ↔ (0 ≤ x ∧ x ≤ 1114111) ∧ ¬ In x s) : sizeL s + sizeL n = 1114112 := by
  rw [size_cnt h, size_cnt k, cnt_same (fun i => hasB i n) (fun i => !hasB i s) 1114112 (fun i hi => ?_)]
  · have := cnt_not (fun i => hasB i s) 1114112
    omega
  · refine hasB_eq ?_
    rw [hn, Bool.not_eq_true', ← Bool.not_eq_true, hasB_iff]
    constructor
    · exact fun h => h.2
    · exact fun h => ⟨by omega, h⟩
theorem size_or {s t o a : List R2} (hs : Canon s) (ht : Canon t) (ho : Canon o) (ha : Canon a) (h1 : ∀ x, In x o ↔ In x s ∨ In x t) (h2 : ∀ x, In x a ↔ In x s ∧ In x t) : sizeL o = sizeL s + sizeL t - sizeL a := by
  have := cnt_or (fun i => hasB i s) (fun i => hasB i t) 1114112
  rw [size_cnt hs, size_cnt ht, size_cnt ho, size_cnt ha,
    cnt_same (fun i => hasB i o) (fun i => hasB i s || hasB i t) 1114112 (fun i hi => hasB_eq (by rw [h1, Bool.or_eq_true, hasB_iff, hasB_iff])),
    cnt_same (fun i => hasB i a) (fun i => hasB i s && hasB i t) 1114112 (fun i hi => hasB_eq (by rw [h2, Bool.and_eq_true, hasB_iff, hasB_iff]))]
  omega
end Go.Proofs.YtnngemdpoemhgaaDoor
