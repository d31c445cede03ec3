/- Texts of this proof, one behind the other: what each says stands ahead of it. -/
import Derived.Test.YtnngemdpoemhgaaDoorM1
import Derived.Test.YtnngemdpoemhgaaDoorRows
import Derived.OpenShut
import Derived.ChangeArms
import Derived.Test.YtnngemdpoemhgaaDoorM0
/- Plain facts on lists of ranges: joined ranges rise and don't touch, and such a list is told by its numbers; no condition beside those told. -/
namespace Go.Proofs.YtnngemdpoemhgaaDoor

def In (x : Int) (l : List R2) : Prop := ∃ r ∈ l, r.1 ≤ x ∧ x ≤ r.2
structure Canon (s : List R2) : Prop where
  in_ : ∀ r ∈ s, inB r
  up : s.Pairwise (fun a b => a.2 + 1 < b.1)

theorem in_nil (x : Int) : ¬ In x [] := fun ⟨_, h, _⟩ => by simp at h
theorem in_append {x : Int} {l m : List R2} : In x (l ++ m) ↔ In x l ∨ In x m := by
  unfold In
  constructor
  · rintro ⟨r, hr, h⟩
    rcases List.mem_append.1 hr with k | k
    · exact .inl ⟨r, k, h⟩
    · exact .inr ⟨r, k, h⟩
  · rintro (⟨r, hr, h⟩ | ⟨r, hr, h⟩)
    · exact ⟨r, List.mem_append.2 (.inl hr), h⟩
    · exact ⟨r, List.mem_append.2 (.inr hr), h⟩
theorem in_one {x : Int} {r : R2} : In x [r] ↔ r.1 ≤ x ∧ x ≤ r.2 := by
  unfold In
  simp
theorem in_cons {x : Int} {r : R2} {l : List R2} : In x (r :: l) ↔ (r.1 ≤ x ∧ x ≤ r.2) ∨ In x l := by
  have := @in_append x [r] l
  rw [in_one] at this
  simpa using this
theorem in_perm {x : Int} {l m : List R2} (h : l.Perm m) : In x l ↔ In x m := by
  unfold In
  constructor
  · rintro ⟨r, hr, k⟩; exact ⟨r, h.mem_iff.1 hr, k⟩
  · rintro ⟨r, hr, k⟩; exact ⟨r, h.mem_iff.2 hr, k⟩

theorem jstep_good {s : List R2} {r : R2} (hs : Canon s) (hr : inB r) (hle : ∀ a ∈ s, a.1 ≤ r.1) : Canon (jstep s r) ∧ (∀ x, In x (jstep s r) ↔ In x s ∨ (r.1 ≤ x ∧ x ≤ r.2)) ∧ (∀ q : Int, r.1 ≤ q → ∀ a ∈ jstep s r, a.1 ≤ q) := by
  rcases List.eq_nil_or_concat s with h | ⟨s0, t, h⟩
  · subst h
    have e : jstep [] r = [r] := rfl
    rw [e]
    refine ⟨⟨by simpa using hr, List.pairwise_singleton _ _⟩, fun x => ?_, fun q hq a ha => ?_⟩
    · rw [in_one]
      constructor
      · exact .inr
      · rintro (h | h)
        · exact absurd h (in_nil x)
        · exact h
    · simp only [List.mem_singleton] at ha
      rw [ha]
      exact hq
  · rw [List.concat_eq_append] at h
    subst h
    obtain ⟨t1, t2⟩ := t
    obtain ⟨x1, x2⟩ := r
    have ht := hs.in_ (t1, t2) (by simp)
    have hl := hle (t1, t2) (by simp)
    have hup := List.pairwise_append.1 hs.up
    unfold inB at ht hr
    dsimp only at ht hr hl
    by_cases c : x1 ≤ t2 + 1
    · have e := jstep_join s0 t1 t2 x1 x2 c
      refine ⟨⟨jstep_in hs.in_ hr, ?_⟩, fun x => ?_, fun q hq a ha => ?_⟩
      · rw [e, List.pairwise_append]
        refine ⟨hup.1, List.pairwise_singleton _ _, fun a ha b hb => ?_⟩
        simp only [List.mem_singleton] at hb
        have := hup.2.2 a ha (t1, t2) (by simp)
        rw [hb]
        exact this
      · rw [e, in_append, in_append, in_one, in_one]
        dsimp only
        constructor
        · rintro (h | h)
          · exact .inl (.inl h)
          · rcases Int.lt_or_le t2 x with k | k
            · exact .inr ⟨by omega, by omega⟩
            · exact .inl (.inr ⟨h.1, k⟩)
        · rintro ((h | h) | h)
          · exact .inl h
          · exact .inr ⟨h.1, by omega⟩
          · exact .inr ⟨by omega, by omega⟩
      · rw [e] at ha
        dsimp only at hq
        rcases List.mem_append.1 ha with h | h
        · have := hle a (List.mem_append.2 (.inl h))
          dsimp only at this
          omega
        · simp only [List.mem_singleton] at h
          rw [h]
          dsimp only
          omega
    · have e := jstep_more s0 t1 t2 x1 x2 c
      refine ⟨⟨jstep_in hs.in_ hr, ?_⟩, fun x => ?_, fun q hq a ha => ?_⟩
      · rw [e, List.pairwise_append]
        refine ⟨hs.up, List.pairwise_singleton _ _, fun a ha b hb => ?_⟩
        simp only [List.mem_singleton] at hb
        rw [hb]
        dsimp only
        rcases List.mem_append.1 ha with h | h
        · have := hup.2.2 a h (t1, t2) (by simp)
          dsimp only at this
          omega
        · simp only [List.mem_singleton] at h
          rw [h]
          dsimp only
          omega
      · rw [e, in_append, in_one]
      · rw [e] at ha
        dsimp only at hq
        rcases List.mem_append.1 ha with h | h
        · have := hle a h
          dsimp only at this
          omega
        · simp only [List.mem_singleton] at h
          rw [h]
          exact hq

theorem fold_good : ∀ (m s : List R2), Canon s → (∀ r ∈ m, inB r) → m.Pairwise (fun a b => a.1 ≤ b.1) → (∀ a ∈ s, ∀ r ∈ m, a.1 ≤ r.1) → Canon (m.foldl jstep s) ∧ ∀ x, In x (m.foldl jstep s) ↔ In x s ∨ In x m
  | [], s, h, _, _, _ => ⟨h, fun x => by simp [in_nil]⟩
  | r :: m, s, h, hin, hup, hle => by
    have hp := List.pairwise_cons.1 hup
    obtain ⟨g1, g2, g3⟩ := jstep_good h (hin r (by simp)) (fun a ha => hle a ha r (by simp))
    have ih := fold_good m (jstep s r) g1 (fun q hq => hin q (by simp [hq])) hp.2 (fun a ha q hq => g3 q.1 (hp.1 q hq) a ha)
    refine ⟨ih.1, fun x => ?_⟩
    rw [List.foldl_cons, ih.2 x, g2 x, in_cons, or_assoc]

theorem joined_good {m : List R2} (hin : ∀ r ∈ m, inB r) (hup : m.Pairwise (fun a b => a.1 ≤ b.1)) : Canon (joinedL m) ∧ ∀ x, In x (joinedL m) ↔ In x m := by
  have := fold_good m [] ⟨by simp, .nil⟩ hin hup (by simp)
  refine ⟨this.1, fun x => ?_⟩
  rw [show joinedL m = m.foldl jstep [] from rfl, this.2 x]
  simp [in_nil]

theorem in_within (l : List R2) (x : Int) : In x (withinL l) ↔ (0 ≤ x ∧ x ≤ 1114111) ∧ In x l := by
  unfold In withinL
  simp only [List.mem_map, List.mem_filter, keeps, clip]
  constructor
  · rintro ⟨r, ⟨y, ⟨hy, _⟩, rfl⟩, h1, h2⟩
    dsimp only at h1 h2
    exact ⟨by omega, y, hy, by omega, by omega⟩
  · rintro ⟨h, y, hy, h1, h2⟩
    exact ⟨_, ⟨y, ⟨hy, decide_eq_true (by omega)⟩, rfl⟩, by dsimp only; omega, by dsimp only; omega⟩

/-- Two such lists that have the same numbers are one. -/
theorem canon_one : ∀ {s t : List R2}, Canon s → Canon t → (∀ x, In x s ↔ In x t) → s = t
  | [], [], _, _, _ => rfl
  | [], (c, d) :: t, _, ht, h => by
    have := ht.in_ (c, d) (by simp)
    unfold inB at this
    dsimp only at this
    exact absurd ((h c).2 (in_cons.2 (.inl ⟨Int.le_refl _, by dsimp only; omega⟩))) (in_nil c)
  | (a, b) :: s, [], hs, _, h => by
    have := hs.in_ (a, b) (by simp)
    unfold inB at this
    dsimp only at this
    exact absurd ((h a).1 (in_cons.2 (.inl ⟨Int.le_refl _, by dsimp only; omega⟩))) (in_nil a)
  | (a, b) :: s, (c, d) :: t, hs, ht, h => by
    have ha := hs.in_ (a, b) (by simp)
    have hc := ht.in_ (c, d) (by simp)
    have ps := List.pairwise_cons.1 hs.up
    have pt := List.pairwise_cons.1 ht.up
    unfold inB at ha hc
    dsimp only at ha hc ps pt
    have above_s : ∀ x, In x s → b + 1 < x := fun x ⟨r, hr, h1, _⟩ => by have := ps.1 r hr; omega
    have above_t : ∀ x, In x t → d + 1 < x := fun x ⟨r, hr, h1, _⟩ => by have := pt.1 r hr; omega
    have low_s : ∀ x, In x ((a, b) :: s) → a ≤ x := fun x hx => by
      rcases in_cons.1 hx with h | h
      · exact h.1
      · have := above_s x h; omega
    have low_t : ∀ x, In x ((c, d) :: t) → c ≤ x := fun x hx => by
      rcases in_cons.1 hx with h | h
      · exact h.1
      · have := above_t x h; omega
    have e1 : a = c := by
      have h1 := low_t a ((h a).1 (in_cons.2 (.inl ⟨Int.le_refl _, by dsimp only; omega⟩)))
      have h2 := low_s c ((h c).2 (in_cons.2 (.inl ⟨Int.le_refl _, by dsimp only; omega⟩)))
      omega
    subst e1
    have e2 : b = d := by
      rcases Int.lt_trichotomy b d with k | k | k
      · have := (h (b + 1)).2 (in_cons.2 (.inl ⟨by dsimp only; omega, by dsimp only; omega⟩))
        rcases in_cons.1 this with q | q
        · dsimp only at q; omega
        · have := above_s _ q; omega
      · exact k
      · have := (h (d + 1)).1 (in_cons.2 (.inl ⟨by dsimp only; omega, by dsimp only; omega⟩))
        rcases in_cons.1 this with q | q
        · dsimp only at q; omega
        · have := above_t _ q; omega
    subst e2
    have := canon_one (s := s) (t := t) ⟨fun r hr => hs.in_ r (by simp [hr]), ps.2⟩ ⟨fun r hr => ht.in_ r (by simp [hr]), pt.2⟩ (fun x => by
      constructor
      · intro hx
        have h1 := above_s x hx
        rcases in_cons.1 ((h x).1 (in_cons.2 (.inr hx))) with q | q
        · dsimp only at q; omega
        · exact q
      · intro hx
        have h1 := above_t x hx
        rcases in_cons.1 ((h x).2 (in_cons.2 (.inr hx))) with q | q
        · dsimp only at q; omega
        · exact q)
    rw [this]

/-- What Of answers. -/
theorem of_says (a : Option Addr) (cap : Nat) (l : List R2) (w : World) (hl : Rg w a l) (hb : l.length * 16 ≤ 140737488351232) :
    Calls Tryd.prog 14 #[.slice a l.length cap] w fun e w' => ∃ v s, e = .returned v ∧ Canon s ∧ (∀ x, In x s ↔ (0 ≤ x ∧ x ≤ 1114111) ∧ In x l) ∧ Ow w w' 27 v s := by
  refine (of_any a cap l w hl hb).mono ?_
  rintro e w' ⟨v, m, rfl, hp, hsd, ow⟩
  have hg := joined_good (m := m) (fun r hr => within_in l r (hp.mem_iff.1 hr)) hsd
  exact ⟨v, joinedL m, rfl, hg.1, fun x => by rw [hg.2 x, in_perm hp, in_within], ow⟩
end Go.Proofs.YtnngemdpoemhgaaDoor

/- How many numbers a list of ranges has, plain facts; no condition beside those told. -/
namespace Go.Proofs.YtnngemdpoemhgaaDoor

def hasB (x : Int) (s : List R2) : Bool := s.any fun r => decide (r.1 ≤ x) && decide (x ≤ r.2)
theorem hasB_iff {x : Int} {s : List R2} : hasB x s = true ↔ In x s := by
  unfold hasB In
  simp [List.any_eq_true]
theorem hasB_eq {x : Int} {s : List R2} {p : Bool} (h : In x s ↔ p = true) : hasB x s = p := by
  rw [Bool.eq_iff_iff, hasB_iff, h]

def cnt (N : Nat) (p : Nat → Bool) : Nat := (List.range N).countP p
theorem cnt_zero (p : Nat → Bool) : cnt 0 p = 0 := rfl
theorem cnt_succ (N : Nat) (p : Nat → Bool) : cnt (N + 1) p = cnt N p + (if p N = true then 1 else 0) := by
  unfold cnt
  rw [List.range_succ, List.countP_append, List.countP_singleton]
theorem cnt_or (p q : Nat → Bool) : ∀ N, cnt N (fun i => p i || q i) + cnt N (fun i => p i && q i) = cnt N p + cnt N q
  | 0 => rfl
  | N + 1 => by
    have := cnt_or p q N
    rw [cnt_succ, cnt_succ, cnt_succ, cnt_succ]
    cases p N <;> cases q N <;> simp <;> omega
theorem cnt_not (p : Nat → Bool) : ∀ N, cnt N p + cnt N (fun i => !p i) = N
  | 0 => rfl
  | N + 1 => by
    have := cnt_not p N
    rw [cnt_succ, cnt_succ]
    cases p N <;> simp <;> omega
theorem cnt_none (p : Nat → Bool) (h : ∀ i, p i = false) : ∀ N, cnt N p = 0
  | 0 => rfl
  | N + 1 => by rw [cnt_succ, cnt_none p h N, h N]; rfl
theorem cnt_same (p q : Nat → Bool) : ∀ N, (∀ i, i < N → p i = q i) → cnt N p = cnt N q
  | 0, _ => rfl
  | N + 1, h => by rw [cnt_succ, cnt_succ, cnt_same p q N (fun i hi => h i (by omega)), h N (by omega)]
theorem cnt_le (p q : Nat → Bool) : ∀ N, (∀ i, i < N → p i = true → q i = true) → cnt N p ≤ cnt N q
  | 0, _ => Nat.le_refl _
  | N + 1, h => by
    have h1 := cnt_le p q N (fun i hi => h i (by omega))
    have h2 := h N (by omega)
    rw [cnt_succ, cnt_succ]
    cases hp : p N
    · simp; omega
    · rw [h2 hp]; simp; omega
theorem cnt_iv_at (a b : Int) (ha : 0 ≤ a) (hab : a ≤ b + 1) : ∀ N : Nat, (cnt N (fun i => decide (a ≤ (i : Int)) && decide ((i : Int) ≤ b)) : Int) = min (N : Int) (b + 1) - min (N : Int) a
  | 0 => by rw [cnt_zero]; omega
  | N + 1 => by
    have := cnt_iv_at a b ha hab N
    rw [cnt_succ]
    by_cases h1 : a ≤ (N : Int) <;> by_cases h2 : (N : Int) ≤ b
    · simp only [h1, h2, decide_true, Bool.and_self, if_true]
      omega
    · simp only [h1, h2, decide_true, decide_false, Bool.and_false, Bool.false_eq_true, if_false]
      omega
    · simp only [h1, h2, decide_true, decide_false, Bool.false_and, Bool.false_eq_true, if_false]
      omega
    · simp only [h1, h2, decide_false, Bool.false_and, Bool.false_eq_true, if_false]
      omega
def sizeL (s : List R2) : Int := (s.map fun r => r.2 - r.1 + 1).sum
theorem sizeL_nil : sizeL [] = 0 := rfl
theorem sizeL_cons (r : R2) (s : List R2) : sizeL (r :: s) = (r.2 - r.1 + 1) + sizeL s := by simp [sizeL]
theorem sizeL_append (s t : List R2) : sizeL (s ++ t) = sizeL s + sizeL t := by simp [sizeL]

theorem size_cnt_at (N : Nat) : ∀ s : List R2, (∀ r ∈ s, 0 ≤ r.1 ∧ r.1 ≤ r.2 ∧ r.2 < N) → s.Pairwise (fun a b => a.2 + 1 < b.1) → sizeL s = (cnt N (fun i => hasB i s) : Nat)
  | [], _, _ => by
    rw [cnt_none _ (fun i => by simp [hasB]) N]
    rfl
  | r :: s, hin, hup => by
    have hp := List.pairwise_cons.1 hup
    have hr := hin r (by simp)
    have ih := size_cnt_at N s (fun a ha => hin a (by simp [ha])) hp.2
    have h1 := cnt_or (fun i => decide (r.1 ≤ (i : Int)) && decide ((i : Int) ≤ r.2)) (fun i => hasB i s) N
    have h2 : cnt N (fun i => (decide (r.1 ≤ (i : Int)) && decide ((i : Int) ≤ r.2)) && hasB i s) = 0 := by
      refine cnt_none _ (fun i => ?_) N
      by_cases h : (decide (r.1 ≤ (i : Int)) && decide ((i : Int) ≤ r.2)) = true
      · by_cases k : hasB (i : Int) s = true
        · obtain ⟨q, hq, h3, _⟩ := hasB_iff.1 k
          have := hp.1 q hq
          simp only [Bool.and_eq_true, decide_eq_true_eq] at h
          omega
        · simp [k]
      · rw [Bool.not_eq_true] at h
        simp [h]
    have h3 := cnt_iv_at r.1 r.2 hr.1 (by omega) N
    have h4 : cnt N (fun i => hasB i (r :: s)) = cnt N (fun i => (decide (r.1 ≤ (i : Int)) && decide ((i : Int) ≤ r.2)) || hasB i s) := by
      refine cnt_same _ _ N (fun i _ => ?_)
      simp [hasB]
    rw [sizeL_cons, h4, ih]
    rw [h2] at h1
    omega

theorem size_cnt {s : List R2} (h : Canon s) : sizeL s = (cnt 1114112 (fun i => hasB i s) : Nat) := by
  refine size_cnt_at 1114112 s (fun r hr => ?_) h.up
  have := h.in_ r hr
  unfold inB at this
  exact ⟨this.1, by omega, by omega⟩
theorem cnt_top (N : Nat) (p : Nat → Bool) : cnt N p ≤ N := by
  have := cnt_not p N
  omega
theorem sizeL_pos {s : List R2} (h : Canon s) : 0 ≤ sizeL s ∧ sizeL s ≤ 1114112 := by
  rw [size_cnt h]
  have := cnt_top 1114112 (fun i => hasB i s)
  omega
theorem size_not {s n : List R2} (h : Canon s) (k : Canon n) (hn : ∀ x, In x n ↔ (0 ≤ x ∧ x ≤ 1114111) ∧ ¬ In x s) : sizeL s + sizeL n = 1114112 := by
  rw [size_cnt h, size_cnt k, cnt_same (fun i => hasB i n) (fun i => !hasB i s) 1114112 (fun i hi => ?_)]
  · have := cnt_not (fun i => hasB i s) 1114112
    omega
  · refine hasB_eq ?_
    rw [hn, Bool.not_eq_true', ← Bool.not_eq_true, hasB_iff]
    constructor
    · exact fun h => h.2
    · exact fun h => ⟨by omega, h⟩
theorem size_or {s t o a : List R2} (hs : Canon s) (ht : Canon t) (ho : Canon o) (ha : Canon a) (h1 : ∀ x, In x o ↔ In x s ∨ In x t) (h2 : ∀ x, In x a ↔ In x s ∧ In x t) : sizeL o = sizeL s + sizeL t - sizeL a := by
  have := cnt_or (fun i => hasB i s) (fun i => hasB i t) 1114112
  rw [size_cnt hs, size_cnt ht, size_cnt ho, size_cnt ha,
    cnt_same (fun i => hasB i o) (fun i => hasB i s || hasB i t) 1114112 (fun i hi => hasB_eq (by rw [h1, Bool.or_eq_true, hasB_iff, hasB_iff])),
    cnt_same (fun i => hasB i a) (fun i => hasB i s && hasB i t) 1114112 (fun i hi => hasB_eq (by rw [h2, Bool.and_eq_true, hasB_iff, hasB_iff]))]
  omega
end Go.Proofs.YtnngemdpoemhgaaDoor

/- The two tables of orbits, as the row's list gives them: their cells; no condition. -/
namespace Go.Proofs.YtnngemdpoemhgaaDoor
open Go.RowKit

def pairsC : Array Value := #[.int .i64 65, .int .i64 90, .int .i64 32, .int .i64 192, .int .i64 214, .int .i64 32, .int .i64 216, .int .i64 222, .int .i64 32, .int .i64 913, .int .i64 929, .int .i64 32, .int .i64 931, .int .i64 937, .int .i64 32, .int .i64 1040, .int .i64 1071, .int .i64 32, .int .i64 66560, .int .i64 66599, .int .i64 40]
def thirdsC : Array Value := #[.int .i64 8490, .int .i64 75, .int .i64 383, .int .i64 83, .int .i64 8491, .int .i64 197, .int .i64 181, .int .i64 924, .int .i64 962, .int .i64 931]

/-- Both tables lie where they lie. -/
structure Tabs (w : World) : Prop where
  pairs : ∃ t, w.heap[0]? = some (.cells pairsC t (0, 0))
  thirds : ∃ t, w.heap[1]? = some (.cells thirdsC t (0, 0))
theorem Tabs.new {w w' : World} (h : Tabs w) (t : Touch (fun _ => False) w w') : Tabs w' := by
  obtain ⟨⟨t0, h0⟩, ⟨t1, h1⟩⟩ := h
  exact ⟨⟨t0, (t.block 0 (lt_of_block h0) id).trans h0⟩, ⟨t1, (t.block 1 (lt_of_block h1) id).trans h1⟩⟩

theorem g0 : Tryd.prog.globalNamed "ferret/ucd.allPairs" = some 0 := by kernel_rfl
theorem g1 : Tryd.prog.globalNamed "ferret/ucd.thirds" = some 1 := by kernel_rfl
theorem y0 : (Tryd.prog.globals[0]?).map (·.type) = some 48 := by kernel_rfl
theorem y1 : (Tryd.prog.globals[1]?).map (·.type) = some 51 := by kernel_rfl
theorem c3 : Tryd.prog.cellsOf 3 = 1 := by kernel_rfl
theorem c47 : Tryd.prog.cellsOf 47 = 3 := by kernel_rfl
theorem c50 : Tryd.prog.cellsOf 50 = 2 := by kernel_rfl
theorem c48 : Tryd.prog.cellsOf 48 = 21 := by kernel_rfl
theorem c51 : Tryd.prog.cellsOf 51 = 10 := by kernel_rfl

theorem at_take {cs : List Value} {k : Nat} {v : Value} (h : (cs.drop k).take 1 = [v]) : cs[k]? = some v := by
  have := congrArg (·[0]?) h
  simpa [List.getElem?_take, List.getElem?_drop] using this
theorem three_list {cs : List Value} {x y z : Value} (hl : cs.length = 3) (q0 : cs[0]? = some x) (q1 : cs[1]? = some y) (q2 : cs[2]? = some z) : cs = [x, y, z] := by
  match cs, hl, q0, q1, q2 with
  | [a, b, c], _, q0, q1, q2 =>
    simp at q0 q1 q2
    subst q0 q1 q2
    rfl
theorem two_list {cs : List Value} {x y : Value} (hl : cs.length = 2) (q0 : cs[0]? = some x) (q1 : cs[1]? = some y) : cs = [x, y] := by
  match cs, hl, q0, q1 with
  | [a, b], _, q0, q1 =>
    simp at q0 q1
    subst q0 q1
    rfl
section
variable {H : Type} {enc : TypeId × Value → H} {w : World} {base : Nat} {sp : Nat → Bool} {held : Bool}
theorem row3 {fuel : Nat} {cs : List Value} {x y z : Int} {p : List MemPlace} (h : DataW.trod enc Tryd.prog w base sp held fuel 47 cs = some (.agg [.lit (.int .i64 x), .lit (.int .i64 y), .lit (.int .i64 z)], p)) : cs = [.int .i64 x, .int .i64 y, .int .i64 z] := by
  obtain ⟨xs, n, rfl, hx, hl, hxl, hall⟩ := DataW.trod_struct Tryd.underlying47 h
  rw [c47] at hl
  have hx3 : xs.map (·.1) = [.lit (.int .i64 x), .lit (.int .i64 y), .lit (.int .i64 z)] := by
    have := congrArg Prod.fst hx
    simpa using this.symm
  obtain ⟨x0, x1, x2, rfl⟩ : ∃ x0 x1 x2, xs = [x0, x1, x2] := by
    match xs, hx3 with
    | [x0, x1, x2], _ => exact ⟨x0, x1, x2, rfl⟩
  simp only [List.map_cons, List.map_nil, List.cons.injEq, and_true] at hx3
  obtain ⟨e0, e1, e2⟩ := hx3
  have f0 := hall 0 _ rfl
  have f1 := hall 1 _ rfl
  have f2 := hall 2 _ rfl
  change DataW.trod _ _ _ _ _ _ _ 3 ((cs.drop 0).take (Tryd.prog.cellsOf 3)) = some x0 at f0
  change DataW.trod _ _ _ _ _ _ _ 3 ((cs.drop 1).take (Tryd.prog.cellsOf 3)) = some x1 at f1
  change DataW.trod _ _ _ _ _ _ _ 3 ((cs.drop 2).take (Tryd.prog.cellsOf 3)) = some x2 at f2
  rw [c3] at f0 f1 f2
  have q0 : cs[0]? = some (.int .i64 x) := by
    obtain ⟨z, hz, hx', _⟩ := DataW.trod_int Tryd.underlying3 f0
    rw [hx'] at e0
    cases e0
    exact at_take hz
  have q1 : cs[1]? = some (.int .i64 y) := by
    obtain ⟨z, hz, hx', _⟩ := DataW.trod_int Tryd.underlying3 f1
    rw [hx'] at e1
    cases e1
    exact at_take hz
  have q2 : cs[2]? = some (.int .i64 z) := by
    obtain ⟨z, hz, hx', _⟩ := DataW.trod_int Tryd.underlying3 f2
    rw [hx'] at e2
    cases e2
    exact at_take hz
  exact three_list hl q0 q1 q2
theorem row2 {fuel : Nat} {cs : List Value} {x y : Int} {p : List MemPlace} (h : DataW.trod enc Tryd.prog w base sp held fuel 50 cs = some (.agg [.lit (.int .i64 x), .lit (.int .i64 y)], p)) : cs = [.int .i64 x, .int .i64 y] := by
  obtain ⟨xs, n, rfl, hx, hl, hxl, hall⟩ := DataW.trod_struct Tryd.underlying50 h
  rw [c50] at hl
  have hx3 : xs.map (·.1) = [.lit (.int .i64 x), .lit (.int .i64 y)] := by
    have := congrArg Prod.fst hx
    simpa using this.symm
  obtain ⟨x0, x1, rfl⟩ : ∃ x0 x1, xs = [x0, x1] := by
    match xs, hx3 with
    | [x0, x1], _ => exact ⟨x0, x1, rfl⟩
  simp only [List.map_cons, List.map_nil, List.cons.injEq, and_true] at hx3
  obtain ⟨e0, e1⟩ := hx3
  have f0 := hall 0 _ rfl
  have f1 := hall 1 _ rfl
  change DataW.trod _ _ _ _ _ _ _ 3 ((cs.drop 0).take (Tryd.prog.cellsOf 3)) = some x0 at f0
  change DataW.trod _ _ _ _ _ _ _ 3 ((cs.drop 1).take (Tryd.prog.cellsOf 3)) = some x1 at f1
  rw [c3] at f0 f1
  have q0 : cs[0]? = some (.int .i64 x) := by
    obtain ⟨z, hz, hx', _⟩ := DataW.trod_int Tryd.underlying3 f0
    rw [hx'] at e0
    cases e0
    exact at_take hz
  have q1 : cs[1]? = some (.int .i64 y) := by
    obtain ⟨z, hz, hx', _⟩ := DataW.trod_int Tryd.underlying3 f1
    rw [hx'] at e1
    cases e1
    exact at_take hz
  exact two_list hl q0 q1

/-- The list that the array is, out of its pieces. -/
theorem pieces {cs : List Value} {m : Nat} : ∀ (rows : List (List Value)) (k : Nat), (∀ i (h : i < rows.length), (cs.drop ((k + i) * m)).take m = rows[i]) → (∀ r ∈ rows, r.length = m) → (cs.drop (k * m)).take (rows.length * m) = rows.flatten
  | [], k, _, _ => by simp
  | r :: rows, k, h, hl => by
    have h0 := h 0 (by simp)
    have ih := pieces (cs := cs) (m := m) rows (k + 1) (fun i hi => by
      have := h (i + 1) (by simpa using hi)
      rw [show k + (i + 1) = k + 1 + i by omega] at this
      simpa using this) (fun q hq => hl q (by simp [hq]))
    simp only [Nat.add_zero, List.getElem_cons_zero] at h0
    rw [List.length_cons, Nat.add_mul, Nat.one_mul, Nat.add_comm, List.take_add, h0, List.drop_drop, List.flatten_cons]
    rw [show k * m + m = (k + 1) * m by rw [Nat.add_mul, Nat.one_mul], ih]
theorem whole {cs : List Value} {m : Nat} {rows : List (List Value)} (h : ∀ i (h : i < rows.length), (cs.drop (i * m)).take m = rows[i]) (hl : ∀ r ∈ rows, r.length = m) (hc : cs.length = rows.length * m) : cs = rows.flatten := by
  have := pieces rows 0 (fun i hi => by rw [Nat.zero_add]; exact h i hi) hl
  rw [Nat.zero_mul, List.drop_zero, List.take_of_length_le (by omega)] at this
  exact this

set_option maxRecDepth 100000 in
theorem pairs_cells {fuel : Nat} {cs : List Value} {p : List MemPlace} (h : DataW.trod enc Tryd.prog w base sp held fuel 48 cs = some (Rows.laid_ferret_ucd_allPairs, p)) : cs = pairsC.toList := by
  obtain ⟨xs, m, rfl, hx, hl, hxl, hall⟩ := DataW.trod_array Tryd.underlying48 h
  rw [c48] at hl
  have hx3 : xs.map (·.1) = [.agg [.lit (.int .i64 65), .lit (.int .i64 90), .lit (.int .i64 32)], .agg [.lit (.int .i64 192), .lit (.int .i64 214), .lit (.int .i64 32)], .agg [.lit (.int .i64 216), .lit (.int .i64 222), .lit (.int .i64 32)], .agg [.lit (.int .i64 913), .lit (.int .i64 929), .lit (.int .i64 32)], .agg [.lit (.int .i64 931), .lit (.int .i64 937), .lit (.int .i64 32)], .agg [.lit (.int .i64 1040), .lit (.int .i64 1071), .lit (.int .i64 32)], .agg [.lit (.int .i64 66560), .lit (.int .i64 66599), .lit (.int .i64 40)]] := by
    have := congrArg Prod.fst hx
    exact (DataW.agg.inj this).symm
  have row : ∀ i (hi : i < 7) (x y z : Int), (xs.map (·.1))[i]? = some (.agg [.lit (.int .i64 x), .lit (.int .i64 y), .lit (.int .i64 z)]) → (cs.drop (i * 3)).take 3 = [.int .i64 x, .int .i64 y, .int .i64 z] := by
    intro i hi x y z hd
    have h1 := hall i hi
    rw [c47] at h1
    rw [List.getElem?_map] at hd
    obtain ⟨⟨d, q⟩, hq, rfl⟩ := Option.map_eq_some_iff.1 hd
    rw [hq] at h1
    exact row3 h1
  rw [hx3] at row
  have := whole (cs := cs) (m := 3) (rows := [[.int .i64 65, .int .i64 90, .int .i64 32], [.int .i64 192, .int .i64 214, .int .i64 32], [.int .i64 216, .int .i64 222, .int .i64 32], [.int .i64 913, .int .i64 929, .int .i64 32], [.int .i64 931, .int .i64 937, .int .i64 32], [.int .i64 1040, .int .i64 1071, .int .i64 32], [.int .i64 66560, .int .i64 66599, .int .i64 40]]) (fun i hi => by
    simp only [List.length_cons, List.length_nil] at hi
    match i, hi with
    | 0, hi => exact row 0 hi _ _ _ rfl
    | 1, hi => exact row 1 hi _ _ _ rfl
    | 2, hi => exact row 2 hi _ _ _ rfl
    | 3, hi => exact row 3 hi _ _ _ rfl
    | 4, hi => exact row 4 hi _ _ _ rfl
    | 5, hi => exact row 5 hi _ _ _ rfl
    | 6, hi => exact row 6 hi _ _ _ rfl) (by simp) (by simp [hl])
  exact this
set_option maxRecDepth 100000 in
theorem thirds_cells {fuel : Nat} {cs : List Value} {p : List MemPlace} (h : DataW.trod enc Tryd.prog w base sp held fuel 51 cs = some (Rows.laid_ferret_ucd_thirds, p)) : cs = thirdsC.toList := by
  obtain ⟨xs, m, rfl, hx, hl, hxl, hall⟩ := DataW.trod_array Tryd.underlying51 h
  rw [c51] at hl
  have hx3 : xs.map (·.1) = [.agg [.lit (.int .i64 8490), .lit (.int .i64 75)], .agg [.lit (.int .i64 383), .lit (.int .i64 83)], .agg [.lit (.int .i64 8491), .lit (.int .i64 197)], .agg [.lit (.int .i64 181), .lit (.int .i64 924)], .agg [.lit (.int .i64 962), .lit (.int .i64 931)]] := by
    have := congrArg Prod.fst hx
    exact (DataW.agg.inj this).symm
  have row : ∀ i (hi : i < 5) (x y : Int), (xs.map (·.1))[i]? = some (.agg [.lit (.int .i64 x), .lit (.int .i64 y)]) → (cs.drop (i * 2)).take 2 = [.int .i64 x, .int .i64 y] := by
    intro i hi x y hd
    have h1 := hall i hi
    rw [c50] at h1
    rw [List.getElem?_map] at hd
    obtain ⟨⟨d, q⟩, hq, rfl⟩ := Option.map_eq_some_iff.1 hd
    rw [hq] at h1
    exact row2 h1
  rw [hx3] at row
  have := whole (cs := cs) (m := 2) (rows := [[.int .i64 8490, .int .i64 75], [.int .i64 383, .int .i64 83], [.int .i64 8491, .int .i64 197], [.int .i64 181, .int .i64 924], [.int .i64 962, .int .i64 931]]) (fun i hi => by
    simp only [List.length_cons, List.length_nil] at hi
    match i, hi with
    | 0, hi => exact row 0 hi _ _ rfl
    | 1, hi => exact row 1 hi _ _ rfl
    | 2, hi => exact row 2 hi _ _ rfl
    | 3, hi => exact row 3 hi _ _ rfl
    | 4, hi => exact row 4 hi _ _ rfl) (by simp) (by simp [hl])
  exact this
end

set_option maxRecDepth 100000 in
theorem tabs_of {W : World} (h : laidMet Tryd.prog [("ferret/ucd.allPairs", Rows.laid_ferret_ucd_allPairs), ("ferret/ucd.thirds", Rows.laid_ferret_ucd_thirds)] W) : Tabs W := by
  obtain ⟨ps, ⟨g, t, cs, fuel, p, q, hg, ht, hvar, hd, ⟨g', t', cs', fuel', p', q', hg', ht', hvar', hd', _, rfl⟩, rfl⟩, _, hfree⟩ := h
  obtain rfl := Option.some.inj (g0.symm.trans hg)
  obtain rfl := Option.some.inj (y0.symm.trans ht)
  obtain rfl := Option.some.inj (g1.symm.trans hg')
  obtain rfl := Option.some.inj (y1.symm.trans ht')
  have e0 : cs = pairsC := by
    have := pairs_cells hd
    cases cs
    simpa using congrArg List.toArray this
  have e1 : cs' = thirdsC := by
    have := thirds_cells hd'
    cases cs'
    simpa using congrArg List.toArray this
  subst e0
  subst e1
  unfold World.var? at hvar hvar'
  rw [g0] at hvar
  rw [g1] at hvar'
  simp only [Option.bind_some] at hvar hvar'
  obtain ⟨⟨cc, tt, hh⟩, _⟩ := hfree 0 0 (by simp [MemPlace.row, pairsC])
  obtain ⟨⟨cc', tt', hh'⟩, _⟩ := hfree 1 0 (by simp [MemPlace.row, thirdsC])
  rw [hh] at hvar
  rw [hh'] at hvar'
  simp only [Option.some.injEq] at hvar hvar'
  subst hvar
  subst hvar'
  exact ⟨⟨tt, hh⟩, ⟨tt', hh'⟩⟩
end Go.Proofs.YtnngemdpoemhgaaDoor
