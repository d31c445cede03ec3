/- Texts of this proof, one behind the other: what each says stands ahead of it. -/
import Derived.Test.YthengfclijclmaaM1
import Derived.Test.YthengfclijclmaaM0
/- Thirty-two nought elements appended to a list that the call owns; condition: the list has at most some thousand elements. -/
namespace Go.Proofs.Ythengfclijclmaa
open Go.RowKit

theorem info73 : (Try.prog.info? 163).map (fun i => (i.zero, i.size, i.bytes)) = some (some (.agg #[.int .i64 0, .int .i64 0, .int .i64 0]), 3, 24) := by kernel_rfl
theorem wrap_32 : IntKind.i64.wrap 32 = 32 := by decide

/-- So many nought cells. -/
def zeros3 : Array Value := Builtin.zeroCells #[.int .i64 0, .int .i64 0, .int .i64 0] 32

theorem size_zeros3 : zeros3.size = 96 := by rw [zeros3, size_zeroCells]; rfl
theorem zeros3_eq : zeros3.toList = List.replicate 96 (.int .i64 0) := by kernel_rfl

theorem run_zeros_grow (w : World) (ty : TypeId) (b : Addr) (n cap : Nat) (olds : List Value) (hlo : olds.length = n * 3) (holds : ∀ j v, olds[j]? = some v → w.cell? (b.add j) = some v) (hg : cap < n + 32) (hn : n ≤ 100000000) :
    (Builtin.append_ #[146, 3] ty #[.slice (some b) n cap, .int .i64 32]).run Try.prog w =
      .ok (.slice (some ⟨w.heap.size, 0, none⟩) (n + 32) (grownCap w (n + 32) cap 163))
        (w.drew.alloc (.cells (olds.toArray ++ zeros3 ++ Builtin.zeroCells #[.int .i64 0, .int .i64 0, .int .i64 0] (grownCap w (n + 32) cap 163 - (n + 32))) 163)) := by
  obtain ⟨i0, hin, hz0, hz1, hz2⟩ := info_parts info73
  have hn' : ¬ (n + 32 ≤ cap) := by omega
  have h48 : Builtin.nextslicecap (n + 32) cap * 24 ≤ 281474976710656 := growslice_fits (by omega) (by omega)
  have h48' : ¬ (281474976710656 < Builtin.nextslicecap (n + 32) cap * 24) := by omega
  have hfo := run_firstCells_some (P := Try.prog) w.drew 3 n b n cap olds hlo (by simpa using holds)
  simp [Builtin.append_, run_underlying Try.underlying146, run_underlying Try.underlying3, sizeOf, typeInfo, zeroValue, hin, hz0, hz1, hz2, hn', h48', Question.forced, hfo, newRow, grownCap, asInt, asIntOf, wrap_32, Value.cells, zeros3]
  intro h
  exact absurd h (by omega)

theorem run_zeros_nil (w : World) (ty : TypeId) :
    (Builtin.append_ #[146, 3] ty #[.slice none 0 0, .int .i64 32]).run Try.prog w =
      .ok (.slice (some ⟨w.heap.size, 0, none⟩) 32 (grownCap w 32 0 163))
        (w.drew.alloc (.cells (zeros3 ++ Builtin.zeroCells #[.int .i64 0, .int .i64 0, .int .i64 0] (grownCap w 32 0 163 - 32)) 163)) := by
  obtain ⟨i0, hin, hz0, hz1, hz2⟩ := info_parts info73
  have h48 : Builtin.nextslicecap 32 0 * 24 ≤ 281474976710656 := growslice_fits (by omega) (by omega)
  have h48' : ¬ (281474976710656 < Builtin.nextslicecap 32 0 * 24) := by omega
  have hfo : (Builtin.firstCells 3 0 (.slice none 0 0)).run Try.prog w.drew = .ok #[] w.drew := by simp [Builtin.firstCells]
  simp [Builtin.append_, run_underlying Try.underlying146, run_underlying Try.underlying3, sizeOf, typeInfo, zeroValue, hin, hz0, hz1, hz2, h48', Question.forced, hfo, newRow, grownCap, asInt, asIntOf, wrap_32, Value.cells, zeros3]
  intro h
  exact absurd h (by omega)

theorem run_zeros_room (w : World) (ty : TypeId) (g n cap : Nat) (cur : Array Value) (hg : w.heap[g]? = some (.cells cur 163 (0, 0))) (hroom : n + 32 ≤ cap) (hfit : n * 3 + 96 ≤ cur.size) :
    (Builtin.append_ #[146, 3] ty #[.slice (some ⟨g, 0, none⟩) n cap, .int .i64 32]).run Try.prog w =
      .ok (.slice (some ⟨g, 0, none⟩) (n + 32) cap) (w.setRow g (cur.toList.take (n * 3) ++ zeros3.toList ++ cur.toList.drop (n * 3 + 96)).toArray) := by
  obtain ⟨i0, hin, hz0, hz1, hz2⟩ := info_parts info73
  have hst := run_storeCells_at Try.prog g (n * 3) 163 zeros3.toList 0 cur w hg (by simp [size_zeros3]; omega) (by intro v hv; rw [zeros3_eq] at hv; have := List.eq_of_mem_replicate hv; subst this; rfl)
  simp only [Nat.add_zero, Array.length_toList, size_zeros3] at hst
  have hst' := hst
  unfold zeros3 at hst'
  simp [Builtin.append_, run_underlying Try.underlying146, run_underlying Try.underlying3, sizeOf, typeInfo, zeroValue, hin, hz0, hz1, hz2, hroom, asInt, asIntOf, wrap_32, Value.cells, Addr.add_lit, hst', zeros3]

theorem run_zeros (w : World) (ty : TypeId) (v : Value) (n : Nat) (xs : List Value) (hown : w.ownsRow 0 163 3 v n xs) (hn : n ≤ 100000000) :
    ∃ v' w', (Builtin.append_ #[146, 3] ty #[v, .int .i64 32]).run Try.prog w = .ok v' w' ∧ w'.ownsRow 0 163 3 v' (n + 32) (xs ++ List.replicate 96 (.int .i64 0)) ∧ w.grownBy w' v.ownBlock ∧
      (v'.ownBlock = v.ownBlock ∨ v'.ownBlock = some w.heap.size) := by
  have hlen : (xs ++ List.replicate 96 (Value.int .i64 0)).length = (n + 32) * 3 := by rw [List.length_append, hown.1, List.length_replicate]; omega
  rcases hown.2 with ⟨rfl, rfl⟩ | ⟨g, cap, cur, rfl, hbg, hg, hnc, hcm, hcs, htake⟩
  · have hx : xs = [] := List.eq_nil_of_length_eq_zero (by simpa using hown.1)
    subst hx
    have hge := grownCap_ge w 32 0 163
    refine ⟨_, _, run_zeros_nil w ty, ⟨hlen, .inr ⟨w.heap.size, _, _, rfl, Nat.zero_le _, heap_alloc_new w.drew _, by omega, grownCap_le_maxLen w 32 0 163 (by unfold maxLen; omega), ?_, ?_⟩⟩, ⟨rfl, rfl, rfl, by simp, fun k hk _ => Below.heap_alloc w.drew _ k hk⟩, .inr rfl⟩
    · simp only [Array.size_append, size_zeroCells, size_zeros3]
      have : (#[Value.int IntKind.i64 0, .int .i64 0, .int .i64 0] : Array Value).size = 3 := rfl
      rw [this]
      omega
    · simp only [Array.toList_append, zeros3_eq, List.nil_append]
      exact List.take_left' (by simp)
  · by_cases hroom : n + 32 ≤ cap
    · refine ⟨_, _, run_zeros_room w ty g n cap cur hg hroom (by omega), ⟨hlen, .inr ⟨g, cap, _, rfl, Nat.zero_le _, setRow_heap w g cur _ 163 _ hg, hroom, hcm, ?_, ?_⟩⟩, ⟨rfl, rfl, rfl, by simp, fun k _ hk => setRow_other w g k _ (fun e => hk (by simp [Value.ownBlock, e]))⟩, .inl rfl⟩
      · simp only [List.size_toArray, List.length_append, List.length_take, List.length_drop, Array.length_toList, size_zeros3]
        omega
      · rw [htake, zeros3_eq, ← hlen]
        exact List.take_left
    · have holds : ∀ j u, xs[j]? = some u → w.cell? ((⟨g, 0, none⟩ : Addr).add j) = some u := hown.cells (g := g) rfl
      have hge := grownCap_ge w (n + 32) cap 163
      refine ⟨_, _, run_zeros_grow w ty ⟨g, 0, none⟩ n cap xs hown.1 holds (by omega) hn, ⟨hlen, .inr ⟨w.heap.size, _, _, rfl, Nat.zero_le _, heap_alloc_new w.drew _, by omega, grownCap_le_maxLen w (n + 32) cap 163 (by unfold maxLen; omega), ?_, ?_⟩⟩, ⟨rfl, rfl, rfl, by simp, fun k hk _ => Below.heap_alloc w.drew _ k hk⟩, .inr rfl⟩
      · simp only [Array.size_append, size_zeroCells, size_zeros3, List.size_toArray, hown.1, List.length_cons, List.length_nil]
        omega
      · simp only [Array.toList_append, zeros3_eq]
        rw [← hlen]
        exact List.take_left

theorem wpList_zeros (w : World) {ops : Array Oper} {rest : List Oper} {o : Oper} {a : Act} {Q : Exit → Act → World → Prop} (hgd : o.guard = none) (sl x : Operand)
    (ho : o.op = .call { callee := .builtin .append, args := #[sl, x], argTypes := #[146, 3] })
    (v : Value) (n : Nat) (xs : List Value) (hs : a.eval sl = v) (hx : a.eval x = .int .i64 32) (hown : w.ownsRow 0 163 3 v n xs) (hn : n ≤ 100000000)
    (h : ∀ v' w', w'.ownsRow 0 163 3 v' (n + 32) (xs ++ List.replicate 96 (.int .i64 0)) → w.grownBy w' v.ownBlock → (v'.ownBlock = v.ownBlock ∨ v'.ownBlock = some w.heap.size) → wpList Try.prog ops Q rest (a.put o.dst v') w') : wpList Try.prog ops Q (o :: rest) a w := by
  refine wpList_plain hgd fun K hK => ?_
  obtain ⟨v', w', hr, h2, h3, h4⟩ := run_zeros w o.type v n xs hown hn
  unfold Oper.wp execOp
  simp only [ho, resolve, invoke, builtin, Sem.run_bind, Sem.run_pure, Result.andThen_ok, List.map_toArray, List.map_cons, List.map_nil, hs, hx, hr]
  exact hK _ _ (h v' w' h2 h3 h4)
end Go.Proofs.Ythengfclijclmaa

/- Plain facts on a table that is looked up by five bits at a time: what is laid is found, and nothing else; no condition. -/
namespace Go.Proofs.Ythengfclijclmaa
namespace Tb

/-- p goes on as q says, for n bits. -/
def Fits (p n q : Nat) : Prop := p % 2 ^ n = q

structure Cells where
  S : Nat → Nat
  L : Nat → Nat
  F : Nat → Nat

/-- The symbols that are laid: each one's length and bits; none goes on as another one does. -/
structure Sym (laid : Nat → Prop) (f path : Nat → Nat) : Prop where
  len : ∀ i, laid i → 1 ≤ f i ∧ f i ≤ 15
  lt : ∀ i, laid i → path i < 2 ^ f i
  apart : ∀ i j, laid i → laid j → f i ≤ f j → path j % 2 ^ f i = path i → i = j

/-- At depth d the cell whose bits so far are q is symbol i's. -/
def Here (laid : Nat → Prop) (f path : Nat → Nat) (d q i : Nat) : Prop := laid i ∧ 5 * d < f i ∧ f i ≤ 5 * d + 5 ∧ q % 2 ^ f i = path i

structure Inv (C : Cells) (sz : Nat) (laid : Nat → Prop) (f path : Nat → Nat) (E : Nat → Nat → Prop) (R : Nat → Nat → Nat) : Prop where
  root : E 0 0 ∧ R 0 0 = 0
  row : ∀ d q, E d q → ∃ r, R d q = 32 * r ∧ 32 * r + 32 ≤ sz
  inj : ∀ d q d' q', E d q → E d' q' → R d q = R d' q' → d = d' ∧ q = q'
  lt : ∀ d q, E d q → q < 2 ^ (5 * d)
  up : ∀ d q, E (d + 1) q → E d (q % 2 ^ (5 * d))
  rows : ∀ i, laid i → ∀ d, 5 * d < f i → E d (path i % 2 ^ (5 * d))
  sym : ∀ d q c i, E d q → c < 32 → Here laid f path d (q + c * 2 ^ (5 * d)) i → C.S (R d q + c) = i ∧ C.L (R d q + c) = f i ∧ C.F (R d q + c) = 0
  on : ∀ d q c, E d q → c < 32 → E (d + 1) (q + c * 2 ^ (5 * d)) → (∀ i, ¬ Here laid f path d (q + c * 2 ^ (5 * d)) i) ∧ C.F (R d q + c) = R (d + 1) (q + c * 2 ^ (5 * d))
  none : ∀ d q c, E d q → c < 32 → ¬ E (d + 1) (q + c * 2 ^ (5 * d)) → (∀ i, ¬ Here laid f path d (q + c * 2 ^ (5 * d)) i) → C.L (R d q + c) = 0 ∧ C.F (R d q + c) = 0

theorem pow5 (d : Nat) : 2 ^ (5 * d + 5) = 2 ^ (5 * d) * 32 := by rw [Nat.pow_add]

/-- The next five bits of p. -/
theorem split (p d : Nat) : p % 2 ^ (5 * d + 5) = p % 2 ^ (5 * d) + (p / 2 ^ (5 * d) % 32) * 2 ^ (5 * d) := by
  rw [pow5, Nat.mod_mul, Nat.mul_comm (2 ^ (5 * d))]

theorem mod_mod {a m n : Nat} (h : m ≤ n) : a % 2 ^ n % 2 ^ m = a % 2 ^ m := Nat.mod_mod_of_dvd a (Nat.pow_dvd_pow 2 h)

theorem succ5 (d : Nat) : 5 * (d + 1) = 5 * d + 5 := by omega

/-- One step of a lookup: p's row at depth d; its cell is a symbol that p fits, leads on to p's row, or none fits. -/
theorem Inv.step {C : Cells} {sz : Nat} {laid : Nat → Prop} {f path : Nat → Nat} {E : Nat → Nat → Prop} {R : Nat → Nat → Nat} (v : Inv C sz laid f path E R)
    (p d : Nat) (he : E d (p % 2 ^ (5 * d))) (hno : ∀ i, laid i → f i ≤ 5 * d → p % 2 ^ f i ≠ path i) :
    (∃ i, laid i ∧ p % 2 ^ f i = path i ∧ C.S (R d (p % 2 ^ (5 * d)) + p / 2 ^ (5 * d) % 32) = i ∧ C.L (R d (p % 2 ^ (5 * d)) + p / 2 ^ (5 * d) % 32) = f i ∧ C.F (R d (p % 2 ^ (5 * d)) + p / 2 ^ (5 * d) % 32) = 0) ∨
    (E (d + 1) (p % 2 ^ (5 * (d + 1))) ∧ C.F (R d (p % 2 ^ (5 * d)) + p / 2 ^ (5 * d) % 32) = R (d + 1) (p % 2 ^ (5 * (d + 1))) ∧ 0 < R (d + 1) (p % 2 ^ (5 * (d + 1))) ∧ (∀ i, laid i → f i ≤ 5 * (d + 1) → p % 2 ^ f i ≠ path i)) ∨
    ((∀ i, laid i → p % 2 ^ f i ≠ path i) ∧ C.L (R d (p % 2 ^ (5 * d)) + p / 2 ^ (5 * d) % 32) = 0 ∧ C.F (R d (p % 2 ^ (5 * d)) + p / 2 ^ (5 * d) % 32) = 0) := by
  have hq : p % 2 ^ (5 * d) + (p / 2 ^ (5 * d) % 32) * 2 ^ (5 * d) = p % 2 ^ (5 * (d + 1)) := by rw [succ5, split]
  have hc : p / 2 ^ (5 * d) % 32 < 32 := Nat.mod_lt _ (by decide)
  by_cases hh : ∃ i, Here laid f path d (p % 2 ^ (5 * (d + 1))) i
  · obtain ⟨i, hi⟩ := hh
    have hs := v.sym d _ _ i he hc (by rw [hq]; exact hi)
    obtain ⟨h1, h2, h3, h4⟩ := hi
    refine .inl ⟨i, h1, ?_, hs⟩
    rw [mod_mod (by omega)] at h4
    exact h4
  · have hh' : ∀ i, ¬ Here laid f path d (p % 2 ^ (5 * (d + 1))) i := fun i h => hh ⟨i, h⟩
    have hno' : ∀ i, laid i → f i ≤ 5 * (d + 1) → p % 2 ^ f i ≠ path i := by
      intro i hi hle e
      by_cases h5 : f i ≤ 5 * d
      · exact hno i hi h5 e
      · exact hh' i ⟨hi, by omega, by omega, by rw [mod_mod hle]; exact e⟩
    by_cases hE : E (d + 1) (p % 2 ^ (5 * (d + 1)))
    · have ho := v.on d _ _ he hc (by rw [hq]; exact hE)
      rw [hq] at ho
      refine .inr (.inl ⟨hE, ho.2, ?_, hno'⟩)
      rcases Nat.eq_zero_or_pos (R (d + 1) (p % 2 ^ (5 * (d + 1)))) with h0 | h0
      · have := (v.inj _ _ 0 0 hE v.root.1 (by rw [h0, v.root.2])).1
        omega
      · exact h0
    · have hn := v.none d _ _ he hc (by rw [hq]; exact hE) (by rw [hq]; exact hh')
      refine .inr (.inr ⟨?_, hn⟩)
      intro i hi e
      by_cases h5 : f i ≤ 5 * (d + 1)
      · exact hno' i hi h5 e
      · have := v.rows i hi (d + 1) (by omega)
        rw [← e, mod_mod (by omega)] at this
        exact hE this

/-- A row more, for bits that lead to none yet. -/
theorem Inv.add {C C' : Cells} {sz : Nat} {laid : Nat → Prop} {f path : Nat → Nat} {E : Nat → Nat → Prop} {R : Nat → Nat → Nat} (v : Inv C sz laid f path E R)
    (hsz : ∃ r, sz = 32 * r) (d q c : Nat) (he : E d q) (hc : c < 32) (hn : ¬ E (d + 1) (q + c * 2 ^ (5 * d))) (hno : ∀ i, ¬ Here laid f path d (q + c * 2 ^ (5 * d)) i)
    (hsame : ∀ x, x < sz → x ≠ R d q + c → C'.S x = C.S x ∧ C'.L x = C.L x ∧ C'.F x = C.F x) (hat : C'.F (R d q + c) = sz) (hnew : ∀ x, x < 32 → C'.L (sz + x) = 0 ∧ C'.F (sz + x) = 0) :
    Inv C' (sz + 32) laid f path (fun d' q' => E d' q' ∨ (d' = d + 1 ∧ q' = q + c * 2 ^ (5 * d))) (fun d' q' => if d' = d + 1 ∧ q' = q + c * 2 ^ (5 * d) then sz else R d' q') := by
  have hql := v.lt d q he
  have hq5 : q + c * 2 ^ (5 * d) < 2 ^ (5 * (d + 1)) := by
    rw [succ5, pow5]
    have : (c + 1) * 2 ^ (5 * d) ≤ 32 * 2 ^ (5 * d) := Nat.mul_le_mul_right _ hc
    rw [Nat.add_mul] at this
    rw [Nat.mul_comm (2 ^ (5 * d))]
    omega
  have hmodq : (q + c * 2 ^ (5 * d)) % 2 ^ (5 * d) = q := by rw [Nat.add_mul_mod_self_right, Nat.mod_eq_of_lt hql]
  -- a row that was there isn't the new one
  have old : ∀ d' q', E d' q' → ¬ (d' = d + 1 ∧ q' = q + c * 2 ^ (5 * d)) := by
    rintro d' q' h ⟨rfl, rfl⟩
    exact hn h
  have cellne : ∀ d' q' c', E d' q' → c' < 32 → ¬ (d' = d ∧ q' = q ∧ c' = c) → R d' q' + c' ≠ R d q + c := by
    intro d' q' c' h' hc' hne e
    obtain ⟨r, hr, _⟩ := v.row d q he
    obtain ⟨r', hr', _⟩ := v.row d' q' h'
    have : r = r' := by omega
    obtain ⟨rfl, rfl⟩ := v.inj _ _ _ _ h' he (by omega)
    exact hne ⟨rfl, rfl, by omega⟩
  have celllt : ∀ d' q' c', E d' q' → c' < 32 → R d' q' + c' < sz := by
    intro d' q' c' h' hc'
    obtain ⟨r', hr', h⟩ := v.row d' q' h'
    omega
  have inj2 : ∀ d' c1 q1 c2 q2, q1 < 2 ^ (5 * d') → q2 < 2 ^ (5 * d') → q1 + c1 * 2 ^ (5 * d') = q2 + c2 * 2 ^ (5 * d') → q1 = q2 ∧ c1 = c2 := by
    intro d' c1 q1 c2 q2 h1 h2 e
    have a := congrArg (· % 2 ^ (5 * d')) e
    simp only [Nat.add_mul_mod_self_right] at a
    rw [Nat.mod_eq_of_lt h1, Nat.mod_eq_of_lt h2] at a
    refine ⟨a, ?_⟩
    rw [a] at e
    exact Nat.eq_of_mul_eq_mul_right (Nat.pow_pos (n := 5 * d') (by decide : 0 < 2)) (by omega)
  -- nothing laid goes through the new row
  have through : ∀ i, laid i → 5 * (d + 1) < f i → path i % 2 ^ (5 * (d + 1)) ≠ q + c * 2 ^ (5 * d) := by
    intro i hi h e
    have := v.rows i hi (d + 1) h
    rw [e] at this
    exact hn this
  refine ⟨⟨.inl v.root.1, ?_⟩, ?_, ?_, ?_, ?_, ?_, ?_, ?_, ?_⟩
  · rw [if_neg (by omega)]
    exact v.root.2
  · intro d' q' h
    by_cases e : d' = d + 1 ∧ q' = q + c * 2 ^ (5 * d)
    · obtain ⟨r, hr⟩ := hsz
      exact ⟨r, by rw [if_pos e]; exact hr, by omega⟩
    · rcases h with h | h
      · obtain ⟨r, h1, h2⟩ := v.row d' q' h
        exact ⟨r, by rw [if_neg e]; exact h1, by omega⟩
      · exact absurd h e
  · intro d1 q1 d2 q2 h1 h2 e
    by_cases e1 : d1 = d + 1 ∧ q1 = q + c * 2 ^ (5 * d)
    · by_cases e2 : d2 = d + 1 ∧ q2 = q + c * 2 ^ (5 * d)
      · exact ⟨by omega, by omega⟩
      · rw [if_pos e1, if_neg e2] at e
        rcases h2 with h2 | h2
        · have := celllt d2 q2 0 h2 (by omega); omega
        · exact absurd h2 e2
    · by_cases e2 : d2 = d + 1 ∧ q2 = q + c * 2 ^ (5 * d)
      · rw [if_neg e1, if_pos e2] at e
        rcases h1 with h1 | h1
        · have := celllt d1 q1 0 h1 (by omega); omega
        · exact absurd h1 e1
      · rw [if_neg e1, if_neg e2] at e
        rcases h1 with h1 | h1
        · rcases h2 with h2 | h2
          · exact v.inj _ _ _ _ h1 h2 e
          · exact absurd h2 e2
        · exact absurd h1 e1
  · rintro d' q' (h | ⟨rfl, rfl⟩)
    · exact v.lt d' q' h
    · exact hq5
  · rintro d' q' (h | ⟨h1, h2⟩)
    · exact .inl (v.up d' q' h)
    · obtain rfl : d' = d := by omega
      subst h2
      rw [hmodq]
      exact .inl he
  · intro i hi d' h
    exact .inl (v.rows i hi d' h)
  · rintro d' q' c' i (h | ⟨rfl, rfl⟩) hc' hh
    · have ho := old d' q' h
      rw [if_neg ho]
      have hne := cellne d' q' c' h hc' (by rintro ⟨rfl, rfl, rfl⟩; exact hno i hh)
      obtain ⟨a1, a2, a3⟩ := hsame _ (celllt d' q' c' h hc') hne
      rw [a1, a2, a3]
      exact v.sym d' q' c' i h hc' hh
    · exfalso
      obtain ⟨g1, g2, g3, g4⟩ := hh
      refine through i g1 g2 ?_
      rw [← g4, mod_mod (by omega), Nat.add_mul_mod_self_right, Nat.mod_eq_of_lt hq5]
  · rintro d' q' c' (h | ⟨rfl, rfl⟩) hc' hE
    · have ho := old d' q' h
      rw [if_neg ho]
      by_cases e : d' = d ∧ q' = q ∧ c' = c
      · obtain ⟨rfl, rfl, rfl⟩ := e
        exact ⟨hno, by rw [if_pos ⟨rfl, rfl⟩]; exact hat⟩
      · rcases hE with hE | ⟨h1, h2⟩
        · obtain ⟨a1, a2⟩ := v.on d' q' c' h hc' hE
          refine ⟨a1, ?_⟩
          rw [(hsame _ (celllt d' q' c' h hc') (cellne d' q' c' h hc' e)).2.2, a2, if_neg (old _ _ hE)]
        · obtain rfl : d' = d := by omega
          obtain ⟨rfl, rfl⟩ := inj2 _ _ _ _ _ (v.lt _ _ h) hql h2
          exact absurd ⟨rfl, rfl, rfl⟩ e
    · exfalso
      rcases hE with hE | ⟨h1, _⟩
      · have := v.up _ _ hE
        rw [Nat.add_mul_mod_self_right, Nat.mod_eq_of_lt hq5] at this
        exact hn this
      · omega
  · rintro d' q' c' (h | ⟨rfl, rfl⟩) hc' hE hh
    · have ho := old d' q' h
      rw [if_neg ho]
      have e : ¬ (d' = d ∧ q' = q ∧ c' = c) := by
        rintro ⟨rfl, rfl, rfl⟩
        exact hE (.inr ⟨rfl, rfl⟩)
      obtain ⟨a1, a2, a3⟩ := hsame _ (celllt d' q' c' h hc') (cellne d' q' c' h hc' e)
      rw [a2, a3]
      exact v.none d' q' c' h hc' (fun x => hE (.inl x)) hh
    · rw [if_pos ⟨rfl, rfl⟩]
      exact hnew c' hc'

/-- A symbol laid into its row. -/
theorem Inv.fill {C C' : Cells} {sz : Nat} {laid : Nat → Prop} {f path : Nat → Nat} {E : Nat → Nat → Prop} {R : Nat → Nat → Nat} (v : Inv C sz laid f path E R)
    (i0 d : Nat) (hs : Sym (fun i => laid i ∨ i = i0) f path) (hnot : ¬ laid i0) (h1 : 5 * d < f i0) (h2 : f i0 ≤ 5 * d + 5)
    (hrows : ∀ d', 5 * d' < f i0 → E d' (path i0 % 2 ^ (5 * d'))) (hown : ∀ d q, E (d + 1) q → ∃ j, (laid j ∨ j = i0) ∧ 5 * (d + 1) < f j ∧ path j % 2 ^ (5 * (d + 1)) = q)
    (hat : ∀ c, c < 32 → (path i0 % 2 ^ (5 * d) + c * 2 ^ (5 * d)) % 2 ^ f i0 = path i0 → C'.S (R d (path i0 % 2 ^ (5 * d)) + c) = i0 ∧ C'.L (R d (path i0 % 2 ^ (5 * d)) + c) = f i0 ∧ C'.F (R d (path i0 % 2 ^ (5 * d)) + c) = 0)
    (hsame : ∀ x, (∀ c, c < 32 → (path i0 % 2 ^ (5 * d) + c * 2 ^ (5 * d)) % 2 ^ f i0 = path i0 → x ≠ R d (path i0 % 2 ^ (5 * d)) + c) → C'.S x = C.S x ∧ C'.L x = C.L x ∧ C'.F x = C.F x) :
    Inv C' sz (fun i => laid i ∨ i = i0) f path E R := by
  have he := hrows d h1
  have cellne : ∀ d' q' c', E d' q' → c' < 32 → (∀ i, i = i0 → ¬ Here (fun i => laid i ∨ i = i0) f path d' (q' + c' * 2 ^ (5 * d')) i) → ∀ c, c < 32 → (path i0 % 2 ^ (5 * d) + c * 2 ^ (5 * d)) % 2 ^ f i0 = path i0 → R d' q' + c' ≠ R d (path i0 % 2 ^ (5 * d)) + c := by
    intro d' q' c' h' hc' hnh c hc hfit e
    obtain ⟨r, hr, _⟩ := v.row d _ he
    obtain ⟨r', hr', _⟩ := v.row d' q' h'
    have hcc : c' = c := by omega
    obtain ⟨rfl, rfl⟩ := v.inj _ _ _ _ h' he (by omega)
    subst hcc
    exact hnh i0 rfl ⟨.inr rfl, h1, h2, hfit⟩
  -- where i0 is here, it is at depth d, in its row
  have here0 : ∀ d' q', E d' q' → ∀ c', Here (fun i => laid i ∨ i = i0) f path d' (q' + c' * 2 ^ (5 * d')) i0 → d' = d ∧ q' = path i0 % 2 ^ (5 * d) := by
    intro d' q' h' c' hh
    obtain ⟨_, a1, a2, a3⟩ := hh
    obtain rfl : d' = d := by omega
    refine ⟨rfl, ?_⟩
    rw [← a3, mod_mod (by omega), Nat.add_mul_mod_self_right, Nat.mod_eq_of_lt (v.lt _ _ h')]
  refine ⟨v.root, v.row, v.inj, v.lt, v.up, ?_, ?_, ?_, ?_⟩
  · rintro i (hi | rfl) d' h
    · exact v.rows i hi d' h
    · exact hrows d' h
  · intro d' q' c' i h hc' hh
    by_cases e : i = i0
    · subst e
      obtain ⟨rfl, rfl⟩ := here0 d' q' h c' hh
      exact hat c' hc' hh.2.2.2
    · have hl : laid i := by
        rcases hh.1 with h' | h'
        · exact h'
        · exact absurd h' e
      have hn0 : ∀ i, i = i0 → ¬ Here (fun i => laid i ∨ i = i0) f path d' (q' + c' * 2 ^ (5 * d')) i := by
        intro x hx h0
        rw [hx] at h0
        obtain ⟨_, a1, a2, a3⟩ := h0
        obtain ⟨_, b1, b2, b3⟩ := hh
        rcases Nat.le_total (f i) (f i0) with hle | hle
        · exact e (hs.apart i i0 (.inl hl) (.inr rfl) hle (by rw [← a3, mod_mod hle]; exact b3))
        · exact e (hs.apart i0 i (.inr rfl) (.inl hl) hle (by rw [← b3, mod_mod hle]; exact a3)).symm
      obtain ⟨a1, a2, a3⟩ := hsame _ (cellne d' q' c' h hc' hn0)
      rw [a1, a2, a3]
      exact v.sym d' q' c' i h hc' ⟨hl, hh.2⟩
  · intro d' q' c' h hc' hE
    have hn0 : ∀ i, i = i0 → ¬ Here (fun i => laid i ∨ i = i0) f path d' (q' + c' * 2 ^ (5 * d')) i := by
      intro x hx h0
      rw [hx] at h0
      obtain ⟨_, a1, a2, a3⟩ := h0
      obtain ⟨j, hj, b1, b2⟩ := hown _ _ hE
      rcases hj with hj | rfl
      · have hle : f i0 ≤ f j := by omega
        have := hs.apart i0 j (.inr rfl) (.inl hj) hle (by
          have e : path j % 2 ^ f i0 = path j % 2 ^ (5 * (d' + 1)) % 2 ^ f i0 := by rw [mod_mod (by omega)]
          rw [e, b2]; exact a3)
        subst this
        exact hnot hj
      · omega
    obtain ⟨a1, a2, a3⟩ := hsame _ (cellne d' q' c' h hc' hn0)
    obtain ⟨o1, o2⟩ := v.on d' q' c' h hc' hE
    refine ⟨fun i hh => ?_, by rw [a3]; exact o2⟩
    rcases hh.1 with hl | rfl
    · exact o1 i ⟨hl, hh.2⟩
    · exact hn0 _ rfl hh
  · intro d' q' c' h hc' hE hh
    obtain ⟨a1, a2, a3⟩ := hsame _ (cellne d' q' c' h hc' (fun i _ => hh i))
    rw [a2, a3]
    exact v.none d' q' c' h hc' hE (fun i x => hh i ⟨.inl x.1, x.2⟩)

end Tb
end Go.Proofs.Ythengfclijclmaa

/- Plain facts on the bits of a string: the number of some of them; no condition. -/
namespace Go.Proofs.Ythengfclijclmaa
namespace Bt

def byteN (s : ByteArray) (j : Nat) : Nat := (s.data.getD j 0).toNat
def bitAt (s : ByteArray) (k : Nat) : Bool := byteN s (k / 8) / 2 ^ (k % 8) % 2 == 1
def rval (s : ByteArray) (k n : Nat) : Nat := val ((List.range n).map fun i => bitAt s (k + i))

theorem byteN_lt (s : ByteArray) (j : Nat) : byteN s j < 256 := by
  unfold byteN
  exact UInt8.toNat_lt _

theorem rval_zero (s : ByteArray) (k : Nat) : rval s k 0 = 0 := rfl

theorem rval_lt (s : ByteArray) (k n : Nat) : rval s k n < 2 ^ n := by
  have := val_lt ((List.range n).map fun i => bitAt s (k + i))
  simpa [rval] using this

theorem rval_add (s : ByteArray) (k m n : Nat) : rval s k (m + n) = rval s k m + 2 ^ m * rval s (k + m) n := by
  unfold rval
  rw [List.range_add, List.map_append, val_append]
  simp [Function.comp_def, Nat.add_assoc]

theorem rval_one (s : ByteArray) (k : Nat) : rval s k 1 = (bitAt s k).toNat := by simp [rval, val]

theorem rval_cons (s : ByteArray) (k n : Nat) : rval s k (n + 1) = (bitAt s k).toNat + 2 * rval s (k + 1) n := by
  rw [Nat.add_comm n 1, rval_add, rval_one, Nat.pow_one]

theorem rval_div (s : ByteArray) (k m n : Nat) : rval s k (m + n) / 2 ^ m = rval s (k + m) n := by
  rw [rval_add, Nat.add_mul_div_left _ _ (Nat.pow_pos (by decide)), Nat.div_eq_of_lt (rval_lt s k m), Nat.zero_add]

theorem rval_mod (s : ByteArray) (k m n : Nat) : rval s k (m + n) % 2 ^ m = rval s k m := by
  rw [rval_add, Nat.add_mul_mod_self_left, Nat.mod_eq_of_lt (rval_lt s k m)]

theorem bit_toNat (x : Nat) : (x % 2 == 1).toNat = x % 2 := by
  rcases Nat.mod_two_eq_zero_or_one x with h | h <;> simp [h]

theorem bits8 : ∀ x : Fin 256, x.val / 1 % 2 + 2 * (x.val / 2 % 2 + 2 * (x.val / 4 % 2 + 2 * (x.val / 8 % 2 + 2 * (x.val / 16 % 2 + 2 * (x.val / 32 % 2 + 2 * (x.val / 64 % 2 + 2 * (x.val / 128 % 2 + 2 * 0))))))) = x.val := by decide +kernel

theorem rval_byte (s : ByteArray) (j : Nat) : rval s (8 * j) 8 = byteN s j := by
  have hb := byteN_lt s j
  have e : ∀ i, i < 8 → (bitAt s (8 * j + i)).toNat = byteN s j / 2 ^ i % 2 := by
    intro i hi
    unfold bitAt
    rw [show (8 * j + i) / 8 = j by omega, show (8 * j + i) % 8 = i by omega, bit_toNat]
  have h0 := e 0 (by decide)
  have h1 := e 1 (by decide)
  have h2 := e 2 (by decide)
  have h3 := e 3 (by decide)
  have h4 := e 4 (by decide)
  have h5 := e 5 (by decide)
  have h6 := e 6 (by decide)
  have h7 := e 7 (by decide)
  simp only [Nat.reducePow] at h0 h1 h2 h3 h4 h5 h6 h7
  simp only [rval, show List.range 8 = [0, 1, 2, 3, 4, 5, 6, 7] from rfl, List.map_cons, List.map_nil, val, h0, h1, h2, h3, h4, h5, h6, h7]
  exact bits8 ⟨byteN s j, hb⟩

/-- What Peek gathers: the bytes from one on, shifted, and the lowest bits of that. -/
theorem rval_peek (s : ByteArray) (t n c : Nat) (h : t % 8 + n ≤ 8 * c) : rval s (8 * (t / 8)) (8 * c) / 2 ^ (t % 8) % 2 ^ n = rval s t n := by
  obtain ⟨r, hr⟩ : ∃ r, 8 * c = t % 8 + (n + r) := ⟨8 * c - t % 8 - n, by omega⟩
  rw [hr, rval_div, rval_mod, show 8 * (t / 8) + t % 8 = t by omega]

end Bt
end Go.Proofs.Ythengfclijclmaa

/- A reader of bits: Open, Taken, Left. -/
namespace Go.Proofs.Ythengfclijclmaa
open Go.RowKit

def Rd (w : World) (b : Nat) (s : ByteArray) (t : Nat) : Prop := w.heap[b]? = some (.cells #[.string s, .int .i64 t] 118 (0, 0))

/-- Nothing but draws. -/
structure Still (w w' : World) : Prop where
  heap : w'.heap = w.heap
  os : w'.os = w.os
  tape : w'.tape = w.tape
  output : w'.output = w.output

theorem Still.refl (w : World) : Still w w := ⟨rfl, rfl, rfl, rfl⟩
theorem Still.trans {a b c : World} (h : Still a b) (k : Still b c) : Still a c := ⟨k.heap.trans h.heap, k.os.trans h.os, k.tape.trans h.tape, k.output.trans h.output⟩
theorem Still.drew {w w' : World} (h : Still w w') : Still w w'.drew := ⟨h.heap, h.os, h.tape, h.output⟩
theorem Still.drewN {w w' : World} (h : Still w w') (n : Nat) : Still w (w'.drewN n) := ⟨h.heap, h.os, h.tape, h.output⟩
theorem Still.touch {w w' : World} (h : Still w w') (S : Nat → Prop) : Touch S w w' := ⟨h.os, h.tape, h.output, by rw [h.heap]; exact Nat.le_refl _, fun k _ _ => by rw [h.heap]⟩
theorem Still.rd {w w' : World} {b : Nat} {s : ByteArray} {t : Nat} (h : Still w w') (r : Rd w b s t) : Rd w' b s t := by unfold Rd; rw [h.heap]; exact r
theorem Still.size {w w' : World} (h : Still w w') : w'.heap.size = w.heap.size := by rw [h.heap]

theorem Rd.lt {w : World} {b : Nat} {s : ByteArray} {t : Nat} (r : Rd w b s t) : b < w.heap.size := lt_of_block r
theorem Rd.c0 {w : World} {b : Nat} {s : ByteArray} {t : Nat} (r : Rd w b s t) : w.cell? ⟨b, 0, none⟩ = some (.string s) := cell_two0 r
theorem Rd.c1 {w : World} {b : Nat} {s : ByteArray} {t : Nat} (r : Rd w b s t) : w.cell? ⟨b, 1, none⟩ = some (.int .i64 t) := cell_two1 r
theorem Rd.f1 {w : World} {b : Nat} {s : ByteArray} {t : Nat} (r : Rd w b s t) : w.frozen? ⟨b, 1, none⟩ = false := free_two r
theorem Rd.set {w : World} {b : Nat} {s : ByteArray} {t t' : Nat} (r : Rd w b s t) : Rd (w.setCell ⟨b, 1, none⟩ (.int .i64 t')) b s t' := two_set1 r

theorem open_any (s : ByteArray) (w : World) :
    Calls Try.prog 28 #[.string s] w fun e w' => e = .returned (.pointer (some ⟨w.heap.size, 0, none⟩)) ∧ w' = w.alloc (.cells #[.string s, .int .i64 0] 118) := by
  go_enter Try.func28, Try.ntmps28
  go_wp2
  go_ret
  exact ⟨rfl, rfl⟩

theorem rd_new (w : World) (s : ByteArray) : Rd (w.alloc (.cells #[.string s, .int .i64 0] 118)) w.heap.size s 0 := by
  show (w.heap.push _)[_]? = _
  simp

theorem taken_any (b : Nat) (s : ByteArray) (t : Nat) (w : World) (r : Rd w b s t) :
    Calls Try.prog 30 #[.pointer (some ⟨b, 0, none⟩)] w fun e w' => e = .returned (.int .i64 t) ∧ w' = w := by
  have c1 := r.c1
  go_enter Try.func30, Try.ntmps30
  go_wp2
  go_ret
  exact ⟨rfl, rfl⟩

set_option maxHeartbeats 400000 in
theorem left_any (b : Nat) (s : ByteArray) (t : Nat) (w : World) (r : Rd w b s t) (hs : s.size ≤ 140737488355328) (ht : t ≤ 8 * s.size) :
    Calls Try.prog 80 #[.pointer (some ⟨b, 0, none⟩)] w fun e w' => e = .returned (.int .i64 (8 * s.size - t)) ∧ Still w w' := by
  have c0 := r.c0
  have c1 := r.c1
  go_enter Try.func80, Try.ntmps80
  go_wp2
  go_region
  all_goals go_wp2
  all_goals go_ret
  all_goals exact ⟨rfl, (Still.refl _).drew⟩

theorem whole_any (n : Int) (w : World) (h0 : 0 ≤ n) (h1 : n ≤ 1125899906842632) :
    Calls Try.prog 81 #[.int .i64 n] w fun e w' => e = .returned (.int .i64 ((n + 7) / 8)) ∧ w' = w := by
  go_enter Try.func81, Try.ntmps81
  go_wp2
  go_ret
  exact ⟨rfl, rfl⟩
end Go.Proofs.Ythengfclijclmaa
