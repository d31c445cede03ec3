/- Texts of this proof, one behind the other: what each says stands ahead of it. -/
import Derived.Test.YtjpmjcadnnglnaaDoorM3
import Derived.Test.YtjpmjcadnnglnaaDoorM8
import Derived.Test.YtjpmjcadnnglnaaDoorM11
/- A row of units of 16 bits: its bytes, and the scalars that they are; condition: the two tables lie there. -/
namespace Go.Proofs.YtjpmjcadnnglnaaDoor
open Go.RowKit

/-- Does an escaped unit begin there? -/
def isU (s : ByteArray) (t : Nat) : Bool := decide (lk s t = 92) && decide (lk s (t + 1) = 117)
def bu : ByteArray := ⟨#[92, 117]⟩
theorem pre_u (s : ByteArray) (t : Nat) (ht : t ≤ s.size) : begB (s.extract t s.size) bu = isU s t := by
  have h := beg_iff (s.extract t s.size) bu
  rw [show nums bu = [92, 117] from rfl] at h
  have h2 : Lays (s.extract t s.size) 0 [92, 117] ↔ (lk s t = 92 ∧ lk s (t + 1) = 117) := by
    constructor
    · intro hl
      have a0 := hl 0 (by decide)
      have a1 := hl 1 (by decide)
      rw [rest_size] at a0 a1
      obtain ⟨b0, c0⟩ := a0
      obtain ⟨b1, c1⟩ := a1
      simp only [Nat.zero_add] at b0 b1 c0 c1
      rw [rest_by (by omega)] at c0 c1
      rw [lk_by, lk_by, if_pos (by omega), if_pos (by omega)]
      exact ⟨c0, c1⟩
    · rintro ⟨h0, h1⟩
      have i0 := lk_is (c := 92) h0
      have i1 := lk_is (c := 117) h1
      intro j hj
      simp only [List.length_cons, List.length_nil] at hj
      rw [rest_size, Nat.zero_add]
      match j, hj with
      | 0, _ => exact ⟨by omega, by rw [rest_by (by omega), Nat.add_zero, i0.2]; rfl⟩
      | 1, _ => exact ⟨by omega, by rw [rest_by (by omega), i1.2]; rfl⟩
  unfold isU
  by_cases hb : begB (s.extract t s.size) bu = true
  · obtain ⟨a, b⟩ := h2.1 (h.1 hb)
    rw [hb, decide_eq_true a, decide_eq_true b]
    rfl
  · have hn : ¬ (lk s t = 92 ∧ lk s (t + 1) = 117) := fun e => hb (h.2 (h2.2 e))
    rw [Bool.not_eq_true] at hb
    rw [hb]
    symm
    rw [Bool.and_eq_false_iff]
    by_cases a : lk s t = 92
    · exact .inr (decide_eq_false (fun b => hn ⟨a, b⟩))
    · exact .inl (decide_eq_false a)
/-- The bytes of such a row, behind x. -/
def rowB (us : List Nat) : Bs := 0 :: 120 :: us.flatMap (fun n => [(n / 256).toUInt8, (n % 256).toUInt8])
theorem rowB_more (us : List Nat) (n : Nat) : rowB (us ++ [n]) = rowB us ++ [(n / 256).toUInt8, (n % 256).toUInt8] := by
  unfold rowB
  simp
theorem rowB_len : ∀ us : List Nat, (rowB us).length = 2 + 2 * us.length
  | us => by
    unfold rowB
    simp only [List.length_cons]
    have : ∀ us : List Nat, (us.flatMap (fun n => [(n / 256).toUInt8, (n % 256).toUInt8])).length = 2 * us.length := by
      intro us
      induction us with
      | nil => rfl
      | cons a l ih => rw [List.flatMap_cons, List.length_append, ih, List.length_cons]; simp only [List.length_cons, List.length_nil]; omega
    rw [this]
    omega
def rowS (us : List Nat) : ByteArray := ⟨(rowB us).toArray⟩
theorem rowS_size (us : List Nat) : (rowS us).size = 2 + 2 * us.length := by
  show (rowB us).toArray.size = _
  rw [List.size_toArray, rowB_len]
/-- The scalars from a place on, in any coding. -/
def scC (s : ByteArray) (c : Nat) : Nat → Nat → List Int
  | 0, _ => []
  | k + 1, i => if i < s.size then (if (tkAt s c i).1 = -1 then 65533 else (tkAt s c i).1) :: scC s c k (i + (tkAt s c i).2) else []
theorem dc_scC (s : ByteArray) (c : Nat) : ∀ (k i : Nat) (rs ps : List Int) (bad : Nat), (dcGo s c false k i rs ps bad).2.1 = rs ++ scC s c k i
  | 0, _, rs, _, _ => by simp [dcGo, scC]
  | k + 1, i, rs, ps, bad => by
    by_cases h : i < s.size
    · rw [dc_step h, scC, if_pos h]
      split
      · rw [if_neg (by decide), dc_scC s c k, List.append_assoc]
        rfl
      · rw [dc_scC s c k, List.append_assoc]
        rfl
    · rw [dc_end (by omega), scC, if_neg h, List.append_nil]
theorem scC_ok (s : ByteArray) (c : Nat) (hc : c = 1 ∨ c = 2 ∨ c = 3 ∨ c = 4) : ∀ (k i : Nat), ∀ x ∈ scC s c k i, scB x = true
  | 0, _ => by simp [scC]
  | k + 1, i => by
    intro x hx
    rw [scC] at hx
    split at hx
    · rename_i hi
      rcases List.mem_cons.1 hx with e | e
      · rw [e]
        split
        · decide
        · rename_i h
          exact okc_sc (tkAt_bwd c hc s i hi h).1
      · exact scC_ok s c hc k _ x e
    · cases hx
theorem scC_len (s : ByteArray) (c : Nat) : ∀ (k i : Nat), (scC s c k i).length ≤ k
  | 0, _ => by simp [scC]
  | k + 1, i => by
    rw [scC]
    split
    · have := scC_len s c k (i + (tkAt s c i).2)
      simp only [List.length_cons]
      omega
    · simp
theorem sc_is {x : Int} (h : scB x = true) : isSc x.toNat ∧ ((x.toNat : Nat) : Int) = x := by
  have := (scB_iff x).1 h
  unfold isSc
  omega
/-- The scalars of a row. -/
def su (us : List Nat) : List Nat := (scC (rowS us) 3 (1 + 2 * us.length) 2).map Int.toNat
theorem su_len (us : List Nat) : (su us).length ≤ 1 + 2 * us.length := by
  unfold su
  rw [List.length_map]
  exact scC_len _ _ _ _
theorem su_sc (us : List Nat) : ∀ x ∈ su us, isSc x := by
  intro x hx
  unfold su at hx
  obtain ⟨y, hy, rfl⟩ := List.mem_map.1 hx
  exact (sc_is (scC_ok _ 3 (by omega) _ _ y hy)).1
theorem row_zero (us : List Nat) : byN (rowS us) 0 = 0 ∧ byN (rowS us) 1 = 120 := by
  have h0 : 0 < (rowS us).size := by rw [rowS_size]; omega
  have h1 : 1 < (rowS us).size := by rw [rowS_size]; omega
  rw [← by_get _ _ h0, ← by_get _ _ h1]
  exact ⟨rfl, rfl⟩
theorem row_bg (us : List Nat) : bg (rowS us) 3 = (3, 0) := by
  unfold bg
  rw [if_neg (by decide), if_neg]
  intro h
  have := (beg_iff _ _).1 h 0 (by decide)
  rw [Nat.zero_add, (row_zero us).1] at this
  exact absurd this.2 (by decide)
theorem row_first (us : List Nat) : scC (rowS us) 3 (rowS us).size 0 = 120 :: scC (rowS us) 3 (1 + 2 * us.length) 2 := by
  have hz := rowS_size us
  obtain ⟨z0, z1⟩ := row_zero us
  have hU : unitB (rowS us) 0 = 120 := by
    unfold unitB
    rw [if_neg (by omega), z0, Nat.zero_add, z1]
    rfl
  have e : tkAt (rowS us) 3 0 = (120, 2) := by
    unfold tkAt tk16
    rw [if_neg (by decide), if_pos rfl, hU, if_neg (by decide), if_pos (by decide)]
  rw [hz, show 2 + 2 * us.length = (1 + 2 * us.length) + 1 by omega, scC, if_pos (by omega), e]
  rfl
/-- Decode of such a row. -/
theorem decU_any (us : List Nat) (hs : us.length ≤ 1048576) (w : World) (ht : Tabs w) : Calls Tryd.prog 13 #[.string (rowS us), .int .i64 3, .bool false] w fun e w' =>
    ∃ g c a2 n2 c2 bad, e = .returned (.tuple #[.agg #[.int .i64 3, .slice (some ⟨g, 0, none⟩) ((su us).length + 1) c, .slice a2 n2 c2, .int .i64 (bad : Nat)], .agg #[.int .i64 0, .int .i64 0]]) ∧
      Touch (fun _ => False) w w' ∧ w.heap.size ≤ g ∧ g < w'.heap.size ∧ (su us).length + 1 ≤ c ∧ (∀ i x, (su us)[i]? = some x → w'.cell? ⟨g, i + 1, none⟩ = some (.int .i64 (x : Nat))) := by
  have k := decode_any (rowS us) 3 false w ht (by rw [rowS_size]; omega) (by decide)
  rw [row_bg] at k
  refine k.mono ?_
  intro e w' h
  rcases h with ⟨i, h1, _⟩ | ⟨_, h2⟩
  · rw [dc_loose] at h1
    cases h1
  · obtain ⟨v1, v2, he, o1, o2⟩ := h2.ex
    rw [show (((3 : Nat), (0 : Nat)).1) = 3 from rfl, show (((3 : Nat), (0 : Nat)).2) = 0 from rfl] at he o1 o2
    rw [dc_scC, List.nil_append, row_first] at o1
    have hl : (120 :: scC (rowS us) 3 (1 + 2 * us.length) 2).length = (su us).length + 1 := by unfold su; simp
    obtain ⟨a2, c2, rfl⟩ := own_shape o2.own
    rcases o1.own.2 with ⟨_, h0⟩ | ⟨g, cap, cur, hv, hg, hh, hcap, rest⟩
    · rw [hl] at h0
      omega
    · rw [hv] at he
      rw [hl] at he hcap
      refine ⟨g, cap, a2, _, c2, _, he, o1.touch, o1.new g (by rw [hv]; rfl), lt_of_block hh, by omega, ?_⟩
      intro i x hx
      have h1 : (120 :: scC (rowS us) 3 (1 + 2 * us.length) 2)[i + 1]? = some (x : Int) := by
        rw [List.getElem?_cons_succ]
        unfold su at hx
        rw [List.getElem?_map] at hx
        cases hy : (scC (rowS us) 3 (1 + 2 * us.length) 2)[i]? with
        | none => rw [hy] at hx; cases hx
        | some y =>
          rw [hy] at hx
          have := (sc_is (scC_ok _ 3 (by omega) _ _ y (List.mem_of_getElem? hy))).2
          cases hx
          rw [this]
      have h2 := o1.own.cells (g := g) (by rw [hv]; rfl) (i + 1) (.int .i64 (x : Int)) (by unfold encI; rw [List.getElem?_map, h1]; rfl)
      rwa [add_g] at h2
end Go.Proofs.YtjpmjcadnnglnaaDoor

/- A parser of JSON: units: a row of escaped units of 16 bits; conditions: the two tables lie there, the text has at most 1048576 bytes. -/
namespace Go.Proofs.YtjpmjcadnnglnaaDoor
open Go.RowKit
open Go.Lib

/-- A parser has gone on, and bytes were put behind bytes. -/
structure PG (w w' : World) (b : Nat) (s : ByteArray) (u d : Nat) (v v' : Value) (l' : Bs) : Prop where
  own : OB w' v' l'
  ps : Ps w' b s u d
  touch : Touch (fun k => k = b ∨ v.ownBlock = some k) w w'
  pos : v'.ownBlock = v.ownBlock ∨ ∃ g, v'.ownBlock = some g ∧ w.heap.size ≤ g
def usF (s : ByteArray) : Nat → Nat → List Nat → Except Nat (List Nat × Nat)
  | 0, t, us => .ok (us, t)
  | k + 1, t, us => if isU s t = true then match unitE s (t + 2) with
      | .error e => .error e
      | .ok (n, u) => usF s k u (us ++ [n])
    else .ok (us, t)
def UsR (s : ByteArray) (b d : Nat) (l : Bs) (v : Value) (w : World) : Except Nat (List Nat × Nat) → Ending → World → Prop
  | .ok (us, u), e, w' => ∃ v', e = .returned v' ∧ PG w w' b s u d v v' (l ++ (su us).flatMap ub)
  | .error k, e, w' => e = thrown 20 k ∧ Ps w' b s k d ∧ Touch (fun k => k = b) w w'
theorem unF_ok (s : ByteArray) : ∀ (k t n m u : Nat), unF s k t n = .ok (m, u) → u = t + k ∧ m < 16 ^ k * (n + 1) ∧ (0 < k → u ≤ s.size)
  | 0, t, n, m, u, h => by
    rw [unF] at h
    cases h
    exact ⟨rfl, by omega, fun h => absurd h (by decide)⟩
  | k + 1, t, n, m, u, h => by
    rw [unF] at h
    split at h
    · cases h
    · rename_i hx
      have hl := hexV_lt hx
      have hv := hexV_in (lk s t)
      obtain ⟨h1, h2, h3⟩ := unF_ok s k _ _ _ _ h
      have h4 : 16 ^ k * (16 * n + (hexV (lk s t)).toNat + 1) ≤ 16 ^ k * (16 * (n + 1)) := Nat.mul_le_mul_left _ (by omega)
      refine ⟨by omega, ?_, fun _ => ?_⟩
      · rw [Nat.pow_succ, Nat.mul_assoc]
        omega
      · by_cases hk : 0 < k
        · exact h3 hk
        · omega
theorem unitE_ok {s : ByteArray} {t m u : Nat} (h : unitE s t = .ok (m, u)) : u = t + 4 ∧ m < 65536 ∧ u ≤ s.size := by
  unfold unitE at h
  obtain ⟨h1, h2, h3⟩ := unF_ok s 4 t 0 m u h
  exact ⟨h1, by simpa using h2, h3 (by decide)⟩
theorem isU_iff {s : ByteArray} {t : Nat} (h : isU s t = true) : lk s t = 92 ∧ lk s (t + 1) = 117 ∧ t + 2 ≤ s.size ∧ needE s bu.data.toList t = .ok (t + 2) := by
  unfold isU at h
  rw [Bool.and_eq_true, decide_eq_true_eq, decide_eq_true_eq] at h
  have := (lk_is (c := 117) h.2).1
  refine ⟨h.1, h.2, by omega, ?_⟩
  show needE s [92, 117] t = _
  rw [needE, if_pos (by rw [h.1]; rfl), needE, if_pos (by rw [h.2]; rfl), needE]
theorem append_sc (x : Nat) (l : Bs) (v : Value) (w : World) (ho : OB w v l) (hl : l.length ≤ 1099511627776) (hx : isSc x) :
    Calls Tryd.prog 70 #[v, .int .i32 (x : Nat)] w fun e w' => ∃ v', e = .returned v' ∧ Grew w w' v v' (l ++ ub x) := by
  by_cases h : x < 128
  · have := append_ascii x l v w ho hl h
    rw [show ub x = [x.toUInt8] from by unfold ub; rw [if_pos h]]
    exact this
  · unfold isSc at hx
    exact append_wide x l v w ho hl (by omega) (by omega) (by omega)
theorem ub_len (x : Nat) : (ub x).length ≤ 6 := by
  unfold ub
  split
  · exact Nat.le_of_ble_eq_true rfl
  · split
    · exact Nat.le_of_ble_eq_true rfl
    · split
      · exact Nat.le_of_ble_eq_true rfl
      · exact Nat.le_of_ble_eq_true rfl
theorem OB.block {w : World} {v : Value} {l : Bs} (h : OB w v l) : ∀ k, v.ownBlock = some k → k < w.heap.size := by
  intro k hk
  rcases h.2 with ⟨hv, _⟩ | ⟨g', cap, cur, hv, _, hh, _⟩
  · rw [hv] at hk
    cases hk
  · rw [hv] at hk
    cases hk
    exact lt_of_block hh
/-- The literal row, marked as one that was made of a text. -/
theorem conv_mark (w : World) : (convert 97 97 (.slice (some ⟨w.heap.size, 0, none⟩) 2 2)).run Tryd.prog (w.alloc (.cells #[.int .u8 0, .int .u8 120] 5)) = .ok (.slice (some ⟨w.heap.size, 0, none⟩) 2 2) (w.alloc (.cells #[.int .u8 0, .int .u8 120] 5 (2, 3))) := by
  have hsh : (w.alloc (.cells #[.int .u8 0, .int .u8 120] 5)).shape? w.heap.size = some (5, 2) := by
    have : (w.alloc (.cells #[.int .u8 0, .int .u8 120] 5)).heap[w.heap.size]? = some (.cells #[.int .u8 0, .int .u8 120] 5) := by
      show (w.heap.push (.cells #[.int .u8 0, .int .u8 120] 5))[w.heap.size]? = _
      simp
    unfold World.shape?
    rw [this]
    rfl
  have hfr : (w.alloc (.cells #[.int .u8 0, .int .u8 120] 5)).freeze ⟨w.heap.size, 2, none⟩ 1 = w.alloc (.cells #[.int .u8 0, .int .u8 120] 5 (2, 3)) := by
    have hm : ∀ (a : Array Obj) (x : Obj) (f : Obj → Obj), (a.push x).modify a.size f = a.push (f x) := by
      intro a x f
      apply Array.ext
      · simp
      · intro i h1 h2
        simp only [Array.getElem_modify, Array.getElem_push]
        by_cases h : a.size = i
        · subst h
          simp
        · have hi : i < a.size := by simp at h1; omega
          simp [h, hi]
    unfold World.freeze
    rw [if_neg (by decide)]
    show ({ w.alloc (.cells #[.int .u8 0, .int .u8 120] 5) with heap := (w.heap.push (.cells #[.int .u8 0, .int .u8 120] 5)).modify w.heap.size _ } : World) = _
    rw [hm]
    rfl
  simp [convert, run_underlying Tryd.underlying97, run_underlying Tryd.underlying5, markStringish, hsh, hfr]
/-- The row in memory. -/
def RI (w : World) (v : Value) (us : List Nat) : Prop := (us = [] ∧ ∃ g, v = .slice (some ⟨g, 0, none⟩) 2 2 ∧ w.heap[g]? = some (.cells #[.int .u8 0, .int .u8 120] 5 (2, 3))) ∨ OB w v (rowB us)
theorem RI.kept {w w' : World} {v : Value} {us : List Nat} {S : Nat → Prop} (h : RI w v us) (tc : Touch S w w') (hn : ∀ g, v.ownBlock = some g → ¬ S g) : RI w' v us := by
  rcases h with ⟨h0, g, rfl, hg⟩ | h
  · exact .inl ⟨h0, g, rfl, (tc.block g (lt_of_block hg) (hn g rfl)).trans hg⟩
  · exact .inr (h.kept tc hn)
theorem RI.lit (w : World) : RI (w.alloc (.cells #[.int .u8 0, .int .u8 120] 5 (2, 3))) (.slice (some ⟨w.heap.size, 0, none⟩) 2 2) [] := by
  refine .inl ⟨rfl, _, rfl, ?_⟩
  show (w.heap.push _)[w.heap.size]? = _
  simp
theorem wpList_append_marked {w : World} {ops : Array Oper} {rest : List Oper} {o : Oper} {a : Act} {Q : Exit → Act → World → Prop} (hgd : o.guard = none) (sl x : Operand)
    (ho : o.op = .call { callee := .builtin .append, args := #[sl, x], argTypes := #[97, 97] }) (g : Nat) (hs : a.eval sl = .slice (some ⟨g, 0, none⟩) 2 2) (hb : w.heap[g]? = some (.cells #[.int .u8 0, .int .u8 120] 5 (2, 3)))
    (ad : Addr) (c : Nat) (y z : Value) (hx : a.eval x = .slice (some ad) 2 c) (hnews : ∀ j u, [y, z][j]? = some u → w.cell? (ad.add j) = some u)
    (h : ∀ v' w', w'.ownsRow 0 5 1 v' 4 ([.int .u8 0, .int .u8 120] ++ [y, z]) → w.grownBy w' (some g) → v'.ownBlock = some w.heap.size → wpList Tryd.prog ops Q rest (a.put o.dst v') w') :
    wpList Tryd.prog ops Q (o :: rest) a w := by
  obtain ⟨i, hi, hz0, hz1, hz2⟩ := info_parts info5b
  refine wpList_plain hgd fun K hK => ?_
  have hold : ∀ j v, ([.int .u8 0, .int .u8 120] : List Value)[j]? = some v → w.cell? ((⟨g, 0, none⟩ : Addr).add j) = some v := by
    intro j v hj
    rw [add_g]
    match j, hj with
    | 0, hj => simpa [World.cell?, hb] using hj
    | 1, hj => simpa [World.cell?, hb] using hj
    | j + 2, hj => simp at hj
  have hr := run_append_grow (P := Tryd.prog) w 97 o.type 5 i (.int .u8 0) Tryd.underlying97 hi hz0 ⟨g, 0, none⟩ 2 2 [.int .u8 0, .int .u8 120] (by rw [hz1]; rfl) hold ad 2 c [y, z] (by rw [hz1]; rfl) hnews (by omega) (by omega) (growslice_fits (by omega) (by rw [hz2]; omega))
  have hge := grownCap_ge w (2 + 2) 2 5
  unfold Oper.wp execOp
  simp only [ho, resolve, invoke, builtin, Sem.run_bind, Sem.run_pure, Result.andThen_ok, List.map_toArray, List.map_cons, List.map_nil, hs, hx, hr]
  refine hK _ _ (h _ _ ⟨rfl, .inr ⟨w.heap.size, grownCap w (2 + 2) 2 5, _, rfl, Nat.zero_le _, heap_alloc_new w.drew _, by omega, grownCap_le_maxLen w (2 + 2) 2 5 (by unfold maxLen; omega), ?_, ?_⟩⟩ ⟨rfl, rfl, rfl, by simp, fun k hk _ => heap_alloc_old w.drew _ hk⟩ rfl)
  · have hzc : (Value.int .u8 0).cells.size = 1 := by rfl
    simp only [Array.size_append, List.size_toArray, size_zeroCells, hzc, List.length_cons, List.length_nil]
    omega
  · simp only [Array.toList_append]
    rfl
end Go.Proofs.YtjpmjcadnnglnaaDoor

/- A parser of JSON: units, the walk; conditions: the two tables lie there, the text has at most 1048576 bytes. -/
namespace Go.Proofs.YtjpmjcadnnglnaaDoor
open Go.RowKit
open Go.Lib

set_option maxRecDepth 100000 in
set_option maxHeartbeats 8000000 in
theorem junits_any (b : Nat) (s : ByteArray) (t d : Nat) (l : Bs) (v : Value) (w : World) (h : Ps w b s t d) (ho : OB w v l) (hb : v.ownBlock ≠ some b) (hb2 : 2 ≤ b) (ht : Tabs w) (hs : s.size ≤ 1048576) (htt : t ≤ s.size) (hl : l.length ≤ 1073741824) (hU0 : isU s t = true) :
    Calls Tryd.prog 67 #[.pointer (some ⟨b, 0, none⟩), v] w fun e w' => UsR s b d l v w (usF s s.size t []) e w' := by
  obtain ⟨i0, hi5, hz0, hz1, hz2⟩ := info_parts info5b
  obtain ⟨ad, cp, hv⟩ := own_shape ho
  subst hv
  obtain ⟨N, hN⟩ : ∃ N, l.length = N := ⟨_, rfl⟩
  have OW := hid (show OB w (.slice ad N cp) l from by rw [← hN]; exact ho)
  rw [hN] at hb hl ⊢
  have HN := hid hN
  have NB := hid hb
  have HB2 := hid hb2
  have HTB := hid ht
  clear hN ho hb hb2 ht
  obtain ⟨X, hX⟩ : ∃ X, X = usF s s.size t [] := ⟨_, rfl⟩
  have HX := hid hX.symm
  rw [← hX]
  clear hX
  have TA := (Touch.refl (fun _ => False) w).alloc (.cells #[.int .u8 0, .int .u8 120] 5 (2, 3))
  have HP := hid (h.new TA)
  have TW := hid (TA.mono (S' := fun k => k = b) (fun _ _ e => e.elim))
  have RL := hid (RI.lit w)
  have RN := hid (show ∀ g, (Value.slice (some ⟨w.heap.size, 0, none⟩) 2 2).ownBlock = some g → w.heap.size ≤ g from fun g e => by cases e; exact Nat.le_refl _)
  have HBW := hid h.lt
  have hcv := conv_mark w
  clear TA h
  go_enter Tryd.func67, Tryd.ntmps67
  go_wp2_with fail
  go_loopg [5] s.size (fun gk v5 wq => ∃ (t' : Nat) (us : List Nat) (a5 : Option Addr) (n5 c5 : Nat), v5 = .slice a5 n5 c5 ∧ t' ≤ s.size ∧ s.size ≤ t' + gk ∧ us.length ≤ t' ∧ (us = [] → t' = t) ∧ n5 = 2 + 2 * us.length ∧ Hid (Ps wq b s t' d) ∧ Hid (RI wq (.slice a5 n5 c5) us) ∧ Hid (∀ g, (Value.slice a5 n5 c5).ownBlock = some g → w.heap.size ≤ g) ∧ Hid (usF s gk t' us = X) ∧ Hid (Touch (fun k => k = b) w wq))
  case atStart => exact ⟨t, [], _, _, _, rfl, htt, by omega, by simp, fun _ => rfl, rfl, HP, RL, RN, HX, TW⟩
  case round =>
    obtain ⟨t', us, a5, n5, c5, rfl, htl, hgk, hut, hu0, hn5, HK, RK, RM, HD, TK⟩ := hrel
    clear HP TW RL RN HX hcv
    have HN5 := hid hn5
    have HU0 := hid hu0
    have HUT := hid hut
    clear hn5 hu0 hut
    have c0 := HK.out.c0
    have c1 := HK.out.c1
    have htI : (t' : Int) ≤ (s.size : Int) := by omega
    have ht0 : (0 : Int) ≤ (t' : Int) := by omega
    have hU := pre_u s t' htl
    have KH := hid (fun w => hasPrefix_any (s.extract t' s.size) bu w)
    rw [hU] at KH
    clear hU
    by_cases hu : isU s t' = true
    · obtain ⟨_, _, hu2, hne⟩ := isU_iff hu
      rw [hu] at KH
      unfold bu at KH
      obtain ⟨g, rfl⟩ : ∃ g, gk = g + 1 := ⟨gk - 1, by omega⟩
      rw [usF, if_pos hu] at HD
      have KN := hid (fun w' (hp : Ps w' b s t' d) => need_any b s bu t' d w' hp hs htl (by decide))
      rw [hne] at KN
      unfold bu NeedR at KN
      have KU := hid (fun w' (hp : Ps w' b s (t' + 2) d) => junit_any b s (t' + 2) d w' hp hs hu2)
      clear hu hne
      go_wp2_with fail
      go_quiet (exact (KH.out _).mono (fun e w' h => ⟨h.1, _, h.2.symm⟩))
      have TQ := (Touch.refl (fun _ => False) wr).drewN nq
      have H1 := hid (HK.out.new TQ)
      have T1 := hid (TK.out.trans TQ (fun _ _ e => e.elim))
      have R1 := hid (RK.out.kept TQ (fun _ _ e => e))
      clear HK TK RK TQ c0 c1 KH
      generalize wr.drewN nq = w1 at *
      go_wp2_with fail
      refine (KN.out _ H1.out).mono ?_
      rintro e w2 ⟨rfl, hp, tt⟩
      have H2 := hid hp
      have T2 := hid (T1.out.trans tt (fun _ _ e => e))
      have R2 := hid (R1.out.kept tt (fun g e e2 => by have := RM.out g e; have := HBW.out; omega))
      clear hp tt KN H1 T1 R1
      have KU2 := hid (KU.out w2 H2.out)
      clear KU
      cases hE : unitE s (t' + 2) with
      | error k =>
        rw [hE] at HD KU2
        unfold UnitR thrown at KU2
        clear hE
        go_wp2_with fail
        refine KU2.out.mono ?_
        rintro e w3 ⟨rfl, hp, tt⟩
        have H3 := hid hp
        have T3 := hid (T2.out.trans tt (fun _ _ e => e))
        clear hp tt KU2 H2 T2 R2
        go_wp2
        refine ⟨rfl, ?_⟩
        rw [← HD.out]
        exact ⟨rfl, H3.out, T3.out⟩
      | ok nu =>
        obtain ⟨n, u⟩ := nu
        rw [hE] at HD KU2
        obtain ⟨e1, e2, e3⟩ := unitE_ok hE
        unfold UnitR at KU2
        clear hE
        go_wp2_with fail
        refine KU2.out.mono ?_
        rintro e w3 ⟨rfl, hp, tt⟩
        have H3 := hid hp
        have T3 := hid (T2.out.trans tt (fun _ _ e => e))
        have R3 := hid (R2.out.kept tt (fun g e e2 => by have := RM.out g e; have := HBW.out; omega))
        clear hp tt KU2 H2 T2 R2
        have HBV := hid (show bv [(n / 256).toUInt8, (n % 256).toUInt8] = [.int .u8 ((n : Int) / 256), .int .u8 ((n : Int) % 256)] from by
          simp [bv]
          omega)
        rcases R3.out with ⟨hus0, g0, hv0, hg0⟩ | ho3
        · subst hus0
          cases hv0
          have HG0 := hid hg0
          have HG1 := hid (show (w3.alloc (.cells #[.int .u8 ((n : Int) / 256), .int .u8 ((n : Int) % 256)] 5)).heap[g0]? = some (.cells #[.int .u8 0, .int .u8 120] 5 (2, 3)) from (((Touch.refl (fun _ => False) w3).alloc _).block g0 (lt_of_block hg0) id).trans hg0)
          clear hg0
          go_wp2_with (at_builtin; (refine wpList_append_marked rfl _ _ rfl g0 rfl HG1.out ⟨w3.heap.size, 0, none⟩ 2 (.int .u8 ((n : Int) / 256)) (.int .u8 ((n : Int) % 256)) rfl (row_new w3 [.int .u8 ((n : Int) / 256), .int .u8 ((n : Int) % 256)] 5) ?_))
          intro v' w4 hown hgrow hat
          have G4 := hid (grew_of (w := w3) (v := .slice (some ⟨g0, 0, none⟩) 2 2) (m := [(n / 256).toUInt8, (n % 256).toUInt8]) (l := rowB []) (by rw [HBV.out]; exact hown) hgrow (.inr hat))
          clear hown hgrow hat HBV HG0 HG1
          obtain ⟨a6, c6, hv6⟩ := own_shape G4.out.own
          have hl6 : (rowB [] ++ [(n / 256).toUInt8, (n % 256).toUInt8]).length = 2 + 2 * (([] : List Nat).length + 1) := rfl
          rw [hl6] at hv6
          subst hv6
          go_wp2
          go_roundg g
          case measure => omega
          case rel =>
            refine ⟨u, [] ++ [n], a6, 2 + 2 * (([] : List Nat).length + 1), c6, rfl, e3, by omega, by have := HUT.out; simp; omega, by simp, by simp, ?_, ?_, ?_, HD, ?_⟩
            · exact hid ((G4.out.touch.block b H3.out.lt (fun e => by have := RM.out b e; have := HBW.out; omega)).trans H3.out)
            · exact hid (.inr (by rw [rowB_more]; exact G4.out.own))
            · refine hid (fun g e => ?_)
              rcases G4.out.pos with e2 | ⟨g2, e2, h2⟩
              · exact RM.out g (by rw [← e2]; exact e)
              · rw [e2] at e
                cases e
                exact Nat.le_trans T3.out.size h2
            · exact hid (T3.out.trans G4.out.touch (fun i hi e => by have := RM.out i e; omega))
        · have O3 := hid (show w3.ownsRow 0 5 1 (.slice a5 n5 c5) n5 (bv (rowB us)) from by
            have := ho3
            unfold OB at this
            rw [rowB_len, ← HN5.out] at this
            exact this)
          go_wp2_with (at_builtin; (refine wpList_append_own_at _ rfl _ _ 97 rfl 0 5 i0 (.int .u8 0) 1 1 Tryd.underlying97 hi5 hz0 hz1 hz2 rfl (by decide) _ _ _ rfl (O3.out.alloc _) ⟨w3.heap.size, 0, none⟩ 2 2 [.int .u8 ((n : Int) / 256), .int .u8 ((n : Int) % 256)] rfl rfl (row_new w3 [.int .u8 ((n : Int) / 256), .int .u8 ((n : Int) % 256)] 5) (by intro u hu; simp at hu; rcases hu with rfl | rfl <;> rfl) (by have := HN5.out; have := HUT.out; unfold maxLen; omega) (by have := HN5.out; have := HUT.out; omega) (Nat.zero_le _) ?_))
          intro v' w4 hown hgrow _ hat
          have G4 := hid (grew_of (m := [(n / 256).toUInt8, (n % 256).toUInt8]) (l := rowB us) (by rw [HBV.out, rowB_len, ← HN5.out]; exact hown) hgrow hat)
          clear hown hgrow hat O3 HBV
          obtain ⟨a6, c6, hv6⟩ := own_shape G4.out.own
          have hl6 : (rowB us ++ [(n / 256).toUInt8, (n % 256).toUInt8]).length = 2 + 2 * (us.length + 1) := by rw [List.length_append, rowB_len]; simp only [List.length_cons, List.length_nil]; omega
          rw [hl6] at hv6
          subst hv6
          go_wp2
          go_roundg g
          case measure => omega
          case rel =>
            refine ⟨u, us ++ [n], a6, 2 + 2 * (us.length + 1), c6, rfl, e3, by omega, by have := HUT.out; simp; omega, by simp, by simp, ?_, ?_, ?_, HD, ?_⟩
            · exact hid ((G4.out.touch.block b H3.out.lt (fun e => by have := RM.out b e; have := HBW.out; omega)).trans H3.out)
            · exact hid (.inr (by rw [rowB_more]; exact G4.out.own))
            · refine hid (fun g e => ?_)
              rcases G4.out.pos with e2 | ⟨g2, e2, h2⟩
              · exact RM.out g (by rw [← e2]; exact e)
              · rw [e2] at e
                cases e
                exact Nat.le_trans T3.out.size h2
            · exact hid (T3.out.trans G4.out.touch (fun i hi e => by have := RM.out i e; omega))
    · rw [Bool.not_eq_true] at hu
      rw [hu] at KH
      unfold bu at KH
      have HDX : usF s gk t' us = .ok (us, t') := by
        cases gk with
        | zero => rfl
        | succ g => rw [usF, if_neg (by rw [hu]; decide)]
      rw [HDX] at HD
      have HU := hid hu
      clear HDX hu
      have hus : us.length ≤ 1048576 := by have := HUT.out; omega
      go_wp2_with fail
      go_quiet (exact (KH.out _).mono (fun e w' h => ⟨h.1, _, h.2.symm⟩))
      have TQ := (Touch.refl (fun _ => False) wr).drewN nq
      have H1 := hid (HK.out.new TQ)
      have T1 := hid (TK.out.trans TQ (fun _ _ e => e.elim))
      have R1 := hid (RK.out.kept TQ (fun _ _ e => e))
      clear HK TK RK TQ c0 c1 KH
      generalize wr.drewN nq = w1 at *
      have OR1 := hid (show OB w1 (.slice a5 n5 c5) (rowB us) from by
        rcases R1.out with ⟨e, _⟩ | e
        · exact absurd hU0 (by rw [← HU0.out e, HU.out]; decide)
        · exact e)
      have hconv := OR1.out.conv
      have K1 := hid (decU_any us hus w1 (HTB.out.kept T1.out (fun e => by have := HB2.out; omega) (fun e => by have := HB2.out; omega)))
      rw [show (⟨(rowB us).toArray⟩ : ByteArray) = rowS us from rfl] at hconv
      obtain ⟨R, hR⟩ : ∃ R, (su us).length = R := ⟨_, rfl⟩
      have hRl := su_len us
      rw [hR] at K1 hRl
      have HR := hid hR
      clear hR
      go_wp2_with fail
      refine K1.out.mono ?_
      rintro e w2 ⟨g, c, a2, n2, c2, bad, rfl, tt, hg1, hg2, hc, hcell⟩
      have T2 := hid (T1.out.trans tt (fun _ _ e => e.elim))
      have P2 := hid (H1.out.new tt)
      have HG := hid (And.intro (Nat.le_trans T1.out.size hg1) hg2)
      have HC := hid hcell
      clear K1 tt hg1 hg2 hcell R1 RM hconv H1 T1 OR1 HU
      go_upto_region 7 with fail
      have TA := (Touch.refl (fun _ => False) w2).alloc (.cells #[.int .i64 3, .slice (some ⟨g, 0, none⟩) (R + 1) c, .slice a2 n2 c2, .int .i64 (bad : Nat)] 56) |>.alloc (.cells #[.int .i64 0, .int .i64 0] 39)
      have BX := (((Touch.refl (fun _ => False) (w2.alloc (.cells #[.int .i64 3, .slice (some ⟨g, 0, none⟩) (R + 1) c, .slice a2 n2 c2, .int .i64 (bad : Nat)] 56))).alloc (.cells #[.int .i64 0, .int .i64 0] 39)).block w2.heap.size (by rw [size_alloc1]; omega) id).trans (jfour_new (w := w2) (.int .i64 3) (.slice (some ⟨g, 0, none⟩) (R + 1) c) (.slice a2 n2 c2) (.int .i64 (bad : Nat)) 56)
      have T4 := hid (T2.out.trans TA (fun _ _ e => e.elim))
      have P4 := hid (P2.out.new TA)
      have C3 := hid (fun i x (h : (su us)[i]? = some x) => (TA.cell (p := ⟨g, i + 1, none⟩) HG.out.2 id).trans (HC.out i x h))
      have B4 := hid BX
      have HGW := hid (show g < ((w2.alloc (.cells #[.int .i64 3, .slice (some ⟨g, 0, none⟩) (R + 1) c, .slice a2 n2 c2, .int .i64 (bad : Nat)] 56)).alloc (.cells #[.int .i64 0, .int .i64 0] 39)).heap.size from Nat.lt_of_lt_of_le HG.out.2 TA.size)
      clear TA BX T2 HC P2
      generalize (w2.alloc (.cells #[.int .i64 3, .slice (some ⟨g, 0, none⟩) (R + 1) c, .slice a2 n2 c2, .int .i64 (bad : Nat)] 56)).alloc (.cells #[.int .i64 0, .int .i64 0] 39) = w4 at *
      generalize w2.heap.size = q at *
      have O4 := hid (OW.out.kept T4.out (fun g e e2 => NB.out (by rw [e, e2])))
      have NV := hid (show ¬ (Value.slice ad N cp).ownBlock = some g from fun e => by have := OW.out.block g e; have := HG.out.1; omega)
      clear OW HG
      obtain ⟨⟨_, z1, _, _⟩, _⟩ := cells4 B4.out
      have hR1 : ¬ ((R : Int) + 1 < 1) := by omega
      have hcI : ((R : Int) + 1) ≤ (c : Int) := by omega
      go_upto_region 8 with fail
      case inl h =>
        have C4 := hid (show ∀ i x, (su us)[i]? = some x → w4.cell? ⟨g, 0 + i, none⟩ = some (.int .i64 (x : Nat)) from fun i x hx => by
          have := (List.getElem?_eq_some_iff.1 hx).1
          have h0 := HR.out
          omega)
        have G4' := hid (show Grew w4 w4 (.slice ad N cp) (.slice ad N cp) (l ++ ((su us).take 0).flatMap ub) from by simpa using Grew.refl O4.out)
        clear B4 C3 z1
        go_loopg [1, 45] R (fun gk v1 v45 wq => ∃ (k : Nat) (vv : Value), k + gk = R ∧ vv = v1 ∧ v45 = .int .i64 (k : Nat) ∧ Hid (Grew w4 wq (.slice ad N cp) vv (l ++ ((su us).take k).flatMap ub)))
        case atStart => exact ⟨0, .slice ad N cp, by omega, rfl, rfl, G4'⟩
        case round =>
          obtain ⟨k, vv, hk, rfl, rfl, GK⟩ := hrel
          clear G4'
          have HF := hid (flat_le (rs := su us) (fun x _ => ub_len x) k)
          by_cases hlt : k < R
          · exact absurd hlt (by omega)
          · have hltI : ¬ (k : Int) < (R : Int) := by omega
            have GF := hid (show Grew w4 wr (.slice ad N cp) vv (l ++ (su us).flatMap ub) from by
              have := GK.out
              rw [List.take_of_length_le (by have := HR.out; omega)] at this
              exact this)
            clear GK HF
            go_wp2
            go_ret
            rw [← HD.out]
            refine ⟨vv, rfl, GF.out.own, ?_, ?_, ?_⟩
            · exact (GF.out.touch.block b P4.out.lt (fun e => NB.out e)).trans P4.out
            · exact Touch.trans (T4.out.mono (fun _ _ e => .inl e)) GF.out.touch (fun _ _ e => .inr e)
            · exact GF.out.pos.imp id (fun ⟨g, a, c⟩ => ⟨g, a, Nat.le_trans T4.out.size c⟩)

      case inr h =>
        have C4 := hid (show ∀ i x, (su us)[i]? = some x → w4.cell? ⟨g, 1 + i, none⟩ = some (.int .i64 (x : Nat)) from fun i x hx => by
          rw [Nat.add_comm]
          exact C3.out i x hx)
        have G4' := hid (show Grew w4 w4 (.slice ad N cp) (.slice ad N cp) (l ++ ((su us).take 0).flatMap ub) from by simpa using Grew.refl O4.out)
        clear B4 C3 z1
        go_loopg [1, 45] R (fun gk v1 v45 wq => ∃ (k : Nat) (vv : Value), k + gk = R ∧ vv = v1 ∧ v45 = .int .i64 (k : Nat) ∧ Hid (Grew w4 wq (.slice ad N cp) vv (l ++ ((su us).take k).flatMap ub)))
        case atStart => exact ⟨0, .slice ad N cp, by omega, rfl, rfl, G4'⟩
        case round =>
          obtain ⟨k, vv, hk, rfl, rfl, GK⟩ := hrel
          clear G4'
          have HF := hid (flat_le (rs := su us) (fun x _ => ub_len x) k)
          by_cases hlt : k < R
          · obtain ⟨x, hx⟩ : ∃ x, (su us)[k]? = some x := ⟨(su us)[k]'(by have := HR.out; omega), List.getElem?_eq_getElem _⟩
            have hltI : (k : Int) < (R : Int) := by omega
            have ck : wr.cell? ⟨g, 1 + k, none⟩ = some (.int .i64 (x : Nat)) := (GK.out.touch.cell (p := ⟨g, 1 + k, none⟩) HGW.out NV.out).trans (C4.out k x hx)
            have hxs : isSc x := su_sc us x (List.mem_of_getElem? hx)
            have KX := hid (append_sc x _ vv wr GK.out.own (by
              have := HF.out
              have := HN.out
              simp only [List.length_append]
              omega) hxs)
            have hxm : (x : Int) ≤ 1114111 := by unfold isSc at hxs; omega
            have HX := hid hx
            clear hx hxs
            go_wp2_with fail
            refine KX.out.mono ?_
            rintro e w5 ⟨v', rfl, g5⟩
            have G5 := hid (GK.out.trans g5)
            clear KX g5 ck
            go_wp2
            go_roundg (gk - 1)
            case measure => omega
            case rel =>
              refine ⟨k + 1, v', by omega, rfl, by go_num, hid ?_⟩
              have e : l ++ ((su us).take (k + 1)).flatMap ub = l ++ ((su us).take k).flatMap ub ++ ub x := by
                rw [List.take_add_one, HX.out]
                simp
              rw [e]
              exact G5.out
          · have hltI : ¬ (k : Int) < (R : Int) := by omega
            have GF := hid (show Grew w4 wr (.slice ad N cp) vv (l ++ (su us).flatMap ub) from by
              have := GK.out
              rw [List.take_of_length_le (by have := HR.out; omega)] at this
              exact this)
            clear GK HF
            go_wp2
            go_ret
            rw [← HD.out]
            refine ⟨vv, rfl, GF.out.own, ?_, ?_, ?_⟩
            · exact (GF.out.touch.block b P4.out.lt (fun e => NB.out e)).trans P4.out
            · exact Touch.trans (T4.out.mono (fun _ _ e => .inl e)) GF.out.touch (fun _ _ e => .inr e)
            · exact GF.out.pos.imp id (fun ⟨g, a, c⟩ => ⟨g, a, Nat.le_trans T4.out.size c⟩)

end Go.Proofs.YtjpmjcadnnglnaaDoor
