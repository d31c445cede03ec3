/- Texts of this proof, one behind the other: what each says stands ahead of it. -/
import Derived.Test.YtjpmjcadnnglnaaDoorM6
import Derived.Lib.AppendStr
import Derived.Laws.Runes
import Derived.Scope
import Derived.Laws.RangeAny
import Derived.LoopTactic
/- quote: a text in quotes, given its scalars and what each is quoted as; conditions: the two tables lie there, the text is not too long. -/
namespace Go.Proofs.YtjpmjcadnnglnaaDoor
open Go.RowKit
open Go.Lib

theorem flat_le {qo : Nat → Bs} {rs : List Nat} (h : ∀ x ∈ rs, (qo x).length ≤ 6) : ∀ k, ((rs.take k).flatMap qo).length ≤ 6 * k
  | 0 => by simp
  | k + 1 => by
    have ih := flat_le h k
    rw [List.take_add_one, List.flatMap_append, List.length_append]
    cases e : rs[k]? with
    | none =>
      show _ + (([] : List Nat).flatMap qo).length ≤ _
      rw [List.flatMap_nil, List.length_nil]
      omega
    | some x =>
      have := h x (List.mem_of_getElem? e)
      show _ + (([x] : List Nat).flatMap qo).length ≤ _
      rw [List.flatMap_cons, List.flatMap_nil, List.append_nil]
      omega
/-- Decode of x and a text, not strict. -/
def DecX (s : ByteArray) (rs : List Nat) : Prop := ∀ w, Tabs w → Calls Tryd.prog 13 #[.string (xs s), .int .i64 1, .bool false] w fun e w' =>
  ∃ g c a2 n2 c2 bad, e = .returned (.tuple #[.agg #[.int .i64 1, .slice (some ⟨g, 0, none⟩) (rs.length + 1) c, .slice a2 n2 c2, .int .i64 (bad : Nat)], .agg #[.int .i64 0, .int .i64 0]]) ∧
    Touch (fun _ => False) w w' ∧ w.heap.size ≤ g ∧ g < w'.heap.size ∧ rs.length + 1 ≤ c ∧ (∀ i x, rs[i]? = some x → w'.cell? ⟨g, i + 1, none⟩ = some (.int .i64 (x : Nat)))
end Go.Proofs.YtjpmjcadnnglnaaDoor

/- Decode of x and any text, not strict: its scalars; conditions: the two tables lie there, the text is not too long. -/
namespace Go.Proofs.YtjpmjcadnnglnaaDoor
open Go.RowKit

theorem dc_loose (s : ByteArray) (c : Nat) : ∀ (k i : Nat) (rs ps : List Int) (bad : Nat), (dcGo s c false k i rs ps bad).1 = none
  | 0, _, _, _, _ => rfl
  | k + 1, i, rs, ps, bad => by
    by_cases h : i < s.size
    · rw [dc_step h]
      split
      · rw [if_neg (by decide)]
        exact dc_loose s c k _ _ _ _
      · exact dc_loose s c k _ _ _ _
    · rw [dc_end (by omega)]
/-- The scalars from a place on. -/
def scF (s : ByteArray) : Nat → Nat → List Int
  | 0, _ => []
  | k + 1, i => if i < s.size then (if (tkAt s 1 i).1 = -1 then 65533 else (tkAt s 1 i).1) :: scF s k (i + (tkAt s 1 i).2) else []
theorem dc_sc (s : ByteArray) : ∀ (k i : Nat) (rs ps : List Int) (bad : Nat), (dcGo s 1 false k i rs ps bad).2.1 = rs ++ scF s k i
  | 0, _, rs, _, _ => by simp [dcGo, scF]
  | k + 1, i, rs, ps, bad => by
    by_cases h : i < s.size
    · rw [dc_step h, scF, if_pos h]
      split
      · rw [if_neg (by decide), dc_sc s k, List.append_assoc]
        rfl
      · rw [dc_sc s k, List.append_assoc]
        rfl
    · rw [dc_end (by omega), scF, if_neg h, List.append_nil]
theorem tkGo_in (s : ByteArray) (m : Nat) : ∀ (k i sc lo hi : Nat), (tkGo s m k i sc lo hi).1 = -1 ∨ 0 ≤ (tkGo s m k i sc lo hi).1
  | 0, _, sc, _, _ => by unfold tkGo; right; simp only; omega
  | k + 1, i, sc, lo, hi => by
    unfold tkGo
    split
    · exact .inl rfl
    · exact tkGo_in s m k _ _ _ _
theorem tk1_in (s : ByteArray) (i : Nat) : (tkAt s 1 i).1 = -1 ∨ 0 ≤ (tkAt s 1 i).1 := by
  unfold tkAt
  rw [if_neg (by decide), if_neg (by decide), if_neg (by decide)]
  unfold tk8
  split
  · exact .inl rfl
  · exact tkGo_in _ _ _ _ _ _ _
theorem scF_in (s : ByteArray) : ∀ (k i : Nat), ∀ x ∈ scF s k i, 0 ≤ x
  | 0, _ => by simp [scF]
  | k + 1, i => by
    intro x hx
    rw [scF] at hx
    split at hx
    · rcases List.mem_cons.1 hx with e | e
      · rw [e]
        split
        · decide
        · rename_i h
          exact (tk1_in s i).resolve_left h
      · exact scF_in s k _ x e
    · cases hx
theorem scF_len (s : ByteArray) : ∀ (k i : Nat), (scF s k i).length ≤ k
  | 0, _ => by simp [scF]
  | k + 1, i => by
    rw [scF]
    split
    · have := scF_len s k (i + (tkAt s 1 i).2)
      simp only [List.length_cons]
      omega
    · simp
/-- A text's scalars, U+FFFD for what is bad. -/
def scs (s : ByteArray) : List Nat := (scF (xs s) s.size 1).map Int.toNat
theorem scs_len (s : ByteArray) : (scs s).length ≤ s.size := by
  unfold scs
  rw [List.length_map]
  exact scF_len _ _ _
theorem scF_x (s : ByteArray) : scF (xs s) (xs s).size 0 = 120 :: scF (xs s) s.size 1 := by
  have h : 0 < (xs s).size := by rw [xs_size]; omega
  have e := tk_ascii (xs s) 0 h (by rw [xs_zero]; decide)
  rw [xs_zero] at e
  rw [xs_size, scF, if_pos h, e, if_neg (by decide)]
  rfl
theorem decX_any (s : ByteArray) (hs : s.size ≤ 1099511627000) : DecX s (scs s) := by
  intro w ht
  have k := decode_any (xs s) 1 false w ht (by rw [xs_size]; omega) (by decide)
  rw [xs_bg] at k
  refine k.mono ?_
  intro e w' h
  rcases h with ⟨i, h1, _⟩ | ⟨_, h2⟩
  · rw [dc_loose] at h1
    cases h1
  · obtain ⟨v1, v2, he, o1, o2⟩ := h2.ex
    rw [show (((1 : Nat), (0 : Nat)).1) = 1 from rfl, show (((1 : Nat), (0 : Nat)).2) = 0 from rfl] at he o1 o2
    rw [dc_sc, List.nil_append, scF_x] at o1
    have hl : (120 :: scF (xs s) s.size 1).length = (scs s).length + 1 := by unfold scs; simp
    obtain ⟨a2, c2, rfl⟩ := own_shape o2.own
    rcases o1.own.2 with ⟨_, h0⟩ | ⟨g, cap, cur, hv, hg, hh, hcap, rest⟩
    · rw [hl] at h0
      omega
    · rw [hv] at he
      rw [hl] at he hcap
      refine ⟨g, cap, a2, _, c2, _, he, o1.touch, o1.new g (by rw [hv]; rfl), lt_of_block hh, by omega, ?_⟩
      intro i x hx
      have h1 : (120 :: scF (xs s) s.size 1)[i + 1]? = some (x : Int) := by
        rw [List.getElem?_cons_succ]
        unfold scs at hx
        rw [List.getElem?_map] at hx
        cases hy : (scF (xs s) s.size 1)[i]? with
        | none => rw [hy] at hx; cases hx
        | some y =>
          rw [hy] at hx
          have := scF_in (xs s) s.size 1 y (List.mem_of_getElem? hy)
          cases hx
          rw [Int.toNat_of_nonneg this]
      have h2 := o1.own.cells (g := g) (by rw [hv]; rfl) (i + 1) (.int .i64 (x : Int)) (by unfold encI; rw [List.getElem?_map, h1]; rfl)
      rwa [add_g] at h2
end Go.Proofs.YtjpmjcadnnglnaaDoor

/- quoteOne of what is below 128, Quote, speaks, and Show of a number; condition: the two tables lie there. -/
namespace Go.Proofs.YtjpmjcadnnglnaaDoor
open Go.RowKit
open Go.Lib

def escB (x : Nat) : Option UInt8 := if x = 34 then some 34 else if x = 92 then some 92 else if x = 8 then some 98 else if x = 12 then some 102 else if x = 10 then some 110 else if x = 13 then some 114 else if x = 9 then some 116 else none
/-- A scalar's bytes. -/
def ub (x : Nat) : Bs := if x < 128 then [x.toUInt8] else if x < 2048 then [(192 + x / 64).toUInt8, (128 + x % 64).toUInt8] else if x < 65536 then [(224 + x / 4096).toUInt8, (128 + x / 64 % 64).toUInt8, (128 + x % 64).toUInt8] else [(240 + x / 262144).toUInt8, (128 + x / 4096 % 64).toUInt8, (128 + x / 64 % 64).toUInt8, (128 + x % 64).toUInt8]
def hexL : Bs := [48, 49, 50, 51, 52, 53, 54, 55, 56, 57, 97, 98, 99, 100, 101, 102]
def qo (x : Nat) : Bs := match escB x with
  | some c => [92, c]
  | none => if x < 32 then [92, 117, 48, 48, hexL.getD (x / 16) 0, hexL.getD (x % 16) 0] else ub x
theorem qo_len (x : Nat) : (qo x).length ≤ 6 := by
  unfold qo
  split
  · exact Nat.le_of_ble_eq_true rfl
  · split
    · exact Nat.le_of_ble_eq_true rfl
    · unfold ub
      split
      · exact Nat.le_of_ble_eq_true rfl
      · split
        · exact Nat.le_of_ble_eq_true rfl
        · split
          · exact Nat.le_of_ble_eq_true rfl
          · exact Nat.le_of_ble_eq_true rfl
def lettersL : Bs := [34, 92, 98, 102, 110, 114, 116, 47]
def idxOf (x : Nat) : Int := indexByte signsB.data.toList x.toUInt8
/-- Which it is. -/
def idxOk (x : Nat) : Bool := match escB x with
  | some c => decide (x ≠ 47) && decide (0 ≤ idxOf x) && decide (idxOf x < 8) && (lettersL.getD (idxOf x).toNat 0 == c)
  | none => decide (idxOf x < 0 ∨ x = 47)
set_option maxRecDepth 100000 in
theorem idx_all : ∀ x, x < 128 → idxOk x = true := by decide
theorem hex_at (y : Nat) (h : y < 16) : hexB[y]'(by show y < 16; exact h) = hexL.getD y 0 := by
  rcases (show y = 0 ∨ y = 1 ∨ y = 2 ∨ y = 3 ∨ y = 4 ∨ y = 5 ∨ y = 6 ∨ y = 7 ∨ y = 8 ∨ y = 9 ∨ y = 10 ∨ y = 11 ∨ y = 12 ∨ y = 13 ∨ y = 14 ∨ y = 15 by omega) with rfl | rfl | rfl | rfl | rfl | rfl | rfl | rfl | rfl | rfl | rfl | rfl | rfl | rfl | rfl | rfl <;> rfl
theorem let_at (y : Nat) (h : y < 8) : lettersB[y]'(by show y < 8; exact h) = lettersL.getD y 0 := by
  rcases (show y = 0 ∨ y = 1 ∨ y = 2 ∨ y = 3 ∨ y = 4 ∨ y = 5 ∨ y = 6 ∨ y = 7 by omega) with rfl | rfl | rfl | rfl | rfl | rfl | rfl | rfl <;> rfl
set_option maxRecDepth 100000 in
theorem idx_low : ∀ x, x < 32 → escB x = none → idxOf x = -1 := by decide
end Go.Proofs.YtjpmjcadnnglnaaDoor

/- speaks, show and Show of a number; condition: the two tables lie there. -/
namespace Go.Proofs.YtjpmjcadnnglnaaDoor
open Go.RowKit
open Go.Lib

theorem run_append_string_at {P : Program} (w : World) (t u ty e : TypeId) (i : TypeInfo) (ht : P.underlying t = some (.slice e)) (hu : P.underlying u = some .string) (hi : P.info? e = some i) (hz : i.zero = some (.int .u8 0))
    (hsize : i.size = 1) (hby : i.bytes = 1) (v : Value) (n : Nat) (xs : List Value) (hown : w.ownsRow 0 e 1 v n xs) (s : ByteArray) (h63 : n + s.size ≤ maxLen) (hbytes : n + s.size ≤ 140737488355328) :
    ∃ v' w', (Builtin.append_ #[t, u] ty #[v, .string s]).run P w = .ok v' w' ∧ w'.ownsRow 0 e 1 v' (n + s.size) (xs ++ strCells s) ∧ w.grownBy w' v.ownBlock ∧
      (v'.ownBlock = v.ownBlock ∨ ∃ g, v'.ownBlock = some g ∧ w.heap.size ≤ g) := by
  rcases hown.2 with ⟨rfl, rfl⟩ | ⟨g, cap, cur, rfl, _, hg, hnc, hcm, hcs, htake⟩
  · have hx : xs = [] := List.eq_nil_of_length_eq_zero (by simpa using hown.1)
    subst hx
    obtain ⟨v', w', hr, h2, h3, h4⟩ := run_append_own_string (P := P) w w.heap.size t u ty e i ht hu hi hz hsize hby _ _ _ (World.ownsRow_nil w w.heap.size e 1) s h63 hbytes (Nat.le_refl _)
    refine ⟨v', w', hr, ⟨h2.1, ?_⟩, h3, ?_⟩
    · rcases h2.2 with h | ⟨g, cap, cur, hv, _, hh, r⟩
      · exact .inl h
      · exact .inr ⟨g, cap, cur, hv, Nat.zero_le _, hh, r⟩
    · rcases h2.2 with ⟨rfl, _⟩ | ⟨g, cap, cur, rfl, hg, _⟩
      · exact .inl rfl
      · exact .inr ⟨g, rfl, hg⟩
  · obtain ⟨v', w', hr, h2, h3, h4⟩ := run_append_own_string (P := P) w 0 t u ty e i ht hu hi hz hsize hby _ _ _ hown s h63 hbytes (Nat.zero_le _)
    refine ⟨v', w', hr, h2, h3, ?_⟩
    by_cases hroom : n + s.size ≤ cap
    · have hcs' : cur.size = cap := by simpa using hcs
      have hr2 := run_append_room_string (P := P) w t u ty e i ht hu hi hsize g n cap cur hg s hroom (by omega)
      rw [hr] at hr2
      simp only [Result.ok.injEq] at hr2
      rw [hr2.1]
      exact .inl rfl
    · have holds : ∀ j u, xs[j]? = some u → w.cell? ((⟨g, 0, none⟩ : Addr).add j) = some u := hown.cells (g := g) rfl
      have hr2 := run_append_grow_string (P := P) w t u ty e i (.int .u8 0) ht hu hi hz ⟨g, 0, none⟩ n cap xs (by rw [hsize]; exact hown.1) holds s (by omega) (by unfold maxLen at h63; omega) (by rw [hby]; exact growslice_fits (by omega) (by omega))
      rw [hr] at hr2
      simp only [Result.ok.injEq] at hr2
      rw [hr2.1]
      exact .inr ⟨_, rfl, Nat.le_refl _⟩

theorem wpList_append_str_at {P : Program} {w : World} {ops : Array Oper} {rest : List Oper} {o : Oper} {a : Act} {Q : Exit → Act → World → Prop} (hgd : o.guard = none) (sl x : Operand) (t u : TypeId)
    (ho : o.op = .call { callee := .builtin .append, args := #[sl, x], argTypes := #[t, u] })
    (e : TypeId) (i : TypeInfo) (ht : P.underlying t = some (.slice e)) (hu : P.underlying u = some .string) (hi : P.info? e = some i) (hz : i.zero = some (.int .u8 0)) (hsize : i.size = 1) (hby : i.bytes = 1)
    (v : Value) (n : Nat) (xs : List Value) (hs : a.eval sl = v) (hown : w.ownsRow 0 e 1 v n xs) (s : ByteArray) (hx : a.eval x = .string s) (h63 : n + s.size ≤ maxLen) (hbytes : n + s.size ≤ 140737488355328)
    (h : ∀ v' w', w'.ownsRow 0 e 1 v' (n + s.size) (xs ++ strCells s) → w.grownBy w' v.ownBlock → (v'.ownBlock = v.ownBlock ∨ ∃ g, v'.ownBlock = some g ∧ w.heap.size ≤ g) → wpList P ops Q rest (a.put o.dst v') w') :
    wpList P ops Q (o :: rest) a w := by
  refine wpList_plain hgd fun K hK => ?_
  obtain ⟨v', w', hr, h2, h3, h4⟩ := run_append_string_at (P := P) w t u o.type e i ht hu hi hz hsize hby v n xs hown s h63 hbytes
  unfold Oper.wp execOp
  simp only [ho, resolve, invoke, builtin, Sem.run_bind, Sem.run_pure, Result.andThen_ok, List.map_toArray, List.map_cons, List.map_nil, hs, hx, hr]
  exact hK _ _ (h v' w' h2 h3 h4)
theorem str_bv (s : ByteArray) : strCells s = bv s.data.toList := rfl
theorem scs_speak : scs ⟨#[97, 10, 1]⟩ = [97, 10, 1] := by kernel_rfl
end Go.Proofs.YtjpmjcadnnglnaaDoor

/- IndexRune of a scalar from 128 on among the signs: it isn't there; no condition. -/
namespace Go.Proofs.YtjpmjcadnnglnaaDoor
open Go.RowKit
open Go.Lib

theorem byte_index (s : ByteArray) (c : Int) (w : World) : Calls Tryd.prog 68 #[.string s, .int .u8 c] w fun e w' => e = .returned (.int .i64 (Lib.indexByte s.data.toList c.toNat.toUInt8)) ∧ w' = w :=
  Any.strings_IndexByte Tryd.lays137 s c w
theorem index_absent : ∀ (l : List UInt8) (c : UInt8), (∀ b ∈ l, b ≠ c) → indexByte l c = -1
  | [], _, _ => rfl
  | b :: l, c, h => by
    have hb : (b == c) = false := by
      have := h b (by simp)
      simp [this]
    rw [indexByte, hb, index_absent l c (fun x hx => h x (by simp [hx]))]
    rfl
theorem sign_ascii : ∀ b ∈ signsB.data.toList, b.toNat < 128 := by decide
end Go.Proofs.YtjpmjcadnnglnaaDoor
