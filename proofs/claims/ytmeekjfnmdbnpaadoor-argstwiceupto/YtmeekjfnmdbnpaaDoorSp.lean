/- What Show writes, plain, and what reading that tells; no condition. -/
import Derived.Test.YtmeekjfnmdbnpaaDoorDp
namespace Go.Proofs.YtmeekjfnmdbnpaaDoor
open Go.RowKit
open Go.Lib

/-- A value's text; no bytes where it is zero. -/
def tellV : Value → Bs
  | .int _ n => if n = 0 then [] else itoa n
  | .bool b => if b = true then yesB else []
  | .string s => s.data.toList
  | _ => []
/-- The keys of which something is told, in a row of keys; and the texts. -/
def shK (V : Nat → Value) (l : List Nat) : List Nat := l.filter fun k => !(tellV (V k)).isEmpty
def shP (V : Nat → Value) (l : List Nat) : List Bs := l.flatMap fun k => [wordB k, tellV (V k)]
def shL (V : Nat → Value) (j : Nat) : List Bs := shP V (shK V (List.range j))
theorem shL_succ (V : Nat → Value) (j : Nat) : shL V (j + 1) = shL V j ++ if (tellV (V j)).isEmpty = true then [] else [wordB j, tellV (V j)] := by
  unfold shL shK shP
  rw [List.range_succ, List.filter_append, List.flatMap_append]
  congr 1
  cases h : (tellV (V j)).isEmpty <;> simp [h]
theorem shL_len (V : Nat → Value) : ∀ j, (shL V j).length ≤ 2 * j
  | 0 => by simp [shL, shK, shP]
  | j + 1 => by
    have := shL_len V j
    rw [shL_succ, List.length_append]
    split <;> simp <;> omega
def setV (V : Nat → Value) (ps : List Nat) (vs : Array Value) : Array Value := ps.foldl (fun a k => a.set! k (V k)) vs
def setM (ps : List Nat) (ms : List Bool) : List Bool := ps.foldl (fun a k => a.set k true) ms
theorem setV_size (V : Nat → Value) : ∀ (ps : List Nat) (vs : Array Value), (setV V ps vs).size = vs.size
  | [], vs => rfl
  | k :: ps, vs => by
    show (setV V ps _).size = _
    rw [setV_size V ps]
    simp
theorem setM_len : ∀ (ps : List Nat) (ms : List Bool), (setM ps ms).length = ms.length
  | [], ms => rfl
  | k :: ps, ms => by
    show (setM ps _).length = _
    rw [setM_len ps]
    simp
theorem setV_get (V : Nat → Value) : ∀ (ps : List Nat) (vs : Array Value) (j : Nat), j < vs.size → (setV V ps vs)[j]? = if j ∈ ps then some (V j) else vs[j]?
  | [], vs, j, hj => by simp [setV]
  | k :: ps, vs, j, hj => by
    show (setV V ps (vs.set! k (V k)))[j]? = _
    rw [setV_get V ps _ j (by simpa using hj)]
    by_cases h : j ∈ ps
    · rw [if_pos h, if_pos (List.mem_cons_of_mem _ h)]
    · rw [if_neg h, Array.set!_eq_setIfInBounds, Array.getElem?_setIfInBounds]
      by_cases e : k = j
      · subst e
        rw [if_pos rfl, if_pos hj, if_pos List.mem_cons_self]
      · rw [if_neg e, if_neg (fun hm => by rcases List.mem_cons.1 hm with h2 | h2; exact e h2.symm; exact h h2)]
theorem setM_get : ∀ (ps : List Nat) (ms : List Bool) (j : Nat), j < ms.length → (setM ps ms).getD j false = (decide (j ∈ ps) || ms.getD j false)
  | [], ms, j, hj => by simp [setM]
  | k :: ps, ms, j, hj => by
    show (setM ps (ms.set k true)).getD j false = _
    rw [setM_get ps _ j (by simpa using hj)]
    by_cases e : k = j
    · subst e
      simp [List.getD_eq_getElem?_getD, List.getElem?_set_self hj]
    · have e2 : ¬ j = k := fun h => e h.symm
      simp [List.getD_eq_getElem?_getD, List.getElem?_set_ne e, e2]
theorem kI_word (k : Nat) (hk : k < 18) : kI (wordB k) 18 = (k : Nat) := by
  rcases kI_or (wordB k) 18 with ⟨_, h⟩ | ⟨j, h1, h2, h3⟩
  · exact absurd rfl (h k hk)
  · rw [h2, words_inj j h1 k hk h3]
/-- A value that is read as it is told. -/
def Okv (k : Nat) (v : Value) : Prop := okR k (tellV v) = true ∧ stR k (tellV v) = v
theorem dp_keys (V : Nat → Value) (ls : List Bs) : ∀ (ps : List Nat) (pre rest : List Bs) (f : Nat) (ms : List Bool) (vs : Array Value), ls = pre ++ shP V ps ++ rest → ps.Nodup → ms.length = 18 → (∀ k ∈ ps, k < 18 ∧ ms.getD k false = false ∧ Okv k (V k)) → dpF (f + ps.length) ls ms vs pre.length = dpF f ls (setM ps ms) (setV V ps vs) (pre.length + 2 * ps.length)
  | [], pre, rest, f, ms, vs, _, _, _, _ => rfl
  | k :: ps, pre, rest, f, ms, vs, hl, hn, hml, hk => by
    obtain ⟨h1, h2, h3, h4⟩ := hk k List.mem_cons_self
    have e : ls = (pre ++ [wordB k, tellV (V k)]) ++ shP V ps ++ rest := by rw [hl]; simp [shP]
    have g0 : ls[pre.length]? = some (wordB k) := by rw [hl]; simp [shP]
    have g1 : ls[pre.length + 1]? = some (tellV (V k)) := by rw [e, List.append_assoc, List.append_assoc, List.getElem?_append_right (by omega)]; simp
    rw [List.length_cons, ← Nat.add_assoc, dpF, g0]
    dsimp only
    rw [kI_word k h1, if_neg (by omega), show ((k : Nat) : Int).toNat = k by omega, h2, if_neg (by decide), g1]
    dsimp only
    rw [if_pos h3, h4]
    have := dp_keys V ls ps (pre ++ [wordB k, tellV (V k)]) rest f (ms.set k true) (vs.set! k (V k)) e (List.nodup_cons.1 hn).2 (by simpa using hml) (fun j hj => by
      obtain ⟨a, b, c⟩ := hk j (List.mem_cons_of_mem _ hj)
      refine ⟨a, ?_, c⟩
      rw [List.getD_eq_getElem?_getD, List.getElem?_set_ne (fun e => (List.nodup_cons.1 hn).1 (by rw [e]; exact hj)), ← List.getD_eq_getElem?_getD]
      exact b)
    rw [List.length_append] at this
    rw [show pre.length + 2 = pre.length + [wordB k, tellV (V k)].length from rfl, this]
    show dpF f ls (setM ps (ms.set k true)) (setV V ps (vs.set! k (V k))) _ = dpF f ls (setM ps (ms.set k true)) (setV V ps (vs.set! k (V k))) _
    congr 1
    simp
    omega
theorem shP_len (V : Nat → Value) : ∀ ps : List Nat, (shP V ps).length = 2 * ps.length
  | [] => rfl
  | k :: ps => by
    show ([wordB k, tellV (V k)] ++ shP V ps).length = _
    rw [List.length_append, shP_len V ps]
    simp
    omega
/-- What pairs of keys and values tell. -/
theorem dp_all (V : Nat → Value) (ps : List Nat) (vs : Array Value) (hn : ps.Nodup) (hk : ∀ k ∈ ps, k < 18 ∧ Okv k (V k)) : dpF ((shP V ps).length + 2) (shP V ps) (List.replicate 18 false) vs 0 = .ok (setV V ps vs) := by
  have h := dp_keys V (shP V ps) ps [] [] (ps.length + 2) (List.replicate 18 false) vs (by simp) hn rfl (fun k hk1 => ⟨(hk k hk1).1, by rw [List.getD_eq_getElem?_getD, List.getElem?_replicate, if_pos (hk k hk1).1]; rfl, (hk k hk1).2⟩)
  rw [shP_len, show 2 * ps.length + 2 = ps.length + 2 + ps.length by omega]
  rw [List.length_nil] at h
  rw [h, show ps.length + 2 = (ps.length + 1) + 1 from rfl, dpF, List.getElem?_eq_none (by rw [shP_len]; omega)]
/-- A key that was met is refused where it stands; so is what is none. -/
theorem dp_bad (V : Nat → Value) (ps : List Nat) (vs : Array Value) (hn : ps.Nodup) (hk : ∀ k ∈ ps, k < 18 ∧ Okv k (V k)) (x y : Bs) (hx : kI x 18 < 0 ∨ ∃ k ∈ ps, x = wordB k) : dpF ((shP V ps ++ [x, y]).length + 2) (shP V ps ++ [x, y]) (List.replicate 18 false) vs 0 = .error (2 * ps.length) := by
  have h := dp_keys V (shP V ps ++ [x, y]) ps [] [x, y] (ps.length + 4) (List.replicate 18 false) vs (by simp) hn rfl (fun k hk1 => ⟨(hk k hk1).1, by rw [List.getD_eq_getElem?_getD, List.getElem?_replicate, if_pos (hk k hk1).1]; rfl, (hk k hk1).2⟩)
  rw [List.length_append, shP_len, show 2 * ps.length + [x, y].length + 2 = ps.length + 4 + ps.length by simp; omega]
  rw [List.length_nil] at h
  rw [h, show ps.length + 4 = (ps.length + 3) + 1 from rfl, dpF, Nat.zero_add, List.getElem?_append_right (by rw [shP_len]; exact Nat.le_refl _), shP_len, Nat.sub_self]
  dsimp only [List.getElem?_cons_zero]
  rcases hx with hx | ⟨k, hkm, rfl⟩
  · rw [if_pos hx]
  · have hk18 := (hk k hkm).1
    rw [kI_word k hk18, if_neg (by omega), show ((k : Nat) : Int).toNat = k by omega, setM_get ps _ k (by simpa using hk18), decide_eq_true hkm, Bool.true_or, if_pos rfl]
/-- Values as they lie in the keys' order. -/
def vf (vs : Array Value) (k : Nat) : Value := vs.getD k (.bool false)
theorem itoa_ne (n : Int) : itoa n ≠ [] := fun e => by
  have h : trimM (itoa n) = [] := by rw [e]; rfl
  rw [trim_itoa] at h
  exact dec_ne _ h
theorem tell_int (n : Int) (h0 : n ≠ 0) (hn : n.natAbs < 1000000000000000000) (k : Nat) (hk : k < 5) : Okv k (.int .i64 n) := by
  have e : tellV (.int .i64 n) = itoa n := by show (if n = 0 then [] else itoa n) = itoa n; rw [if_neg h0]
  have hr : rn (itoa n) = some n := (rn_iff _ _).2 ⟨rfl, hn⟩
  unfold Okv okR stR
  rw [e, if_pos hk, if_pos hk, hr]
  exact ⟨rfl, rfl⟩
theorem tell_bool (k : Nat) (hk : ¬ k < 5) (hk2 : k < 15) : Okv k (.bool true) := by
  unfold Okv okR stR
  rw [if_neg hk, if_neg hk, if_pos hk2, if_pos hk2, show tellV (.bool true) = yesB from rfl]
  exact ⟨by decide, by rw [decide_eq_true rfl]⟩
theorem tell_text (s : ByteArray) (k : Nat) (hk : ¬ k < 5) (hk2 : ¬ k < 15) : Okv k (.string s) := by
  unfold Okv okR stR
  rw [if_neg hk, if_neg hk, if_neg hk2, if_neg hk2]
  exact ⟨rfl, rfl⟩
end Go.Proofs.YtmeekjfnmdbnpaaDoor
