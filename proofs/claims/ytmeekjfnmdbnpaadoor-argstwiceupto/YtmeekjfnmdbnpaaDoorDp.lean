/- The document's Parse, plain: it tells what the program's reading tells; no condition. -/
import Derived.Test.YtmeekjfnmdbnpaaDoorRd
namespace Go.Proofs.YtmeekjfnmdbnpaaDoor
open Go.RowKit
open Go.Lib

/-- The last one of the first n keys that is this word, or -1. -/
def kI (x : Bs) : Nat → Int
  | 0 => -1
  | j + 1 => if wordB j = x then (j : Nat) else kI x j
/-- The document's way: the values in the keys' own order, and which keys were met. -/
def dpF : Nat → List Bs → List Bool → Array Value → Nat → Except Nat (Array Value)
  | 0, _, _, _, p => .error p
  | f + 1, ls, ms, vs, p => match ls[p]? with
    | none => .ok vs
    | some x => if kI x 18 < 0 then .error p else if ms.getD (kI x 18).toNat false = true then .error p else match ls[p + 1]? with
      | none => .error p
      | some y => if okR (kI x 18).toNat y = true then dpF f ls (ms.set (kI x 18).toNat true) (vs.set! (kI x 18).toNat (stR (kI x 18).toNat y)) (p + 2) else .error p
theorem words_inj : ∀ i, i < 18 → ∀ j, j < 18 → wordB i = wordB j → i = j := by decide
theorem offK_inj : ∀ i, i < 18 → ∀ j, j < 18 → offK i = offK j → i = j := by decide
theorem kI_or (x : Bs) : ∀ n : Nat, (kI x n = -1 ∧ ∀ k, k < n → wordB k ≠ x) ∨ ∃ k, k < n ∧ kI x n = (k : Nat) ∧ wordB k = x
  | 0 => .inl ⟨rfl, fun k h => absurd h (Nat.not_lt_zero k)⟩
  | n + 1 => by
    unfold kI
    by_cases h : wordB n = x
    · rw [if_pos h]
      exact .inr ⟨n, Nat.lt_succ_self n, rfl, h⟩
    · rw [if_neg h]
      rcases kI_or x n with ⟨h1, h2⟩ | ⟨k, h1, h2, h3⟩
      · refine .inl ⟨h1, fun k hk => ?_⟩
        by_cases e : k = n
        · rw [e]; exact h
        · exact h2 k (by omega)
      · exact .inr ⟨k, by omega, h2, h3⟩
theorem fidx_some : ∀ (x : Bs) (left : List Nat) (q : Nat), fidx x left = some q → wordB (left.getD q 0) = x ∧ left.getD q 0 ∈ left ∧ left[q]? = some (left.getD q 0)
  | x, [], q, h => by cases h
  | x, k :: l, q, h => by
    unfold fidx at h
    by_cases e : wordB k = x
    · rw [if_pos e] at h
      obtain rfl := Option.some.inj h
      exact ⟨e, by simp, by simp⟩
    · rw [if_neg e] at h
      cases hf : fidx x l with
      | none => rw [hf] at h; cases h
      | some r =>
        rw [hf] at h
        obtain rfl : r + 1 = q := Option.some.inj h
        obtain ⟨a, b, c⟩ := fidx_some x l r hf
        exact ⟨by simpa using a, by simp only [List.getD_cons_succ]; exact List.mem_cons_of_mem _ b, by simpa using c⟩
theorem fidx_no : ∀ (x : Bs) (left : List Nat), fidx x left = none → ∀ k ∈ left, wordB k ≠ x
  | x, [], _, k, hk => by cases hk
  | x, j :: l, h, k, hk => by
    unfold fidx at h
    by_cases e : wordB j = x
    · rw [if_pos e] at h
      cases h
    · rw [if_neg e] at h
      cases hf : fidx x l with
      | some r => rw [hf] at h; cases h
      | none =>
        rcases List.mem_cons.1 hk with rfl | hk
        · exact e
        · exact fidx_no x l hf k hk
/-- Both tell the same values, or the same place. -/
inductive Bth : Except Nat (Array Value) → Except Nat (Array Value) → Prop
  | err (p : Nat) : Bth (.error p) (.error p)
  | ok (cs vs : Array Value) (h1 : cs.size = 18) (h2 : vs.size = 18) (h : ∀ k, k < 18 → cs[offK k]? = vs[k]?) : Bth (.ok cs) (.ok vs)
theorem bth : ∀ (f : Nat) (ls : List Bs) (left : List Nat) (ms : List Bool) (cs vs : Array Value) (p : Nat), left.Nodup → (∀ k, k ∈ left ↔ k < 18 ∧ ms.getD k false = false) → ms.length = 18 → cs.size = 18 → vs.size = 18 → (∀ k, k < 18 → cs[offK k]? = vs[k]?) → Bth (rdF f ls left cs p) (dpF f ls ms vs p)
  | 0, ls, left, ms, cs, vs, p, _, _, _, _, _, _ => by unfold rdF dpF; exact .err p
  | f + 1, ls, left, ms, cs, vs, p, hn, hm, hl, h1, h2, hc => by
    unfold rdF dpF
    cases hx : ls[p]? with
    | none => exact .ok cs vs h1 h2 hc
    | some x =>
      dsimp only
      rcases kI_or x 18 with ⟨e1, e2⟩ | ⟨k, k1, k2, k3⟩
      · rw [if_pos (show kI x 18 < 0 by omega)]
        cases hf : fidx x left with
        | none => exact .err p
        | some q =>
          obtain ⟨a, b, _⟩ := fidx_some x left q hf
          exact absurd a (e2 _ ((hm _).1 b).1)
      · rw [if_neg (show ¬ kI x 18 < 0 by omega), show (kI x 18).toNat = k by omega]
        cases hb : ms.getD k false with
        | true =>
          rw [if_pos rfl]
          cases hf : fidx x left with
          | none => exact .err p
          | some q =>
            obtain ⟨a, b, _⟩ := fidx_some x left q hf
            have e := words_inj _ ((hm _).1 b).1 k k1 (a.trans k3.symm)
            have := ((hm _).1 b).2
            rw [e, hb] at this
            cases this
        | false =>
          rw [if_neg (by decide)]
          cases hf : fidx x left with
          | none => exact absurd k3 (fidx_no x left hf k ((hm k).2 ⟨k1, hb⟩))
          | some q =>
            obtain ⟨a, b, c⟩ := fidx_some x left q hf
            have e := words_inj _ ((hm _).1 b).1 k k1 (a.trans k3.symm)
            dsimp only
            rw [e] at c b
            rw [e]
            cases hy : ls[p + 1]? with
            | none => exact .err p
            | some y =>
              dsimp only
              cases ho : okR k y with
              | false => rw [if_neg (by decide), if_neg (by decide)]; exact .err p
              | true =>
                rw [if_pos rfl, if_pos rfl]
                refine bth f ls _ _ _ _ _ ((List.eraseIdx_sublist ..).nodup hn) (fun j => ?_) (by simpa using hl) (by simpa using h1) (by simpa using h2) (fun j hj => ?_)
                · rw [List.mem_eraseIdx_iff_getElem]
                  obtain ⟨hq, hqe⟩ := List.getElem?_eq_some_iff.1 c
                  constructor
                  · rintro ⟨i, hi, hne, hv⟩
                    have hjm : j ∈ left := hv ▸ List.getElem_mem hi
                    have hjk : j ≠ k := fun e => hne ((List.getElem_inj hn).1 (show left[i] = left[q] by rw [hv, hqe, e]))
                    refine ⟨((hm j).1 hjm).1, ?_⟩
                    rw [List.getD_eq_getElem?_getD, List.getElem?_set_ne (fun e => hjk e.symm), ← List.getD_eq_getElem?_getD]
                    exact ((hm j).1 hjm).2
                  · rintro ⟨h18, hv⟩
                    by_cases hjk : j = k
                    · subst hjk
                      rw [List.getD_eq_getElem?_getD, List.getElem?_set_self (by omega)] at hv
                      cases hv
                    · rw [List.getD_eq_getElem?_getD, List.getElem?_set_ne (fun e => hjk e.symm), ← List.getD_eq_getElem?_getD] at hv
                      obtain ⟨i, hi, hv2⟩ := List.getElem_of_mem ((hm j).2 ⟨h18, hv⟩)
                      exact ⟨i, hi, fun e => hjk (by subst e; rw [← hv2, hqe]), hv2⟩
                · have ho1 := offK_lt k k1
                  have ho2 := offK_lt j hj
                  simp only [Array.set!_eq_setIfInBounds, Array.getElem?_setIfInBounds, h1, h2]
                  by_cases hjk : k = j
                  · subst hjk
                    simp [ho1, k1]
                  · rw [if_neg (fun e => hjk (offK_inj k k1 j hj e)), if_neg hjk]
                    exact hc j hj
end Go.Proofs.YtmeekjfnmdbnpaaDoor
