/- A region that draws its order, whose operations but the last few leave the world alone: the lexical order is looked at pair by pair; no condition. -/
import Derived.StillTailTactics
namespace Go.Proofs.YtmeekjfnmdbnpaaDoor
open Go

/-- Each operation waits for earlier ones alone, and each later one waits for it or has nothing to do with it. -/
def pairB (ops : Array Oper) : Nat → List Oper → Nat → Bool
  | _, _, 0 => true
  | _, [], _ + 1 => false
  | k, o :: r, n + 1 => (o.after.all fun e => !(Region.binds .any e) || decide (e.on < k)) && (r.all fun q => (q.after.any fun e => Region.binds .any e && e.on == k) || o.apart ops q) && pairB ops (k + 1) r n
def upTo (s k : Nat) : Array Bool := (List.replicate k true ++ List.replicate (s - k) false).toArray
theorem upTo_zero (s : Nat) : upTo s 0 = Array.replicate s false := by
  unfold upTo
  apply Array.ext'
  simp
theorem upTo_set (s k : Nat) (h : k < s) : (upTo s k).setIfInBounds k true = upTo s (k + 1) := by
  unfold upTo
  apply Array.ext'
  simp only [List.setIfInBounds_toArray]
  apply List.ext_getElem?
  intro i
  rw [List.getElem?_set]
  by_cases h1 : k = i
  · subst h1
    simp [List.getElem?_append]
    omega
  · rw [if_neg h1]
    simp only [List.getElem?_append, List.getElem?_replicate, List.length_replicate]
    by_cases h2 : i < k
    · simp [h2, show i < k + 1 by omega]
    · have h3 : ¬ i < k + 1 := by omega
      simp only [h2, h3, if_false]
      by_cases h4 : i - k < s - k
      · rw [if_pos h4, if_pos (by omega)]
      · rw [if_neg h4, if_neg (by omega)]
theorem upTo_get (s k j : Nat) (b : Bool) (hj : j < s) (hk : k ≤ s) : (upTo s k).getD j b = decide (j < k) := by
  unfold upTo
  simp only [Array.getD_eq_getD_getElem?, List.getElem?_toArray, List.getElem?_append, List.getElem?_replicate, List.length_replicate]
  by_cases h : j < k
  · simp [h]
  · rw [if_neg h, if_pos (by omega)]
    simp [h]
theorem pair_at (ops : Array Oper) : ∀ (l : List Oper) (k n : Nat), pairB ops k l n = true → n ≤ l.length → ∀ i, i < n → ∃ o, l[i]? = some o ∧ (∀ e ∈ o.after, Region.binds .any e = true → e.on < k + i) ∧ ∀ j q, i < j → l[j]? = some q → (q.after.any fun e => Region.binds .any e && e.on == k + i) = true ∨ o.apart ops q = true
  | [], k, n, _, hn, i, hi => by simp at hn; omega
  | o :: r, k, 0, _, _, i, hi => by omega
  | o :: r, k, n + 1, h, hn, i, hi => by
    simp only [pairB, Bool.and_eq_true] at h
    obtain ⟨⟨h1, h2⟩, h3⟩ := h
    cases i with
    | zero =>
      refine ⟨o, rfl, fun e he hb => ?_, fun j q hj hq => ?_⟩
      · have := (Array.all_eq_true'.1 h1) e he
        simp only [Bool.or_eq_true, Bool.not_eq_true', decide_eq_true_eq, hb] at this
        rcases this with h | h
        · cases h
        · omega
      · cases j with
        | zero => omega
        | succ j =>
          have hm : q ∈ r := List.mem_of_getElem? (by simpa using hq)
          have := (List.all_eq_true.1 h2) q hm
          simpa using this
    | succ i =>
      obtain ⟨o', h4, h5, h6⟩ := pair_at ops r (k + 1) n h3 (by simpa using hn) i (by omega)
      refine ⟨o', by simpa using h4, fun e he hb => by have := h5 e he hb; omega, fun j q hj hq => ?_⟩
      cases j with
      | zero => omega
      | succ j =>
        have := h6 j q (by omega) (by simpa using hq)
        rw [show k + (i + 1) = k + 1 + i by omega]
        exact this
theorem head_of (l : List Oper) (n : Nat) (hn : n ≤ l.length) (hp : pairB l.toArray 0 l n = true) (g : Nat) (hq : Region.seqB .any l.toArray g n (upTo l.length n) = true) :
    ∀ (f k : Nat), k + f = n → Region.lexHead .any l.toArray g f k (upTo l.length k) = true
  | 0, k, h => by
    obtain rfl : k = n := by omega
    exact hq
  | f + 1, k, h => by
    obtain ⟨o, h1, h2, h3⟩ := pair_at l.toArray l 0 n hp hn k (by omega)
    have hk : k < l.length := (List.getElem?_eq_some_iff.1 h1).1
    have ho : l.toArray[k]? = some o := by simpa using h1
    simp only [Region.lexHead, Bool.and_eq_true]
    refine ⟨⟨?_, ?_⟩, ?_⟩
    · rw [List.contains_iff_mem, mem_ready]
      refine ⟨by rw [upTo_get _ _ _ _ hk (by omega)]; simp, o, ho, fun e he hb => ?_⟩
      have := h2 e he hb
      rw [upTo_get _ _ _ _ (by omega) (by omega)]
      simp
      omega
    · simp only [Region.free, ho, List.all_eq_true, List.mem_range]
      intro j hj
      have hj' : j < l.length := by simpa using hj
      rw [upTo_get _ _ _ _ hj' (by omega)]
      by_cases hjk : j = k
      · simp [hjk]
      · by_cases hlt : j < k
        · simp [hlt]
        · have hq' : l[j]? = some l[j] := List.getElem?_eq_getElem hj'
          have h4 := h3 j l[j] (by omega) hq'
          have ha : l.toArray[j]? = some l[j] := by rw [List.getElem?_toArray]; exact hq'
          rw [ha]
          rw [Nat.zero_add] at h4
          simp only [Bool.or_eq_true]
          right
          exact h4
    · rw [upTo_set _ _ hk]
      exact head_of l n hn hp g hq f (k + 1) (by omega)
theorem lexTail_of (l : List Oper) (n : Nat) (hsel : Region.noSelect l.toArray = true) (hn : n < l.length) (hs : Region.sinkB .any l.toArray n = true) (hc : Region.chainB .any l.toArray n = true) (hp : pairB l.toArray 0 l n = true)
    (hq : Region.seqB .any l.toArray (l.length - n) n (upTo l.length n) = true) : Region.lexTailB .any l.toArray n = true := by
  simp only [Region.lexTailB, Bool.and_eq_true]
  refine ⟨⟨⟨⟨hsel, decide_eq_true hn⟩, hs⟩, hc⟩, ?_⟩
  have := head_of l n (by omega) hp (l.length - n) hq n 0 (by omega)
  rw [upTo_zero] at this
  simpa using this
/-- The operations of a region. -/
def opsOf : Code → Nat → List Oper
  | .region id ops d, i => if id = i && d then ops.toList else []
  | .seq a b, i => opsOf a i ++ opsOf b i
  | _, _ => []
end Go.Proofs.YtmeekjfnmdbnpaaDoor
