/- codesOf: the codes of lengths; conditions: at most 1024 lengths, each from 0 to 15. -/
import Derived.Test.YtokelpnmeknncabRoom
namespace Go.Proofs.Ytokelpnmeknncab
open Go.RowKit

/-- A list of numbers in memory, as a walk is told of it. -/
def Ints (w : World) (a : Option Addr) (len : Nat) (f : Nat → Int) : Prop :=
  len = 0 ∨ ∃ b o, a = some ⟨b, o, none⟩ ∧ b < w.heap.size ∧ ∀ i, i < len → w.cell? ⟨b, o + i, none⟩ = some (.int .i64 (f i))

theorem Ints.new {w w' : World} {a : Option Addr} {len : Nat} {f : Nat → Int} (h : Ints w a len f) (t : Touch (fun _ => False) w w') : Ints w' a len f := by
  rcases h with h | ⟨b, o, rfl, hb, hc⟩
  · exact .inl h
  · exact .inr ⟨b, o, rfl, Nat.lt_of_lt_of_le hb t.size, fun i hi => by rw [t.cell (p := ⟨b, o + i, none⟩) hb id]; exact hc i hi⟩

theorem Ints.kept {w w' : World} {S : Nat → Prop} {a : Option Addr} {len : Nat} {f : Nat → Int} (h : Ints w a len f) (t : Touch S w w') (hs : ∀ k, k < w.heap.size → ¬ S k) : Ints w' a len f := by
  rcases h with h | ⟨b, o, rfl, hb, hc⟩
  · exact .inl h
  · exact .inr ⟨b, o, rfl, Nat.lt_of_lt_of_le hb t.size, fun i hi => by rw [t.cell (p := ⟨b, o + i, none⟩) hb (hs b hb)]; exact hc i hi⟩

/-- A block of sixteen numbers. -/
def Blk (w : World) (n : Nat) (f : Nat → Nat) : Prop := ∃ cs : Array Value, w.heap[n]? = some (.cells cs 54 (0, 0)) ∧ cs.size = 16 ∧ ∀ j, j < 16 → cs[j]? = some (.int .i64 (f j : Nat))

theorem Blk.cell {w : World} {n : Nat} {f : Nat → Nat} (h : Blk w n f) (j : Nat) (hj : j < 16) : w.cell? ⟨n, j, none⟩ = some (.int .i64 (f j : Nat)) := by
  obtain ⟨cs, hb, _, hc⟩ := h
  simp [World.cell?, hb, hc j hj]
theorem Blk.free {w : World} {n : Nat} {f : Nat → Nat} (h : Blk w n f) (j : Nat) : w.frozen? ⟨n, j, none⟩ = false := by
  obtain ⟨cs, hb, _⟩ := h
  simp [World.frozen?, hb]
theorem Blk.lt {w : World} {n : Nat} {f : Nat → Nat} (h : Blk w n f) : n < w.heap.size := by
  obtain ⟨cs, hb, _⟩ := h
  exact lt_of_block hb
theorem Blk.same {w w' : World} {n : Nat} {f : Nat → Nat} (h : Blk w n f) (e : w'.heap[n]? = w.heap[n]?) : Blk w' n f := by
  obtain ⟨cs, hb, r⟩ := h
  exact ⟨cs, e.trans hb, r⟩
theorem Blk.set {w : World} {n : Nat} {f : Nat → Nat} (h : Blk w n f) (k : Nat) (x : Nat) : Blk (w.setCell ⟨n, k, none⟩ (.int .i64 (x : Nat))) n (fun j => if j = k then x else f j) := by
  obtain ⟨cs, hb, hs, hc⟩ := h
  have hlt := lt_of_block hb
  have h' : w.heap[n] = .cells cs 54 (0, 0) := by simpa [Array.getElem?_eq_getElem hlt] using hb
  refine ⟨cs.set! k (.int .i64 (x : Nat)), ?_, by simpa using hs, fun j hj => ?_⟩
  · show (w.heap.modify n _)[n]? = _
    rw [Array.getElem?_eq_getElem (by simpa using hlt), Array.getElem_modify_self, h']
    rfl
  · simp only [Array.set!_eq_setIfInBounds]
    rw [Array.getElem?_setIfInBounds]
    by_cases e : k = j
    · subst e
      simp [hs, hj]
    · rw [if_neg e, if_neg (fun h => e h.symm)]
      exact hc j hj
theorem Blk.ext {w : World} {n : Nat} {f g : Nat → Nat} (h : Blk w n f) (e : ∀ j, j < 16 → f j = g j) : Blk w n g := by
  obtain ⟨cs, hb, hs, hc⟩ := h
  exact ⟨cs, hb, hs, fun j hj => by rw [hc j hj, e j hj]⟩

theorem blk_new (w : World) (c : Nat → Nat) : Blk (w.alloc (.cells (cArr c) 54)) w.heap.size c :=
  ⟨cArr c, by show (w.heap.push _)[_]? = _; simp, rfl, fun j hj => cArr_get c j hj⟩

/-- The first code of each length. -/
def firsts (c : Nat → Nat) : Nat → Nat
  | 0 => 0
  | n + 1 => (firsts c n + c n) * 2

theorem firsts_le (c : Nat → Nat) (hc : ∀ i, c i ≤ 1024) : ∀ n, firsts c n + 2048 ≤ 2048 * 2 ^ n
  | 0 => by simp [firsts]
  | n + 1 => by
    have := firsts_le c hc n
    have := hc n
    simp only [firsts, Nat.pow_succ]
    omega

/-- How many of the first k lengths are n. -/
def cntTo (f : Nat → Nat) (n : Nat) : Nat → Nat
  | 0 => 0
  | k + 1 => cntTo f n k + (if f k = n then 1 else 0)

theorem cntTo_le (f : Nat → Nat) (n : Nat) : ∀ k, cntTo f n k ≤ k
  | 0 => Nat.le_refl _
  | k + 1 => by have := cntTo_le f n k; simp only [cntTo]; split <;> omega

/-- The code of symbol i. -/
def codeOf (c f : Nat → Nat) (i : Nat) : Nat := if f i = 0 then 0 else firsts c (f i) + cntTo f (f i) i

end Go.Proofs.Ytokelpnmeknncab
