/- A writer and a list of bits side by side in memory; no condition. -/
import Derived.Test.YtcpjbagljpohnaaSpk
import Derived.Test.YtcpjbagljpohnaaPack
namespace Go.Proofs.Ytcpjbagljpohnaa
open Go.RowKit

structure Ws (w0 w : World) (b : Nat) (vb : Value) (L M : List Bool) : Prop where
  wr : Wr w b L
  own : w.ownsRow w0.heap.size 3 1 vb M.length (bitsV M)
  low : ∀ k, Fp w b k → w0.heap.size ≤ k
  bel : Below w0.heap.size w0 w

/-- The step's own copy at K. -/
def Lb (w : World) (K : Nat) (a n v : Int) (tx : ByteArray) : Prop := w.heap[K]? = some (.cells #[.int .i64 a, .int .i64 n, .int .i64 v, .string tx] 27 (0, 0))

/-- A block of other elements is none of the writer's. -/
theorem not_fp {w : World} {b : Nat} {L : List Bool} (h : Wr w b L) {g : Nat} {cs : Array Value} {e : TypeId} {m : Nat × Nat} (hg : w.heap[g]? = some (.cells cs e m)) (h1 : e ≠ 41) (h2 : e ≠ 5) : ¬ Fp w b g := by
  obtain ⟨v, hb, hown⟩ := h
  rintro (rfl | ⟨v2, c2, hk, ho⟩)
  · rw [hb] at hg
    simp at hg
    exact h1 hg.2.1.symm
  · rw [hb] at hk
    simp at hk
    obtain ⟨rfl, rfl⟩ := hk
    rcases hown.2 with ⟨rfl, _⟩ | ⟨g', cap, cur, rfl, _, hh, _⟩
    · simp [Value.ownBlock] at ho
    · simp [Value.ownBlock] at ho
      subst ho
      rw [hh] at hg
      simp at hg
      exact h2 hg.2.1.symm

theorem own_kept {w w' : World} {base n : Nat} {v : Value} {xs : List Value} (h : w.ownsRow base 3 1 v n xs) (hk : ∀ (g : Nat) (cs : Array Value) (m : Nat × Nat), w.heap[g]? = some (Obj.cells cs 3 m) → w'.heap[g]? = w.heap[g]?) : w'.ownsRow base 3 1 v n xs := by
  refine ⟨h.1, ?_⟩
  rcases h.2 with h2 | ⟨g, cap, cur, hv, hg, hh, r⟩
  · exact .inl h2
  · exact .inr ⟨g, cap, cur, hv, hg, (hk g _ _ hh).trans hh, r⟩

theorem Ws.step {w0 w w' : World} {b : Nat} {vb : Value} {L L' M : List Bool} (h : Ws w0 w b vb L M) (s : WStep w w' b L') : Ws w0 w' b vb L' M := by
  refine ⟨s.wr, own_kept h.own fun g cs m hg => s.touch.block g (lt_of_block hg) (not_fp h.wr hg (by decide) (by decide)), fun k hk => ?_, h.bel.trans (s.touch.below _ h.bel.size h.low)⟩
  rcases s.fp k hk with e | e
  · exact h.low k e
  · exact Nat.le_trans h.bel.size e

theorem Lb.step {w w' : World} {b K : Nat} {L L' : List Bool} {a n v : Int} {tx : ByteArray} (h : Lb w K a n v tx) (k : Wr w b L) (s : WStep w w' b L') : Lb w' K a n v tx := by
  unfold Lb
  rw [s.touch.block K (lt_of_block h) (not_fp k h (by decide) (by decide))]
  exact h

/-- Nothing old has turned. -/
theorem Ws.new {w0 w w' : World} {b : Nat} {vb : Value} {L M : List Bool} (h : Ws w0 w b vb L M) (t : Touch (fun _ => False) w w') : Ws w0 w' b vb L M := by
  have hk : ∀ k, k < w.heap.size → w'.heap[k]? = w.heap[k]? := fun k hk => t.block k hk id
  refine ⟨h.wr.kept fun k e => hk k (h.wr.fp_lt e), own_kept h.own fun g cs m hg => hk g (lt_of_block hg), fun k e => h.low k (Fp.of_same (hk b h.wr.lt) e), h.bel.trans (t.below _ h.bel.size (fun _ e => e.elim))⟩

theorem Lb.new {w w' : World} {K : Nat} {a n v : Int} {tx : ByteArray} (h : Lb w K a n v tx) (t : Touch (fun _ => False) w w') : Lb w' K a n v tx := by
  unfold Lb
  rw [t.block K (lt_of_block h) id]
  exact h

/-- A bit more in the list. -/
theorem Ws.app {w0 w w' : World} {b : Nat} {vb v' x : Value} {L M : List Bool} {c : Bool} (h : Ws w0 w b vb L M) (o : Obj) (hx : x = .int .i64 ((c.toNat : Nat) : Int))
    (ho : w'.ownsRow w0.heap.size 3 1 v' (M.length + 1) (bitsV M ++ [x])) (hg : (w.alloc o).grownBy w' vb.ownBlock) : Ws w0 w' b v' L (M ++ [c]) := by
  have hk : ∀ k, k < w.heap.size → vb.ownBlock ≠ some k → w'.heap[k]? = w.heap[k]? := fun k hk hn => by
    rw [hg.block k (by simp; omega) (fun e => hn e.symm), Below.heap_alloc _ _ _ hk]
  have hne : ∀ k, Fp w b k → vb.ownBlock ≠ some k := by
    intro k hf e
    rcases h.own.2 with ⟨rfl, _⟩ | ⟨g, cap, cur, rfl, _, hh, _⟩
    · simp [Value.ownBlock] at e
    · simp [Value.ownBlock] at e
      subst e
      exact not_fp h.wr hh (by decide) (by decide) hf
  have hsame : w'.heap[b]? = w.heap[b]? := hk b h.wr.lt (hne b (Fp.self w b))
  refine ⟨h.wr.kept fun k e => hk k (h.wr.fp_lt e) (hne k e), ?_, fun k e => h.low k (Fp.of_same hsame e), ?_⟩
  · subst hx
    simpa [bitsV] using ho
  · exact h.bel.trans (((Below.refl _ w).alloc h.bel.size o).grown hg (by have := h.bel.size; simp; omega) (fun k e => (h.own.lt k e).1))

theorem Lb.app {w0 w w' : World} {b K : Nat} {vb : Value} {L M : List Bool} {a n v : Int} {tx : ByteArray} (h : Lb w K a n v tx) (k : Ws w0 w b vb L M) (o : Obj) (hg : (w.alloc o).grownBy w' vb.ownBlock) : Lb w' K a n v tx := by
  unfold Lb
  rw [hg.block K (by have := lt_of_block h; simp; omega) ?_, Below.heap_alloc _ _ _ (lt_of_block h)]
  · exact h
  · intro e
    rcases k.own.2 with ⟨rfl, _⟩ | ⟨g, cap, cur, rfl, _, hh, _⟩
    · simp [Value.ownBlock] at e
    · simp [Value.ownBlock] at e
      subst e
      unfold Lb at h
      rw [h] at hh
      simp at hh

theorem ws_new {w0 w : World} (hb : Below w0.heap.size w0 w) : Ws w0 (w.alloc (.cells #[.slice none 0 0, .int .i64 0] 41)) w.heap.size (.slice none 0 0) [] [] :=
  ⟨wr_new, World.ownsRow_nil _ _ _ _, fun k hk => by rw [fp_new hk]; exact hb.size, hb.alloc hb.size _⟩

end Go.Proofs.Ytcpjbagljpohnaa
