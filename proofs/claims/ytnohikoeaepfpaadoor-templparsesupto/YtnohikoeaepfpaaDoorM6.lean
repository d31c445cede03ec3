/- Texts of this proof, one behind the other: what each says stands ahead of it. -/
import Derived.Test.YtnohikoeaepfpaaDoorM4
import Derived.Test.YtnohikoeaepfpaaDoorM3
/- Lists of bytes that are the call's own; no condition. -/
namespace Go.Proofs.YtnohikoeaepfpaaDoor
open Go.RowKit
open Go.Lib

def bv (l : Bs) : List Value := l.map fun b => .int .u8 (b.toNat : Int)
structure OwB (W0 wr : World) (v : Value) (l : Bs) : Prop where
  own : wr.ownsRow 0 5 1 v l.length (bv l)
  new : ∀ g, v.ownBlock = some g → W0.heap.size ≤ g
  touch : Touch (fun _ => False) W0 wr
theorem OwB.nil (w : World) : OwB w w (.slice none 0 0) [] := ⟨World.ownsRow_nil _ _ _ _, by intro g h; simp [Value.ownBlock] at h, Touch.refl _ _⟩
theorem OwB.still {W0 wr w' : World} {v : Value} {s : Bs} (h : OwB W0 wr v s) (tc : Touch (fun _ => False) wr w') : OwB W0 w' v s := by
  refine ⟨⟨h.own.1, ?_⟩, h.new, h.touch.trans tc (fun _ _ e => e)⟩
  rcases h.own.2 with h0 | ⟨g, cap, cur, hv, hg, hh, rest⟩
  · exact .inl h0
  · exact .inr ⟨g, cap, cur, hv, hg, (tc.block g (lt_of_block hh) id).trans hh, rest⟩
theorem OwB.more {W0 wr w1 : World} {v v' : Value} {s : Bs} {c : UInt8} {o : Obj} {k : Nat} (h : OwB W0 wr v s) (hown : w1.ownsRow 0 5 1 v' (s.length + 1) (bv s ++ [.int .u8 (c.toNat : Int)])) (hg : (wr.alloc o).grownBy w1 v.ownBlock) (hat : v'.ownBlock = v.ownBlock ∨ v'.ownBlock = some k) (hk : wr.heap.size ≤ k) : OwB W0 w1 v' (s ++ [c]) := by
  refine ⟨?_, fun g hg' => ?_, (h.touch.alloc o).grown hg (fun k e hk => by have := h.new k e; omega)⟩
  · rw [List.length_append]
    have e : bv (s ++ [c]) = bv s ++ [.int .u8 (c.toNat : Int)] := by simp [bv]
    rw [e]
    exact hown
  · rcases hat with e | e
    · exact h.new g (by rw [← e]; exact hg')
    · rw [e] at hg'
      simp at hg'
      have := h.touch.size
      omega
theorem OwB.conv {W0 wr : World} {v : Value} {s : Bs} (h : OwB W0 wr v s) : (convert 23 9 v).run Tryd.prog wr = .ok (.string ⟨s.toArray⟩) wr := by
  have h2 := h.own.2
  rcases h2 with ⟨hv, h0⟩ | ⟨g, cap, cur, hv, hg, hh, rest⟩
  · obtain rfl : s = [] := List.eq_nil_of_length_eq_zero h0
    rw [hv, run_convert_bytes_string wr 23 9 5 none 0 0 Tryd.underlying23 Tryd.underlying5 Tryd.underlying9]
    rfl
  · rw [hv]
    refine run_convert_bytes_back wr 23 9 5 ⟨g, 0, none⟩ cap s Tryd.underlying23 Tryd.underlying5 Tryd.underlying9 (fun j hj => ?_)
    exact h.own.cells (g := g) (by rw [hv]; rfl) j _ (by unfold bv; rw [List.getElem?_map, List.getElem?_eq_getElem hj]; rfl)
theorem byte_new (w : World) (u : Value) : ∀ (j : Nat) (x : Value), [u][j]? = some x → (w.alloc (.cells #[u] 5)).cell? ((⟨w.heap.size, 0, none⟩ : Addr).add j) = some x := row_new w [u] 5
end Go.Proofs.YtnohikoeaepfpaaDoor
