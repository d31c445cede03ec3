/- A list appended to an empty one: a copy; conditions: it fits into memory. -/
import Derived.Test.YtokelpnmeknncabCl
namespace Go.Proofs.Ytokelpnmeknncab
open Go.RowKit

theorem run_copy_none (w : World) (ad : Addr) (ty t e : TypeId) (i : TypeInfo) (ht : Try.prog.underlying t = some (.slice e)) (hin : Try.prog.info? e = some i) :
    (Builtin.append_ #[t, t] ty #[.slice (some ad) 0 0, .slice none 0 0]).run Try.prog w = .ok (.slice (some ad) 0 0) w := by
  simp [Builtin.append_, run_underlying ht, sizeOf, typeInfo, hin, Builtin.lenOf, Builtin.firstCells, storeCells]

theorem wpList_copy (w0 : World) {ops : Array Oper} {rest : List Oper} {o : Oper} {a : Act} {Q : Exit → Act → World → Prop} (hgd : o.guard = none) (sl x : Operand) (t e : TypeId) (i : TypeInfo) (z : Value) (bytes : Nat)
    (ho : o.op = .call { callee := .builtin .append, args := #[sl, x], argTypes := #[t, t] }) (ht : Try.prog.underlying t = some (.slice e)) (hin : Try.prog.info? e = some i) (hz : i.zero = some z) (hz1 : i.size = 1) (hby : i.bytes = bytes) (hzs : z.cells.size = 1)
    (hs : a.eval sl = .slice (some ⟨w0.heap.size, 0, none⟩) 0 0) (A : Option Addr) (len cap : Nat) (hx : a.eval x = .slice A len cap) (vals : List Value) (hlen : vals.length = len)
    (hA : (A = none ∧ cap = 0 ∧ len = 0) ∨ ∃ ad, A = some ad ∧ ∀ j u, vals[j]? = some u → w0.cell? (ad.add j) = some u) (hone : ∀ u ∈ vals, u.oneCell' = true) (hl : len ≤ maxLen) (hb : len * bytes ≤ 140737488355328)
    (h : ∀ v' w', w'.ownsRow w0.heap.size e 1 v' len vals → Touch (fun _ => False) w0 w' → (∃ g c, v' = .slice (some ⟨g, 0, none⟩) len c) → wpList Try.prog ops Q rest (a.put o.dst v') w') : wpList Try.prog ops Q (o :: rest) a (w0.alloc (.cells #[] e)) := by
  have hown : (w0.alloc (.cells #[] e)).ownsRow w0.heap.size e 1 (.slice (some ⟨w0.heap.size, 0, none⟩) 0 0) 0 [] := World.ownsRow_made w0 #[] 0 (Nat.le_refl _) (by unfold maxLen; omega) rfl
  rcases hA with ⟨rfl, rfl, rfl⟩ | ⟨ad, rfl, hc⟩
  · have hv : vals = [] := List.eq_nil_of_length_eq_zero hlen
    subst hv
    refine wpList_plain hgd fun K hK => ?_
    unfold Oper.wp execOp
    simp only [ho, resolve, invoke, builtin, Sem.run_bind, Sem.run_pure, Result.andThen_ok, List.map_toArray, List.map_cons, List.map_nil, hs, hx, run_copy_none _ _ _ t e i ht hin]
    exact hK _ _ (h _ _ hown ((Touch.refl _ w0).alloc _) ⟨_, _, rfl⟩)
  · refine wpList_append_own _ hgd sl x t ho w0.heap.size e i z 1 bytes ht hin hz hz1 hby hzs (by decide) _ 0 [] hs hown ad len cap vals hx (by rw [hlen, Nat.mul_one]) (fun j u hj => ?_) hone (by omega) (by rw [Nat.zero_add]; exact hb) (by simp) (fun v' w' h1 h2 h3 => ?_)
    · have := hc j u hj
      rw [World.cell?_of_block (w := w0) (Below.heap_alloc _ _ _ (World.block_lt_of_cell? w0 _ this))]
      exact this
    · rw [Nat.zero_add, List.nil_append] at h1
      refine h v' w' h1 (((Touch.refl (fun _ => False) w0).alloc _).grown h2 (fun k e h => by simp [Value.ownBlock] at e; omega)) ?_
      rcases h1.2 with ⟨rfl, _⟩ | ⟨g, cap', cur, rfl, _⟩
      · have := h3.mp rfl
        simp at this
      · exact ⟨g, cap', rfl⟩
end Go.Proofs.Ytokelpnmeknncab
