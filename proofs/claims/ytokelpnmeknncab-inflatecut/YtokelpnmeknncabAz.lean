/- Thirty-two nought elements appended to a list that the call owns; condition: the list has at most some thousand elements. -/
import Derived.Test.YtokelpnmeknncabCl
namespace Go.Proofs.Ytokelpnmeknncab
open Go.RowKit

theorem info73 : (Try.prog.info? 69).map (fun i => (i.zero, i.size, i.bytes)) = some (some (.agg #[.int .i64 0, .int .i64 0, .int .i64 0]), 3, 24) := by kernel_rfl
theorem wrap_32 : IntKind.i64.wrap 32 = 32 := by decide

/-- So many nought cells. -/
def zeros3 : Array Value := Builtin.zeroCells #[.int .i64 0, .int .i64 0, .int .i64 0] 32

theorem size_zeros3 : zeros3.size = 96 := by rw [zeros3, size_zeroCells]; rfl
theorem zeros3_eq : zeros3.toList = List.replicate 96 (.int .i64 0) := by kernel_rfl

theorem run_zeros_grow (w : World) (ty : TypeId) (b : Addr) (n cap : Nat) (olds : List Value) (hlo : olds.length = n * 3) (holds : ∀ j v, olds[j]? = some v → w.cell? (b.add j) = some v) (hg : cap < n + 32) (hn : n ≤ 100000000) :
    (Builtin.append_ #[57, 3] ty #[.slice (some b) n cap, .int .i64 32]).run Try.prog w =
      .ok (.slice (some ⟨w.heap.size, 0, none⟩) (n + 32) (grownCap w (n + 32) cap 69))
        (w.drew.alloc (.cells (olds.toArray ++ zeros3 ++ Builtin.zeroCells #[.int .i64 0, .int .i64 0, .int .i64 0] (grownCap w (n + 32) cap 69 - (n + 32))) 69)) := by
  obtain ⟨i0, hin, hz0, hz1, hz2⟩ := info_parts info73
  have hn' : ¬ (n + 32 ≤ cap) := by omega
  have h48 : Builtin.nextslicecap (n + 32) cap * 24 ≤ 281474976710656 := growslice_fits (by omega) (by omega)
  have h48' : ¬ (281474976710656 < Builtin.nextslicecap (n + 32) cap * 24) := by omega
  have hfo := run_firstCells_some (P := Try.prog) w.drew 3 n b n cap olds hlo (by simpa using holds)
  simp [Builtin.append_, run_underlying Try.underlying57, run_underlying Try.underlying3, sizeOf, typeInfo, zeroValue, hin, hz0, hz1, hz2, hn', h48', Question.forced, hfo, newRow, grownCap, asInt, asIntOf, wrap_32, Value.cells, zeros3]
  intro h
  exact absurd h (by omega)

theorem run_zeros_nil (w : World) (ty : TypeId) :
    (Builtin.append_ #[57, 3] ty #[.slice none 0 0, .int .i64 32]).run Try.prog w =
      .ok (.slice (some ⟨w.heap.size, 0, none⟩) 32 (grownCap w 32 0 69))
        (w.drew.alloc (.cells (zeros3 ++ Builtin.zeroCells #[.int .i64 0, .int .i64 0, .int .i64 0] (grownCap w 32 0 69 - 32)) 69)) := by
  obtain ⟨i0, hin, hz0, hz1, hz2⟩ := info_parts info73
  have h48 : Builtin.nextslicecap 32 0 * 24 ≤ 281474976710656 := growslice_fits (by omega) (by omega)
  have h48' : ¬ (281474976710656 < Builtin.nextslicecap 32 0 * 24) := by omega
  have hfo : (Builtin.firstCells 3 0 (.slice none 0 0)).run Try.prog w.drew = .ok #[] w.drew := by simp [Builtin.firstCells]
  simp [Builtin.append_, run_underlying Try.underlying57, run_underlying Try.underlying3, sizeOf, typeInfo, zeroValue, hin, hz0, hz1, hz2, h48', Question.forced, hfo, newRow, grownCap, asInt, asIntOf, wrap_32, Value.cells, zeros3]
  intro h
  exact absurd h (by omega)

theorem run_zeros_room (w : World) (ty : TypeId) (g n cap : Nat) (cur : Array Value) (hg : w.heap[g]? = some (.cells cur 69 (0, 0))) (hroom : n + 32 ≤ cap) (hfit : n * 3 + 96 ≤ cur.size) :
    (Builtin.append_ #[57, 3] ty #[.slice (some ⟨g, 0, none⟩) n cap, .int .i64 32]).run Try.prog w =
      .ok (.slice (some ⟨g, 0, none⟩) (n + 32) cap) (w.setRow g (cur.toList.take (n * 3) ++ zeros3.toList ++ cur.toList.drop (n * 3 + 96)).toArray) := by
  obtain ⟨i0, hin, hz0, hz1, hz2⟩ := info_parts info73
  have hst := run_storeCells_at Try.prog g (n * 3) 69 zeros3.toList 0 cur w hg (by simp [size_zeros3]; omega) (by intro v hv; rw [zeros3_eq] at hv; have := List.eq_of_mem_replicate hv; subst this; rfl)
  simp only [Nat.add_zero, Array.length_toList, size_zeros3] at hst
  have hst' := hst
  unfold zeros3 at hst'
  simp [Builtin.append_, run_underlying Try.underlying57, run_underlying Try.underlying3, sizeOf, typeInfo, zeroValue, hin, hz0, hz1, hz2, hroom, asInt, asIntOf, wrap_32, Value.cells, Addr.add_lit, hst', zeros3]

theorem run_zeros (w : World) (ty : TypeId) (v : Value) (n : Nat) (xs : List Value) (hown : w.ownsRow 0 69 3 v n xs) (hn : n ≤ 100000000) :
    ∃ v' w', (Builtin.append_ #[57, 3] ty #[v, .int .i64 32]).run Try.prog w = .ok v' w' ∧ w'.ownsRow 0 69 3 v' (n + 32) (xs ++ List.replicate 96 (.int .i64 0)) ∧ w.grownBy w' v.ownBlock ∧
      (v'.ownBlock = v.ownBlock ∨ v'.ownBlock = some w.heap.size) := by
  have hlen : (xs ++ List.replicate 96 (Value.int .i64 0)).length = (n + 32) * 3 := by rw [List.length_append, hown.1, List.length_replicate]; omega
  rcases hown.2 with ⟨rfl, rfl⟩ | ⟨g, cap, cur, rfl, hbg, hg, hnc, hcm, hcs, htake⟩
  · have hx : xs = [] := List.eq_nil_of_length_eq_zero (by simpa using hown.1)
    subst hx
    have hge := grownCap_ge w 32 0 69
    refine ⟨_, _, run_zeros_nil w ty, ⟨hlen, .inr ⟨w.heap.size, _, _, rfl, Nat.zero_le _, heap_alloc_new w.drew _, by omega, grownCap_le_maxLen w 32 0 69 (by unfold maxLen; omega), ?_, ?_⟩⟩, ⟨rfl, rfl, rfl, by simp, fun k hk _ => Below.heap_alloc w.drew _ k hk⟩, .inr rfl⟩
    · simp only [Array.size_append, size_zeroCells, size_zeros3]
      have : (#[Value.int IntKind.i64 0, .int .i64 0, .int .i64 0] : Array Value).size = 3 := rfl
      rw [this]
      omega
    · simp only [Array.toList_append, zeros3_eq, List.nil_append]
      exact List.take_left' (by simp)
  · by_cases hroom : n + 32 ≤ cap
    · refine ⟨_, _, run_zeros_room w ty g n cap cur hg hroom (by omega), ⟨hlen, .inr ⟨g, cap, _, rfl, Nat.zero_le _, setRow_heap w g cur _ 69 _ hg, hroom, hcm, ?_, ?_⟩⟩, ⟨rfl, rfl, rfl, by simp, fun k _ hk => setRow_other w g k _ (fun e => hk (by simp [Value.ownBlock, e]))⟩, .inl rfl⟩
      · simp only [List.size_toArray, List.length_append, List.length_take, List.length_drop, Array.length_toList, size_zeros3]
        omega
      · rw [htake, zeros3_eq, ← hlen]
        exact List.take_left
    · have holds : ∀ j u, xs[j]? = some u → w.cell? ((⟨g, 0, none⟩ : Addr).add j) = some u := hown.cells (g := g) rfl
      have hge := grownCap_ge w (n + 32) cap 69
      refine ⟨_, _, run_zeros_grow w ty ⟨g, 0, none⟩ n cap xs hown.1 holds (by omega) hn, ⟨hlen, .inr ⟨w.heap.size, _, _, rfl, Nat.zero_le _, heap_alloc_new w.drew _, by omega, grownCap_le_maxLen w (n + 32) cap 69 (by unfold maxLen; omega), ?_, ?_⟩⟩, ⟨rfl, rfl, rfl, by simp, fun k hk _ => Below.heap_alloc w.drew _ k hk⟩, .inr rfl⟩
      · simp only [Array.size_append, size_zeroCells, size_zeros3, List.size_toArray, hown.1, List.length_cons, List.length_nil]
        omega
      · simp only [Array.toList_append, zeros3_eq]
        rw [← hlen]
        exact List.take_left

theorem wpList_zeros (w : World) {ops : Array Oper} {rest : List Oper} {o : Oper} {a : Act} {Q : Exit → Act → World → Prop} (hgd : o.guard = none) (sl x : Operand)
    (ho : o.op = .call { callee := .builtin .append, args := #[sl, x], argTypes := #[57, 3] })
    (v : Value) (n : Nat) (xs : List Value) (hs : a.eval sl = v) (hx : a.eval x = .int .i64 32) (hown : w.ownsRow 0 69 3 v n xs) (hn : n ≤ 100000000)
    (h : ∀ v' w', w'.ownsRow 0 69 3 v' (n + 32) (xs ++ List.replicate 96 (.int .i64 0)) → w.grownBy w' v.ownBlock → (v'.ownBlock = v.ownBlock ∨ v'.ownBlock = some w.heap.size) → wpList Try.prog ops Q rest (a.put o.dst v') w') : wpList Try.prog ops Q (o :: rest) a w := by
  refine wpList_plain hgd fun K hK => ?_
  obtain ⟨v', w', hr, h2, h3, h4⟩ := run_zeros w o.type v n xs hown hn
  unfold Oper.wp execOp
  simp only [ho, resolve, invoke, builtin, Sem.run_bind, Sem.run_pure, Result.andThen_ok, List.map_toArray, List.map_cons, List.map_nil, hs, hx, hr]
  exact hK _ _ (h v' w' h2 h3 h4)
end Go.Proofs.Ytokelpnmeknncab
