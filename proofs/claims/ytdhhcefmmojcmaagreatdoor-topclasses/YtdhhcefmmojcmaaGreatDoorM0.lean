/- Texts of this proof, one behind the other: what each says stands ahead of it. -/
import Derived.WalkKit
import Derived.OneCell
import Derived.Deep.QuietTactic
import Derived.Deep.LoopGhost
import Derived.Deep.DeepCutAuto
import Derived.BigQuiet
import Derived.Deep.AppendLies
import Derived.Maps.AppendAt
import Derived.WalkLawsBesides
import Derived.Test.YtdhhcefmmojcmaaGreatDoorChecked
/- What a call leaves alone, and blocks of two cells; no condition. -/
namespace Go.Proofs.YtdhhcefmmojcmaaGreatDoor
open Go.RowKit

theorem hid {p : Prop} (h : p) : Hid p := h

/-- Of the blocks that were there, those outside S are as they were. -/
structure Touch (S : Nat → Prop) (w w' : World) : Prop where
  os : w'.os = w.os
  tape : w'.tape = w.tape
  output : w'.output = w.output
  size : w.heap.size ≤ w'.heap.size
  block : ∀ k, k < w.heap.size → ¬ S k → w'.heap[k]? = w.heap[k]?

theorem Touch.refl (S : Nat → Prop) (w : World) : Touch S w w := ⟨rfl, rfl, rfl, Nat.le_refl _, fun _ _ _ => rfl⟩

theorem Touch.trans {S S' : Nat → Prop} {a b c : World} (h : Touch S a b) (k : Touch S' b c) (hs : ∀ i, i < a.heap.size → S' i → S i) : Touch S a c :=
  ⟨k.os.trans h.os, k.tape.trans h.tape, k.output.trans h.output, Nat.le_trans h.size k.size,
    fun i hi hn => (k.block i (Nat.lt_of_lt_of_le hi h.size) (fun e => hn (hs i hi e))).trans (h.block i hi hn)⟩

theorem Touch.mono {S S' : Nat → Prop} {a b : World} (h : Touch S a b) (hs : ∀ i, i < a.heap.size → S i → S' i) : Touch S' a b :=
  ⟨h.os, h.tape, h.output, h.size, fun i hi hn => h.block i hi (fun e => hn (hs i hi e))⟩

theorem Touch.below {S : Nat → Prop} {a b : World} (h : Touch S a b) (B : Nat) (hB : B ≤ a.heap.size) (hs : ∀ i, S i → B ≤ i) : Below B a b :=
  ⟨h.os, h.tape, h.output, h.size, fun i hi => h.block i (by omega) (fun e => by have := hs i e; omega)⟩

theorem Touch.drew {S : Nat → Prop} {a w : World} (h : Touch S a w) : Touch S a w.drew := ⟨h.os, h.tape, h.output, h.size, h.block⟩

theorem Touch.drewN {S : Nat → Prop} {a w : World} (h : Touch S a w) (n : Nat) : Touch S a (w.drewN n) := ⟨h.os, h.tape, h.output, h.size, h.block⟩

theorem Touch.alloc {S : Nat → Prop} {a w : World} (h : Touch S a w) (o : Obj) : Touch S a (w.alloc o) :=
  h.trans (S' := fun _ => False) ⟨rfl, rfl, rfl, by simp, fun k hk _ => Below.heap_alloc _ _ _ hk⟩ (fun _ _ e => e.elim)

theorem Touch.setCell {S : Nat → Prop} {a w : World} (h : Touch S a w) {p : Addr} (hp : p.block < a.heap.size → S p.block) (u : Value) : Touch S a (w.setCell p u) :=
  h.trans (S' := fun k => k = p.block) ⟨rfl, rfl, rfl, by simp [World.setCell], fun k _ hk => Below.heap_setCell _ _ _ _ hk⟩ (fun i hi e => by subst e; exact hp hi)

theorem Touch.grown {S : Nat → Prop} {a w w' : World} {row : Option Nat} (h : Touch S a w) (hg : w.grownBy w' row) (hr : ∀ k, row = some k → k < a.heap.size → S k) : Touch S a w' :=
  h.trans (S' := fun k => row = some k) ⟨hg.os, hg.tape, hg.output, hg.size, fun k hk hn => hg.block k hk (fun e => hn e.symm)⟩ (fun i hi e => hr i e hi)

theorem Touch.cell {S : Nat → Prop} {w w' : World} (h : Touch S w w') {p : Addr} (hp : p.block < w.heap.size) (hn : ¬ S p.block) : w'.cell? p = w.cell? p := World.cell?_of_block (w := w) (h.block p.block hp hn)

theorem touch_of_below {B : Nat} {w w' : World} (h : Below B w w') : Touch (fun k => B ≤ k) w w' :=
  ⟨h.os, h.tape, h.output, h.size, fun k _ hn => h.block k (by omega)⟩

/-! ### A block of two cells -/
theorem cell_two0 {w : World} {b : Nat} {v u : Value} {t : TypeId} (h : w.heap[b]? = some (.cells #[v, u] t (0, 0))) : w.cell? ⟨b, 0, none⟩ = some v := by simp [World.cell?, h]
theorem cell_two1 {w : World} {b : Nat} {v u : Value} {t : TypeId} (h : w.heap[b]? = some (.cells #[v, u] t (0, 0))) : w.cell? ⟨b, 1, none⟩ = some u := by simp [World.cell?, h]
theorem free_two {w : World} {b i : Nat} {v u : Value} {t : TypeId} (h : w.heap[b]? = some (.cells #[v, u] t (0, 0))) : w.frozen? ⟨b, i, none⟩ = false := by simp [World.frozen?, h]
theorem two_set0 {w : World} {b : Nat} {v u x : Value} {t : TypeId} (h : w.heap[b]? = some (.cells #[v, u] t (0, 0))) : (w.setCell ⟨b, 0, none⟩ x).heap[b]? = some (.cells #[x, u] t (0, 0)) := by
  have hlt := lt_of_block h
  have h' : w.heap[b] = .cells #[v, u] t (0, 0) := by simpa [Array.getElem?_eq_getElem hlt] using h
  show (w.heap.modify b _)[b]? = _
  rw [Array.getElem?_eq_getElem (by simpa using hlt), Array.getElem_modify_self, h']
  rfl
theorem two_set1 {w : World} {b : Nat} {v u x : Value} {t : TypeId} (h : w.heap[b]? = some (.cells #[v, u] t (0, 0))) : (w.setCell ⟨b, 1, none⟩ x).heap[b]? = some (.cells #[v, x] t (0, 0)) := by
  have hlt := lt_of_block h
  have h' : w.heap[b] = .cells #[v, u] t (0, 0) := by simpa [Array.getElem?_eq_getElem hlt] using h
  show (w.heap.modify b _)[b]? = _
  rw [Array.getElem?_eq_getElem (by simpa using hlt), Array.getElem_modify_self, h']
  rfl

theorem block_set {w : World} {b : Nat} {cs : Array Value} {t : TypeId} (h : w.heap[b]? = some (.cells cs t (0, 0))) (i : Nat) (x : Value) : (w.setCell ⟨b, i, none⟩ x).heap[b]? = some (.cells (cs.set! i x) t (0, 0)) := by
  have hlt := lt_of_block h
  have h' : w.heap[b] = .cells cs t (0, 0) := by simpa [Array.getElem?_eq_getElem hlt] using h
  show (w.heap.modify b _)[b]? = _
  rw [Array.getElem?_eq_getElem (by simpa using hlt), Array.getElem_modify_self, h']
  rfl

theorem own_shape {w : World} {base n : Nat} {e : TypeId} {sz : Nat} {v : Value} {xs : List Value} (h : w.ownsRow base e sz v n xs) : ∃ a cap, v = .slice a n cap := by
  rcases h.2 with ⟨rfl, rfl⟩ | ⟨g, cap, cur, rfl, _⟩
  · exact ⟨none, 0, rfl⟩
  · exact ⟨_, cap, rfl⟩

theorem results_c {P : Program} {fn : Func} {p : Tmp} {ty : TypeId} (h : fn.results = #[.cell p ty]) (tmps : Array Value) (w : World) (g : Nat) (et : TypeId) (cs : Array Value) (fr : Nat × Nat) (d : TypeDesc)
    (hp : tmps.getD p undef = .pointer (some ⟨g, 0, none⟩)) (hg : w.heap[g]? = some (.cells cs et fr))
    (hu : P.underlying ty = some d) (hd : (match d with | .struct _ | .array _ _ => true | _ => false) = true) (hi : (P.info? ty).map (·.size) = some cs.size) :
    (results fn tmps).run P w = .ok (.agg cs) w := by
  have hp' : tmps[p]?.getD undef = .pointer (some ⟨g, 0, none⟩) := by simpa using hp
  simp [results, h, hp', asAddr, run_loadVar_row w g et ty cs fr d hg hu hd hi]
end Go.Proofs.YtdhhcefmmojcmaaGreatDoor

/- Lists of numbers: those that lie there, and the call's own; no condition. -/
namespace Go.Proofs.YtdhhcefmmojcmaaGreatDoor
open Go.RowKit

theorem add_gK (g j : Nat) : (⟨g, 0, none⟩ : Addr).add j = ⟨g, j, none⟩ := by
  unfold Addr.add
  split
  · rename_i h; rw [h]
  · rw [Nat.zero_add]


theorem add_oK (b o j : Nat) : (⟨b, o, none⟩ : Addr).add j = ⟨b, o + j, none⟩ := by
  unfold Addr.add
  split
  · rename_i h; rw [h, Nat.add_zero]
  · rfl


/-- Numbers that lie there. -/
def IgK (w : World) (a : Option Addr) (e : List Int) : Prop := ∃ b, a = some ⟨b, 0, none⟩ ∧ b < w.heap.size ∧ ∀ i (h : i < e.length), w.cell? ⟨b, i, none⟩ = some (.int .i64 e[i])
theorem IgK.new {w w' : World} {a : Option Addr} {e : List Int} (h : IgK w a e) (t : Touch (fun _ => False) w w') : IgK w' a e := by
  obtain ⟨b, rfl, hb, hc⟩ := h
  refine ⟨b, rfl, Nat.lt_of_lt_of_le hb t.size, fun i hi => ?_⟩
  rw [t.cell (p := ⟨b, i, none⟩) hb id]
  exact hc i hi


def encIK (e : List Int) : List Value := e.map (Value.int .i64)
/-- Numbers in a list of the call's own. -/
structure OwIK (W0 wr : World) (v : Value) (e : List Int) : Prop where
  own : wr.ownsRow 0 3 1 v e.length (encIK e)
  new : ∀ g, v.ownBlock = some g → W0.heap.size ≤ g
  touch : Touch (fun _ => False) W0 wr
theorem OwIK.more {W0 wr w1 : World} {v v' : Value} {e : List Int} {x : Int} {o : Obj} (h : OwIK W0 wr v e) (hown : w1.ownsRow 0 3 1 v' (e.length + 1) (encIK e ++ [.int .i64 x])) (hg : (wr.alloc o).grownBy w1 v.ownBlock) (hat : v'.ownBlock = v.ownBlock ∨ v'.ownBlock = some (wr.heap.size + 1)) : OwIK W0 w1 v' (e ++ [x]) := by
  refine ⟨?_, fun g hg' => ?_, (h.touch.alloc o).grown hg (fun k e hk => by have := h.new k e; omega)⟩
  · rw [List.length_append, encIK, List.map_append]
    exact hown
  · rcases hat with e | e
    · exact h.new g (by rw [← e]; exact hg')
    · rw [e] at hg'
      simp at hg'
      have := h.touch.size
      omega
theorem OwIK.still {W0 wr w' : World} {v : Value} {e : List Int} (h : OwIK W0 wr v e) (tc : Touch (fun _ => False) wr w') : OwIK W0 w' v e := by
  refine ⟨⟨h.own.1, ?_⟩, h.new, h.touch.trans tc (fun _ _ e => e)⟩
  rcases h.own.2 with h0 | ⟨g, cap, cur, hv, hg, hh, rest⟩
  · exact .inl h0
  · exact .inr ⟨g, cap, cur, hv, hg, (tc.block g (lt_of_block hh) id).trans hh, rest⟩
theorem OwIK.from {W W0 wr : World} {v : Value} {e : List Int} (h : OwIK W0 wr v e) (t : Touch (fun _ => False) W W0) : OwIK W wr v e :=
  ⟨h.own, fun g hg => Nat.le_trans t.size (h.new g hg), t.trans h.touch (fun _ _ e => e)⟩
theorem OwIK.ig {W0 wr : World} {v : Value} {e : List Int} (h : OwIK W0 wr v e) (h0 : e ≠ []) : ∃ a c, v = .slice a e.length c ∧ IgK wr a e := by
  rcases h.own.2 with ⟨rfl, k⟩ | ⟨g, cap, cur, rfl, hg, hh, rest⟩
  · exact absurd (List.eq_nil_of_length_eq_zero k) h0
  · refine ⟨_, cap, rfl, g, rfl, lt_of_block hh, fun i hi => ?_⟩
    have := h.own.cells (g := g) rfl i (.int .i64 e[i]) (by simp [encIK, hi])
    rwa [add_gK] at this
theorem OwIK.one (w : World) (x : Int) : OwIK w (w.alloc (.cells #[.int .i64 x] 3)) (.slice (some ⟨w.heap.size, 0, none⟩) 1 1) [x] := by
  refine ⟨?_, fun g hg => ?_, (Touch.refl _ w).alloc _⟩
  · exact ⟨rfl, .inr ⟨w.heap.size, 1, #[.int .i64 x], rfl, Nat.zero_le _, heap_alloc_new w _, Nat.le_refl _, by unfold maxLen; omega, rfl, rfl⟩⟩
  · simp [Value.ownBlock] at hg
    omega


theorem info3i : (Tryz.prog.info? 3).map (fun i => (i.zero, i.size, i.bytes)) = some (some (.int .i64 0), 1, 8) := by kernel_rfl
/-- Numbers that lie somewhere in a block. -/
def Io (w : World) (a : Option Addr) (l : List Int) : Prop := l = [] ∨ ∃ b o, a = some ⟨b, o, none⟩ ∧ ∀ i (h : i < l.length), w.cell? ⟨b, o + i, none⟩ = some (.int .i64 l[i])
theorem run_append_noneI (w : World) (ty : TypeId) (v : Value) (n : Nat) (xs : List Value) (hown : w.ownsRow 0 3 1 v n xs) (a : Option Addr) (c : Nat) :
    (Builtin.append_ #[56, 56] ty #[v, .slice a 0 c]).run Tryz.prog w = .ok v w := by
  obtain ⟨i0, hin, hz0, hz1, hz2⟩ := info_parts info3i
  have hld : ∀ ad, (loadCells ad 0).run Tryz.prog w = .ok #[] w := fun ad => rfl
  rcases hown.2 with ⟨rfl, rfl⟩ | ⟨g, cap, cur, rfl, hbg, hg, hnc, hcm, hcs, htake⟩ <;> cases a <;>
    simp [Builtin.append_, run_underlying Tryz.underlying56, sizeOf, typeInfo, Builtin.lenOf, Builtin.firstCells, storeCells, *]
theorem run_append_io (w : World) (ty : TypeId) (v : Value) (n : Nat) (xs : List Value) (hown : w.ownsRow 0 3 1 v n xs) (a : Option Addr) (c : Nat) (l : List Int) (hl : Io w a l) (hb : (n + l.length) * 8 ≤ 140737488355328) :
    ∃ v' w', (Builtin.append_ #[56, 56] ty #[v, .slice a l.length c]).run Tryz.prog w = .ok v' w' ∧ w'.ownsRow 0 3 1 v' (n + l.length) (xs ++ encIK l) ∧ w.grownBy w' v.ownBlock ∧ (v'.ownBlock = v.ownBlock ∨ v'.ownBlock = some w.heap.size) := by
  obtain ⟨i0, hin, hz0, hz1, hz2⟩ := info_parts info3i
  rcases hl with rfl | ⟨b, o, rfl, hc⟩
  · refine ⟨v, w, run_append_noneI w ty v n xs hown a c, ?_, ⟨rfl, rfl, rfl, Nat.le_refl _, fun _ _ _ => rfl⟩, .inl rfl⟩
    rw [show encIK [] = [] from rfl, List.append_nil]
    exact hown
  · obtain ⟨v', w', h1, h2, h3, _, h4⟩ := run_append_own_at (P := Tryz.prog) w 0 56 ty 3 i0 (.int .i64 0) 1 8 Tryz.underlying56 hin hz0 hz1 hz2 rfl (by decide) v n xs hown ⟨b, o, none⟩ l.length c (encIK l) (by simp [encIK]) (fun j u hj => by
        rw [add_oK]
        unfold encIK at hj
        rw [List.getElem?_map] at hj
        obtain ⟨z, hz, rfl⟩ := Option.map_eq_some_iff.1 hj
        obtain ⟨hlt, rfl⟩ := List.getElem?_eq_some_iff.1 hz
        exact hc j hlt) (by intro u hu; obtain ⟨z, _, rfl⟩ := List.mem_map.1 hu; rfl) (by unfold maxLen; omega) hb (Nat.zero_le _)
    exact ⟨v', w', h1, h2, h3, h4⟩
theorem wpList_append_io (w : World) {ops : Array Oper} {rest : List Oper} {o : Oper} {a : Act} {Q : Exit → Act → World → Prop} (hgd : o.guard = none) (s x : Operand)
    (ho : o.op = .call { callee := .builtin .append, args := #[s, x], argTypes := #[56, 56] })
    (v : Value) (n : Nat) (xs : List Value) (hs : a.eval s = v) (hown : w.ownsRow 0 3 1 v n xs) (ad : Option Addr) (c : Nat) (l : List Int) (m : Nat) (hm : m = l.length) (hx : a.eval x = .slice ad m c) (hl : Io w ad l) (hb : (n + l.length) * 8 ≤ 140737488355328)
    (h : ∀ v' w', w'.ownsRow 0 3 1 v' (n + l.length) (xs ++ encIK l) → w.grownBy w' v.ownBlock → (v'.ownBlock = v.ownBlock ∨ v'.ownBlock = some w.heap.size) → wpList Tryz.prog ops Q rest (a.put o.dst v') w') : wpList Tryz.prog ops Q (o :: rest) a w := by
  subst hm
  refine wpList_plain hgd fun K hK => ?_
  obtain ⟨v', w', hr, h2, h3, h4⟩ := run_append_io w o.type v n xs hown ad c l hl hb
  unfold Oper.wp execOp
  simp only [ho, resolve, invoke, builtin, Sem.run_bind, Sem.run_pure, Result.andThen_ok, List.map_toArray, List.map_cons, List.map_nil, hs, hx, hr]
  exact hK _ _ (h v' w' h2 h3 h4)
theorem OwIK.grow {W0 wr w1 : World} {v v' : Value} {e m : List Int} (h : OwIK W0 wr v e) (hown : w1.ownsRow 0 3 1 v' (e.length + m.length) (encIK e ++ encIK m)) (hg : wr.grownBy w1 v.ownBlock) (hat : v'.ownBlock = v.ownBlock ∨ v'.ownBlock = some wr.heap.size) : OwIK W0 w1 v' (e ++ m) := by
  refine ⟨?_, fun g hg' => ?_, h.touch.grown hg (fun k e hk => by have := h.new k e; omega)⟩
  · rw [List.length_append, encIK, List.map_append]
    exact hown
  · rcases hat with e | e
    · exact h.new g (by rw [← e]; exact hg')
    · rw [e] at hg'
      simp at hg'
      have := h.touch.size
      omega
theorem OwIK.nil (w : World) : OwIK w w (.slice none 0 0) [] := ⟨by simpa [encIK] using World.ownsRow_nil _ _ _ _, by intro g h; simp [Value.ownBlock] at h, Touch.refl _ _⟩


theorem OwIK.in {W0 wr : World} {a : Option Addr} {len cap : Nat} {e : List Int} (h : OwIK W0 wr (.slice a len cap) e) : ((e = [] ∧ a = none ∧ cap = 0) ∨ IgK wr a e) ∧ e.length ≤ cap ∧ len = e.length := by
  rcases h.own.2 with ⟨hv, h0⟩ | ⟨g, cap', cur, hv, hg, hh, hle, rest⟩
  · simp only [Value.slice.injEq] at hv
    obtain ⟨rfl, rfl, rfl⟩ := hv
    exact ⟨.inl ⟨List.eq_nil_of_length_eq_zero h0, rfl, rfl⟩, by omega, by omega⟩
  · simp only [Value.slice.injEq] at hv
    obtain ⟨rfl, rfl, rfl⟩ := hv
    refine ⟨.inr ⟨g, rfl, lt_of_block hh, fun i hi => ?_⟩, by omega, rfl⟩
    have := h.own.cells (g := g) rfl i (.int .i64 e[i]) (by simp [encIK, hi])
    rwa [add_gK] at this

theorem cells_ofK {w : World} {b i : Nat} {cs : Array Value} {t : TypeId} (h : w.heap[b]? = some (.cells cs t (0, 0))) : w.cell? ⟨b, i, none⟩ = cs[i]? := by simp [World.cell?, h]
theorem OwIK.block {W0 wr : World} {v : Value} {e : List Int} (h : OwIK W0 wr v e) (h0 : e ≠ []) : ∃ g cap cur, v = .slice (some ⟨g, 0, none⟩) e.length cap ∧ wr.heap[g]? = some (.cells cur 3 (0, 0)) ∧ ∀ i (hi : i < e.length), cur[i]? = some (.int .i64 e[i]) := by
  obtain ⟨a, c, hv, b, rfl, _, hc⟩ := h.ig h0
  rcases h.own.2 with ⟨rfl, k⟩ | ⟨g, cap, cur, hv2, hg, hh, rest⟩
  · exact absurd (List.eq_nil_of_length_eq_zero k) h0
  · rw [hv2] at hv
    simp only [Value.slice.injEq, Option.some.injEq, Addr.mk.injEq, and_true] at hv
    obtain ⟨rfl, _, rfl⟩ := hv
    exact ⟨g, cap, cur, hv2, hh, fun i hi => by rw [← cells_ofK hh]; exact hc i hi⟩

end Go.Proofs.YtdhhcefmmojcmaaGreatDoor

/- common of two ranges; no condition. -/
namespace Go.Proofs.YtdhhcefmmojcmaaGreatDoor
open Go.RowKit

theorem info33 : (Tryz.prog.info? 60).map (fun i => (i.zero, i.size, i.bytes)) = some (some (.agg #[.int .i64 0, .int .i64 0]), 2, 16) := by kernel_rfl

theorem ret_two {a b c d : Int} (h : a = c) (k : b = d) : Ending.returned (.agg #[.int .i64 a, .int .i64 b]) = .returned (.agg #[.int .i64 c, .int .i64 d]) := by rw [h, k]
theorem third_new (w : World) (o1 o2 o3 : Obj) : (((w.alloc o1).alloc o2).alloc o3).heap[w.heap.size + 1 + 1]? = some o3 := by
  show (((w.heap.push _).push _).push _)[_]? = _
  rw [Array.getElem?_push]
  simp
theorem three_new {w : World} (x y : Value) (t : TypeId) : (w.alloc (.cells #[x, y] t)).heap[w.heap.size]? = some (.cells #[x, y] t (0, 0)) := by
  show (w.heap.push _)[_]? = _
  simp

set_option maxRecDepth 100000 in
theorem common_any (a b c d : Int) (w : World) : Calls Tryz.prog 33 #[.agg #[.int .i64 a, .int .i64 b], .agg #[.int .i64 c, .int .i64 d]] w fun e w' => e = .returned (.agg #[.int .i64 (max a c), .int .i64 (min b d)]) ∧ Touch (fun _ => False) w w' := by
  go_enter Tryz.func33, Tryz.ntmps33
  go_wp2
  all_goals
    refine bodyPost_ret (results_c rfl _ _ (w.heap.size + 1 + 1) 60 _ (0, 0) _ rfl (third_new w _ _ _) Tryz.underlying60 rfl (by kernel_rfl)) rfl ⟨?_, (((Touch.refl _ w).alloc _).alloc _).alloc _⟩
    exact ret_two (by omega) (by omega)
end Go.Proofs.YtdhhcefmmojcmaaGreatDoor

/- Rows of ranges in memory; no condition. -/
namespace Go.Proofs.YtdhhcefmmojcmaaGreatDoor
open Go.RowKit

abbrev R2 := Int × Int
def encR (x : R2) : List Value := [.int .i64 x.1, .int .i64 x.2]
def flatR (l : List R2) : List Value := l.flatMap encR
theorem flatR_append (l m : List R2) : flatR (l ++ m) = flatR l ++ flatR m := by simp [flatR]
theorem length_flatR (l : List R2) : (flatR l).length = l.length * 2 := by
  induction l with
  | nil => rfl
  | cons x r ih => simp only [flatR, List.flatMap_cons, List.length_append, List.length_cons] at ih ⊢; rw [ih]; simp [encR]; omega
theorem flatR_get0 : ∀ (l : List R2) (i : Nat) (h : i < l.length), (flatR l)[2 * i]? = some (.int .i64 (l[i]).1)
  | x :: r, 0, _ => rfl
  | x :: r, i + 1, h => by
    have := flatR_get0 r i (by simpa using h)
    show (encR x ++ flatR r)[2 * (i + 1)]? = _
    rw [List.getElem?_append_right (by simp [encR]; omega)]
    simpa [encR, show 2 * (i + 1) - 2 = 2 * i by omega] using this
theorem flatR_get1 : ∀ (l : List R2) (i : Nat) (h : i < l.length), (flatR l)[2 * i + 1]? = some (.int .i64 (l[i]).2)
  | x :: r, 0, _ => rfl
  | x :: r, i + 1, h => by
    have := flatR_get1 r i (by simpa using h)
    show (encR x ++ flatR r)[2 * (i + 1) + 1]? = _
    rw [List.getElem?_append_right (by simp [encR]; omega)]
    simpa [encR, show 2 * (i + 1) + 1 - 2 = 2 * i + 1 by omega] using this
theorem flatR_one (l : List R2) : ∀ u ∈ flatR l, u.oneCell' = true := by
  intro u hu
  simp only [flatR, List.mem_flatMap, encR] at hu
  obtain ⟨x, _, hx⟩ := hu
  simp at hx
  rcases hx with rfl | rfl <;> rfl

theorem add_g (g j : Nat) : (⟨g, 0, none⟩ : Addr).add j = ⟨g, j, none⟩ := by
  unfold Addr.add
  split
  · rename_i h; rw [h]
  · rw [Nat.zero_add]

/-- A list of ranges in memory, as a walk is told of it. -/
def Rg (w : World) (a : Option Addr) (l : List R2) : Prop :=
  l = [] ∨ ∃ b o, a = some ⟨b, o, none⟩ ∧ b < w.heap.size ∧ ∀ i (h : i < l.length), w.cell? ⟨b, o + i * 2, none⟩ = some (.int .i64 (l[i]).1) ∧ w.cell? ⟨b, o + i * 2 + 1, none⟩ = some (.int .i64 (l[i]).2)

theorem Rg.kept {w w' : World} {S : Nat → Prop} {a : Option Addr} {l : List R2} (h : Rg w a l) (t : Touch S w w') (hs : ∀ b o, a = some ⟨b, o, none⟩ → b < w.heap.size → ¬ S b) : Rg w' a l := by
  rcases h with h | ⟨b, o, rfl, hb, hc⟩
  · exact .inl h
  · refine .inr ⟨b, o, rfl, Nat.lt_of_lt_of_le hb t.size, fun i hi => ?_⟩
    rw [t.cell (p := ⟨b, o + i * 2, none⟩) hb (hs b o rfl hb), t.cell (p := ⟨b, o + i * 2 + 1, none⟩) hb (hs b o rfl hb)]
    exact hc i hi
theorem Rg.new {w w' : World} {a : Option Addr} {l : List R2} (h : Rg w a l) (t : Touch (fun _ => False) w w') : Rg w' a l := h.kept t (fun _ _ _ _ e => e)
theorem own_rg {w : World} {base e : Nat} {v : Value} {l : List R2} (h : w.ownsRow base e 2 v l.length (flatR l)) : ∃ a c, v = .slice a l.length c ∧ Rg w a l := by
  rcases h.2 with ⟨rfl, h0⟩ | ⟨g, cap, cur, rfl, hg, hh, rest⟩
  · exact ⟨none, 0, by rw [h0], .inl (List.eq_nil_of_length_eq_zero h0)⟩
  · refine ⟨_, cap, rfl, .inr ⟨g, 0, rfl, lt_of_block hh, fun i hi => ?_⟩⟩
    have h1 := h.cells (g := g) rfl (2 * i) _ (flatR_get0 l i hi)
    have h2 := h.cells (g := g) rfl (2 * i + 1) _ (flatR_get1 l i hi)
    rw [add_g] at h1 h2
    rw [show 0 + i * 2 = 2 * i by omega]
    exact ⟨h1, h2⟩
end Go.Proofs.YtdhhcefmmojcmaaGreatDoor
