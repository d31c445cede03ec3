/- Texts of this proof, one behind the other: what each says stands ahead of it. -/
import Derived.WalkKit
import Derived.OneCell
import Derived.Deep.QuietTactic
import Derived.Deep.LoopGhost
import Derived.Deep.DeepCutAuto
import Derived.BigQuiet
import Derived.Deep.AppendLies
import Derived.Maps.AppendAt
import Derived.WalkLawsBesides
import Derived.Test.YtjpmjcadnnglnaaDoorChecked
import Derived.Laws.Rows
/- What a call leaves alone, and blocks of two cells; no condition. -/
namespace Go.Proofs.YtjpmjcadnnglnaaDoor
open Go.RowKit

theorem hid {p : Prop} (h : p) : Hid p := h

/-- Of the blocks that were there, those outside S are as they were. -/
structure Touch (S : Nat → Prop) (w w' : World) : Prop where
  os : w'.os = w.os
  tape : w'.tape = w.tape
  output : w'.output = w.output
  size : w.heap.size ≤ w'.heap.size
  block : ∀ k, k < w.heap.size → ¬ S k → w'.heap[k]? = w.heap[k]?

theorem Touch.refl (S : Nat → Prop) (w : World) : Touch S w w := ⟨rfl, rfl, rfl, Nat.le_refl _, fun _ _ _ => rfl⟩

theorem Touch.trans {S S' : Nat → Prop} {a b c : World} (h : Touch S a b) (k : Touch S' b c) (hs : ∀ i, i < a.heap.size → S' i → S i) : Touch S a c :=
  ⟨k.os.trans h.os, k.tape.trans h.tape, k.output.trans h.output, Nat.le_trans h.size k.size,
    fun i hi hn => (k.block i (Nat.lt_of_lt_of_le hi h.size) (fun e => hn (hs i hi e))).trans (h.block i hi hn)⟩

theorem Touch.mono {S S' : Nat → Prop} {a b : World} (h : Touch S a b) (hs : ∀ i, i < a.heap.size → S i → S' i) : Touch S' a b :=
  ⟨h.os, h.tape, h.output, h.size, fun i hi hn => h.block i hi (fun e => hn (hs i hi e))⟩

theorem Touch.below {S : Nat → Prop} {a b : World} (h : Touch S a b) (B : Nat) (hB : B ≤ a.heap.size) (hs : ∀ i, S i → B ≤ i) : Below B a b :=
  ⟨h.os, h.tape, h.output, h.size, fun i hi => h.block i (by omega) (fun e => by have := hs i e; omega)⟩

theorem Touch.drew {S : Nat → Prop} {a w : World} (h : Touch S a w) : Touch S a w.drew := ⟨h.os, h.tape, h.output, h.size, h.block⟩

theorem Touch.drewN {S : Nat → Prop} {a w : World} (h : Touch S a w) (n : Nat) : Touch S a (w.drewN n) := ⟨h.os, h.tape, h.output, h.size, h.block⟩

theorem Touch.alloc {S : Nat → Prop} {a w : World} (h : Touch S a w) (o : Obj) : Touch S a (w.alloc o) :=
  h.trans (S' := fun _ => False) ⟨rfl, rfl, rfl, by simp, fun k hk _ => Below.heap_alloc _ _ _ hk⟩ (fun _ _ e => e.elim)

theorem Touch.setCell {S : Nat → Prop} {a w : World} (h : Touch S a w) {p : Addr} (hp : p.block < a.heap.size → S p.block) (u : Value) : Touch S a (w.setCell p u) :=
  h.trans (S' := fun k => k = p.block) ⟨rfl, rfl, rfl, by simp [World.setCell], fun k _ hk => Below.heap_setCell _ _ _ _ hk⟩ (fun i hi e => by subst e; exact hp hi)

theorem Touch.grown {S : Nat → Prop} {a w w' : World} {row : Option Nat} (h : Touch S a w) (hg : w.grownBy w' row) (hr : ∀ k, row = some k → k < a.heap.size → S k) : Touch S a w' :=
  h.trans (S' := fun k => row = some k) ⟨hg.os, hg.tape, hg.output, hg.size, fun k hk hn => hg.block k hk (fun e => hn e.symm)⟩ (fun i hi e => hr i e hi)

theorem Touch.cell {S : Nat → Prop} {w w' : World} (h : Touch S w w') {p : Addr} (hp : p.block < w.heap.size) (hn : ¬ S p.block) : w'.cell? p = w.cell? p := World.cell?_of_block (w := w) (h.block p.block hp hn)

theorem touch_of_below {B : Nat} {w w' : World} (h : Below B w w') : Touch (fun k => B ≤ k) w w' :=
  ⟨h.os, h.tape, h.output, h.size, fun k _ hn => h.block k (by omega)⟩

/-! ### A block of two cells -/
theorem cell_two0 {w : World} {b : Nat} {v u : Value} {t : TypeId} (h : w.heap[b]? = some (.cells #[v, u] t (0, 0))) : w.cell? ⟨b, 0, none⟩ = some v := by simp [World.cell?, h]
theorem cell_two1 {w : World} {b : Nat} {v u : Value} {t : TypeId} (h : w.heap[b]? = some (.cells #[v, u] t (0, 0))) : w.cell? ⟨b, 1, none⟩ = some u := by simp [World.cell?, h]
theorem free_two {w : World} {b i : Nat} {v u : Value} {t : TypeId} (h : w.heap[b]? = some (.cells #[v, u] t (0, 0))) : w.frozen? ⟨b, i, none⟩ = false := by simp [World.frozen?, h]
theorem two_set0 {w : World} {b : Nat} {v u x : Value} {t : TypeId} (h : w.heap[b]? = some (.cells #[v, u] t (0, 0))) : (w.setCell ⟨b, 0, none⟩ x).heap[b]? = some (.cells #[x, u] t (0, 0)) := by
  have hlt := lt_of_block h
  have h' : w.heap[b] = .cells #[v, u] t (0, 0) := by simpa [Array.getElem?_eq_getElem hlt] using h
  show (w.heap.modify b _)[b]? = _
  rw [Array.getElem?_eq_getElem (by simpa using hlt), Array.getElem_modify_self, h']
  rfl
theorem two_set1 {w : World} {b : Nat} {v u x : Value} {t : TypeId} (h : w.heap[b]? = some (.cells #[v, u] t (0, 0))) : (w.setCell ⟨b, 1, none⟩ x).heap[b]? = some (.cells #[v, x] t (0, 0)) := by
  have hlt := lt_of_block h
  have h' : w.heap[b] = .cells #[v, u] t (0, 0) := by simpa [Array.getElem?_eq_getElem hlt] using h
  show (w.heap.modify b _)[b]? = _
  rw [Array.getElem?_eq_getElem (by simpa using hlt), Array.getElem_modify_self, h']
  rfl

theorem block_set {w : World} {b : Nat} {cs : Array Value} {t : TypeId} (h : w.heap[b]? = some (.cells cs t (0, 0))) (i : Nat) (x : Value) : (w.setCell ⟨b, i, none⟩ x).heap[b]? = some (.cells (cs.set! i x) t (0, 0)) := by
  have hlt := lt_of_block h
  have h' : w.heap[b] = .cells cs t (0, 0) := by simpa [Array.getElem?_eq_getElem hlt] using h
  show (w.heap.modify b _)[b]? = _
  rw [Array.getElem?_eq_getElem (by simpa using hlt), Array.getElem_modify_self, h']
  rfl

theorem own_shape {w : World} {base n : Nat} {e : TypeId} {sz : Nat} {v : Value} {xs : List Value} (h : w.ownsRow base e sz v n xs) : ∃ a cap, v = .slice a n cap := by
  rcases h.2 with ⟨rfl, rfl⟩ | ⟨g, cap, cur, rfl, _⟩
  · exact ⟨none, 0, rfl⟩
  · exact ⟨_, cap, rfl⟩

theorem results_c {P : Program} {fn : Func} {p : Tmp} {ty : TypeId} (h : fn.results = #[.cell p ty]) (tmps : Array Value) (w : World) (g : Nat) (et : TypeId) (cs : Array Value) (fr : Nat × Nat) (d : TypeDesc)
    (hp : tmps.getD p undef = .pointer (some ⟨g, 0, none⟩)) (hg : w.heap[g]? = some (.cells cs et fr))
    (hu : P.underlying ty = some d) (hd : (match d with | .struct _ | .array _ _ => true | _ => false) = true) (hi : (P.info? ty).map (·.size) = some cs.size) :
    (results fn tmps).run P w = .ok (.agg cs) w := by
  have hp' : tmps[p]?.getD undef = .pointer (some ⟨g, 0, none⟩) := by simpa using hp
  simp [results, h, hp', asAddr, run_loadVar_row w g et ty cs fr d hg hu hd hi]
end Go.Proofs.YtjpmjcadnnglnaaDoor

/- Lists of numbers: those that lie there, and the call's own; no condition. -/
namespace Go.Proofs.YtjpmjcadnnglnaaDoor
open Go.RowKit

theorem add_g (g j : Nat) : (⟨g, 0, none⟩ : Addr).add j = ⟨g, j, none⟩ := by
  unfold Addr.add
  split
  · rename_i h; rw [h]
  · rw [Nat.zero_add]


theorem add_o (b o j : Nat) : (⟨b, o, none⟩ : Addr).add j = ⟨b, o + j, none⟩ := by
  unfold Addr.add
  split
  · rename_i h; rw [h, Nat.add_zero]
  · rfl


/-- Numbers that lie there. -/
def Ig (w : World) (a : Option Addr) (e : List Int) : Prop := ∃ b, a = some ⟨b, 0, none⟩ ∧ b < w.heap.size ∧ ∀ i (h : i < e.length), w.cell? ⟨b, i, none⟩ = some (.int .i64 e[i])
theorem Ig.new {w w' : World} {a : Option Addr} {e : List Int} (h : Ig w a e) (t : Touch (fun _ => False) w w') : Ig w' a e := by
  obtain ⟨b, rfl, hb, hc⟩ := h
  refine ⟨b, rfl, Nat.lt_of_lt_of_le hb t.size, fun i hi => ?_⟩
  rw [t.cell (p := ⟨b, i, none⟩) hb id]
  exact hc i hi


def encI (e : List Int) : List Value := e.map (Value.int .i64)
/-- Numbers in a list of the call's own. -/
structure OwI (W0 wr : World) (v : Value) (e : List Int) : Prop where
  own : wr.ownsRow 0 3 1 v e.length (encI e)
  new : ∀ g, v.ownBlock = some g → W0.heap.size ≤ g
  touch : Touch (fun _ => False) W0 wr
theorem OwI.more {W0 wr w1 : World} {v v' : Value} {e : List Int} {x : Int} {o : Obj} (h : OwI W0 wr v e) (hown : w1.ownsRow 0 3 1 v' (e.length + 1) (encI e ++ [.int .i64 x])) (hg : (wr.alloc o).grownBy w1 v.ownBlock) (hat : v'.ownBlock = v.ownBlock ∨ v'.ownBlock = some (wr.heap.size + 1)) : OwI W0 w1 v' (e ++ [x]) := by
  refine ⟨?_, fun g hg' => ?_, (h.touch.alloc o).grown hg (fun k e hk => by have := h.new k e; omega)⟩
  · rw [List.length_append, encI, List.map_append]
    exact hown
  · rcases hat with e | e
    · exact h.new g (by rw [← e]; exact hg')
    · rw [e] at hg'
      simp at hg'
      have := h.touch.size
      omega
theorem OwI.still {W0 wr w' : World} {v : Value} {e : List Int} (h : OwI W0 wr v e) (tc : Touch (fun _ => False) wr w') : OwI W0 w' v e := by
  refine ⟨⟨h.own.1, ?_⟩, h.new, h.touch.trans tc (fun _ _ e => e)⟩
  rcases h.own.2 with h0 | ⟨g, cap, cur, hv, hg, hh, rest⟩
  · exact .inl h0
  · exact .inr ⟨g, cap, cur, hv, hg, (tc.block g (lt_of_block hh) id).trans hh, rest⟩
theorem OwI.from {W W0 wr : World} {v : Value} {e : List Int} (h : OwI W0 wr v e) (t : Touch (fun _ => False) W W0) : OwI W wr v e :=
  ⟨h.own, fun g hg => Nat.le_trans t.size (h.new g hg), t.trans h.touch (fun _ _ e => e)⟩
theorem OwI.ig {W0 wr : World} {v : Value} {e : List Int} (h : OwI W0 wr v e) (h0 : e ≠ []) : ∃ a c, v = .slice a e.length c ∧ Ig wr a e := by
  rcases h.own.2 with ⟨rfl, k⟩ | ⟨g, cap, cur, rfl, hg, hh, rest⟩
  · exact absurd (List.eq_nil_of_length_eq_zero k) h0
  · refine ⟨_, cap, rfl, g, rfl, lt_of_block hh, fun i hi => ?_⟩
    have := h.own.cells (g := g) rfl i (.int .i64 e[i]) (by simp [encI, hi])
    rwa [add_g] at this
theorem OwI.one (w : World) (x : Int) : OwI w (w.alloc (.cells #[.int .i64 x] 3)) (.slice (some ⟨w.heap.size, 0, none⟩) 1 1) [x] := by
  refine ⟨?_, fun g hg => ?_, (Touch.refl _ w).alloc _⟩
  · exact ⟨rfl, .inr ⟨w.heap.size, 1, #[.int .i64 x], rfl, Nat.zero_le _, heap_alloc_new w _, Nat.le_refl _, by unfold maxLen; omega, rfl, rfl⟩⟩
  · simp [Value.ownBlock] at hg
    omega


theorem info3i : (Tryd.prog.info? 3).map (fun i => (i.zero, i.size, i.bytes)) = some (some (.int .i64 0), 1, 8) := by kernel_rfl
/-- Numbers that lie somewhere in a block. -/
def Io (w : World) (a : Option Addr) (l : List Int) : Prop := l = [] ∨ ∃ b o, a = some ⟨b, o, none⟩ ∧ ∀ i (h : i < l.length), w.cell? ⟨b, o + i, none⟩ = some (.int .i64 l[i])
theorem run_append_noneI (w : World) (ty : TypeId) (v : Value) (n : Nat) (xs : List Value) (hown : w.ownsRow 0 3 1 v n xs) (a : Option Addr) (c : Nat) :
    (Builtin.append_ #[51, 51] ty #[v, .slice a 0 c]).run Tryd.prog w = .ok v w := by
  obtain ⟨i0, hin, hz0, hz1, hz2⟩ := info_parts info3i
  have hld : ∀ ad, (loadCells ad 0).run Tryd.prog w = .ok #[] w := fun ad => rfl
  rcases hown.2 with ⟨rfl, rfl⟩ | ⟨g, cap, cur, rfl, hbg, hg, hnc, hcm, hcs, htake⟩ <;> cases a <;>
    simp [Builtin.append_, run_underlying Tryd.underlying51, sizeOf, typeInfo, Builtin.lenOf, Builtin.firstCells, storeCells, *]
theorem run_append_io (w : World) (ty : TypeId) (v : Value) (n : Nat) (xs : List Value) (hown : w.ownsRow 0 3 1 v n xs) (a : Option Addr) (c : Nat) (l : List Int) (hl : Io w a l) (hb : (n + l.length) * 8 ≤ 140737488355328) :
    ∃ v' w', (Builtin.append_ #[51, 51] ty #[v, .slice a l.length c]).run Tryd.prog w = .ok v' w' ∧ w'.ownsRow 0 3 1 v' (n + l.length) (xs ++ encI l) ∧ w.grownBy w' v.ownBlock ∧ (v'.ownBlock = v.ownBlock ∨ v'.ownBlock = some w.heap.size) := by
  obtain ⟨i0, hin, hz0, hz1, hz2⟩ := info_parts info3i
  rcases hl with rfl | ⟨b, o, rfl, hc⟩
  · refine ⟨v, w, run_append_noneI w ty v n xs hown a c, ?_, ⟨rfl, rfl, rfl, Nat.le_refl _, fun _ _ _ => rfl⟩, .inl rfl⟩
    rw [show encI [] = [] from rfl, List.append_nil]
    exact hown
  · obtain ⟨v', w', h1, h2, h3, _, h4⟩ := run_append_own_at (P := Tryd.prog) w 0 51 ty 3 i0 (.int .i64 0) 1 8 Tryd.underlying51 hin hz0 hz1 hz2 rfl (by decide) v n xs hown ⟨b, o, none⟩ l.length c (encI l) (by simp [encI]) (fun j u hj => by
        rw [add_o]
        unfold encI at hj
        rw [List.getElem?_map] at hj
        obtain ⟨z, hz, rfl⟩ := Option.map_eq_some_iff.1 hj
        obtain ⟨hlt, rfl⟩ := List.getElem?_eq_some_iff.1 hz
        exact hc j hlt) (by intro u hu; obtain ⟨z, _, rfl⟩ := List.mem_map.1 hu; rfl) (by unfold maxLen; omega) hb (Nat.zero_le _)
    exact ⟨v', w', h1, h2, h3, h4⟩
theorem wpList_append_io (w : World) {ops : Array Oper} {rest : List Oper} {o : Oper} {a : Act} {Q : Exit → Act → World → Prop} (hgd : o.guard = none) (s x : Operand)
    (ho : o.op = .call { callee := .builtin .append, args := #[s, x], argTypes := #[51, 51] })
    (v : Value) (n : Nat) (xs : List Value) (hs : a.eval s = v) (hown : w.ownsRow 0 3 1 v n xs) (ad : Option Addr) (c : Nat) (l : List Int) (m : Nat) (hm : m = l.length) (hx : a.eval x = .slice ad m c) (hl : Io w ad l) (hb : (n + l.length) * 8 ≤ 140737488355328)
    (h : ∀ v' w', w'.ownsRow 0 3 1 v' (n + l.length) (xs ++ encI l) → w.grownBy w' v.ownBlock → (v'.ownBlock = v.ownBlock ∨ v'.ownBlock = some w.heap.size) → wpList Tryd.prog ops Q rest (a.put o.dst v') w') : wpList Tryd.prog ops Q (o :: rest) a w := by
  subst hm
  refine wpList_plain hgd fun K hK => ?_
  obtain ⟨v', w', hr, h2, h3, h4⟩ := run_append_io w o.type v n xs hown ad c l hl hb
  unfold Oper.wp execOp
  simp only [ho, resolve, invoke, builtin, Sem.run_bind, Sem.run_pure, Result.andThen_ok, List.map_toArray, List.map_cons, List.map_nil, hs, hx, hr]
  exact hK _ _ (h v' w' h2 h3 h4)
theorem OwI.grow {W0 wr w1 : World} {v v' : Value} {e m : List Int} (h : OwI W0 wr v e) (hown : w1.ownsRow 0 3 1 v' (e.length + m.length) (encI e ++ encI m)) (hg : wr.grownBy w1 v.ownBlock) (hat : v'.ownBlock = v.ownBlock ∨ v'.ownBlock = some wr.heap.size) : OwI W0 w1 v' (e ++ m) := by
  refine ⟨?_, fun g hg' => ?_, h.touch.grown hg (fun k e hk => by have := h.new k e; omega)⟩
  · rw [List.length_append, encI, List.map_append]
    exact hown
  · rcases hat with e | e
    · exact h.new g (by rw [← e]; exact hg')
    · rw [e] at hg'
      simp at hg'
      have := h.touch.size
      omega
theorem OwI.nil (w : World) : OwI w w (.slice none 0 0) [] := ⟨by simpa [encI] using World.ownsRow_nil _ _ _ _, by intro g h; simp [Value.ownBlock] at h, Touch.refl _ _⟩


theorem OwI.in {W0 wr : World} {a : Option Addr} {len cap : Nat} {e : List Int} (h : OwI W0 wr (.slice a len cap) e) : ((e = [] ∧ a = none ∧ cap = 0) ∨ Ig wr a e) ∧ e.length ≤ cap ∧ len = e.length := by
  rcases h.own.2 with ⟨hv, h0⟩ | ⟨g, cap', cur, hv, hg, hh, hle, rest⟩
  · simp only [Value.slice.injEq] at hv
    obtain ⟨rfl, rfl, rfl⟩ := hv
    exact ⟨.inl ⟨List.eq_nil_of_length_eq_zero h0, rfl, rfl⟩, by omega, by omega⟩
  · simp only [Value.slice.injEq] at hv
    obtain ⟨rfl, rfl, rfl⟩ := hv
    refine ⟨.inr ⟨g, rfl, lt_of_block hh, fun i hi => ?_⟩, by omega, rfl⟩
    have := h.own.cells (g := g) rfl i (.int .i64 e[i]) (by simp [encI, hi])
    rwa [add_g] at this

theorem cells_of {w : World} {b i : Nat} {cs : Array Value} {t : TypeId} (h : w.heap[b]? = some (.cells cs t (0, 0))) : w.cell? ⟨b, i, none⟩ = cs[i]? := by simp [World.cell?, h]
theorem OwI.block {W0 wr : World} {v : Value} {e : List Int} (h : OwI W0 wr v e) (h0 : e ≠ []) : ∃ g cap cur, v = .slice (some ⟨g, 0, none⟩) e.length cap ∧ wr.heap[g]? = some (.cells cur 3 (0, 0)) ∧ ∀ i (hi : i < e.length), cur[i]? = some (.int .i64 e[i]) := by
  obtain ⟨a, c, hv, b, rfl, _, hc⟩ := h.ig h0
  rcases h.own.2 with ⟨rfl, k⟩ | ⟨g, cap, cur, hv2, hg, hh, rest⟩
  · exact absurd (List.eq_nil_of_length_eq_zero k) h0
  · rw [hv2] at hv
    simp only [Value.slice.injEq, Option.some.injEq, Addr.mk.injEq, and_true] at hv
    obtain ⟨rfl, _, rfl⟩ := hv
    exact ⟨g, cap, cur, hv2, hh, fun i hi => by rw [← cells_of hh]; exact hc i hi⟩

end Go.Proofs.YtjpmjcadnnglnaaDoor

/- Latin1's taker; no condition beside those told. -/
namespace Go.Proofs.YtjpmjcadnnglnaaDoor
open Go.RowKit

/-- The byte at a place. -/
def byN (s : ByteArray) (i : Nat) : Nat := if h : i < s.size then s[i].toNat else 0
theorem by_get (s : ByteArray) (i : Nat) (h : i < s.size) : s[i].toNat = byN s i := by
  unfold byN
  rw [dif_pos h]
theorem by_lt (s : ByteArray) (i : Nat) : byN s i < 256 := by
  unfold byN
  split
  · exact UInt8.toNat_lt _
  · omega

theorem wraps_i64 (n : Int) (h₀ : 0 ≤ n) (h₁ : n < 2 ^ 62) : IntKind.i64.wrap n = n := by rw [IntKind.wrap_i64]; omega
theorem i64_or_nat (a b : Nat) (ha : a < 2 ^ 62) (hb : b < 2 ^ 62) : bits .or .i64 (a : Int) (b : Int) = ((a ||| b : Nat) : Int) :=
  (bits_nat .i64 62 (by decide) wraps_i64 a b ha hb).2
theorem or_low (a b k : Nat) (ha : a < 2 ^ k) (hb : 2 ^ k * b + a < 2 ^ 62) : bits .or .i64 (a : Int) ((2 ^ k * b : Nat) : Int) = ((a + 2 ^ k * b : Nat) : Int) := by
  rw [i64_or_nat _ _ (by omega) (by omega), Nat.or_comm, ← Nat.two_pow_add_eq_or_of_lt ha, Nat.add_comm]
theorem or_high (a b k : Nat) (ha : a < 2 ^ k) (hb : 2 ^ k * b + a < 2 ^ 62) : bits .or .i64 ((2 ^ k * b : Nat) : Int) (a : Int) = ((2 ^ k * b + a : Nat) : Int) := by
  rw [i64_or_nat _ _ (by omega) (by omega), ← Nat.two_pow_add_eq_or_of_lt ha]
/-- Two bytes as one number. -/
theorem two_bytes (x y : Nat) (hx : x < 256) (hy : y < 256) : bits .or .i64 (wrap64 (x : Int)) (wrap64 (wrap64 (y : Int) * 256)) = ((x + 256 * y : Nat) : Int) := by
  have e1 : wrap64 (x : Int) = (x : Int) := IntWalk.wrap64_in _ (by omega)
  have e2 : wrap64 (y : Int) = (y : Int) := IntWalk.wrap64_in _ (by omega)
  rw [e1, e2, show (y : Int) * 256 = ((2 ^ 8 * y : Nat) : Int) by omega, IntWalk.wrap64_in _ (by omega), or_low x y 8 (by omega) (by omega)]

set_option maxRecDepth 100000 in
theorem take_latin (b i : Nat) (s : ByteArray) (w : World) (hd : w.cell? ⟨b, 0, none⟩ = some (.string s)) (hi : i < s.size) :
    Calls Tryd.prog 41 (#[.int .i64 i] ++ #[.pointer (some ⟨b, 0, none⟩)]) w fun e w' => e = .returned (.tuple #[.int .i64 (byN s i : Nat), .int .i64 1]) ∧ Touch (fun _ => False) w w' := by
  have hiI : (i : Int) < (s.size : Int) := by omega
  have HB := hid (by_get s i hi)
  go_enter Tryd.func41, Tryd.ntmps41
  go_wp2
  go_ret2
  exact ⟨by rw [HB.out, IntWalk.wrap64_in _ (by have := by_lt s i; omega)]; rfl, Touch.refl _ _⟩
set_option maxRecDepth 100000 in
theorem units_little (bd bl bh i : Nat) (s : ByteArray) (w : World) (hd : w.cell? ⟨bd, 0, none⟩ = some (.string s)) (hl : w.cell? ⟨bl, 0, none⟩ = some (.int .i64 0)) (hh : w.cell? ⟨bh, 0, none⟩ = some (.int .i64 1)) (hs : s.size ≤ 140737488351232) (hi2 : i ≤ 140737488351240) :
    Calls Tryd.prog 52 (#[.int .i64 i] ++ #[.pointer (some ⟨bd, 0, none⟩), .pointer (some ⟨bl, 0, none⟩), .pointer (some ⟨bh, 0, none⟩)]) w fun e w' => e = .returned (.int .i64 (if s.size < i + 2 then -1 else (byN s i + 256 * byN s (i + 1) : Nat))) ∧ Touch (fun _ => False) w w' := by
  by_cases h2 : s.size < i + 2
  · have hq : (s.size : Int) < (i : Int) + 2 := by omega
    rw [if_pos h2]
    go_enter Tryd.func52, Tryd.ntmps52
    go_wp2
    go_ret
    exact ⟨rfl, Touch.refl _ _⟩
  · have hq : ¬ ((s.size : Int) < (i : Int) + 2) := by omega
    rw [if_neg h2]
    have q1 : (i : Int) < (s.size : Int) := by omega
    obtain ⟨j, hj⟩ : ∃ j, j = i + 1 := ⟨_, rfl⟩
    have q2 : (j : Int) < (s.size : Int) := by omega
    have q3 : i < s.size := by omega
    have q4 : j < s.size := by omega
    rw [← hj]
    have z0 : IntKind.i64.wrap (i : Int) = (i : Int) := by rw [IntKind.wrap_i64]; omega
    have z1 : IntKind.i64.wrap ((i : Int) + 1) = (j : Int) := by rw [IntKind.wrap_i64]; omega
    have HB1 := hid (by_get s i q3)
    have HB2 := hid (by_get s j q4)
    have HV := hid (two_bytes (byN s i) (byN s j) (by_lt s i) (by_lt s j))
    clear hj h2
    go_enter Tryd.func52, Tryd.ntmps52
    go_wp2_with fail
    go_quiet (fail)
    go_wp2
    go_ret
    exact ⟨by rw [HB1.out, HB2.out, HV.out]; rfl, (Touch.refl _ w).drewN _⟩
set_option maxRecDepth 100000 in
theorem units_big (bd bl bh i : Nat) (s : ByteArray) (w : World) (hd : w.cell? ⟨bd, 0, none⟩ = some (.string s)) (hl : w.cell? ⟨bl, 0, none⟩ = some (.int .i64 1)) (hh : w.cell? ⟨bh, 0, none⟩ = some (.int .i64 0)) (hs : s.size ≤ 140737488351232) (hi2 : i ≤ 140737488351240) :
    Calls Tryd.prog 52 (#[.int .i64 i] ++ #[.pointer (some ⟨bd, 0, none⟩), .pointer (some ⟨bl, 0, none⟩), .pointer (some ⟨bh, 0, none⟩)]) w fun e w' => e = .returned (.int .i64 (if s.size < i + 2 then -1 else (byN s (i + 1) + 256 * byN s i : Nat))) ∧ Touch (fun _ => False) w w' := by
  by_cases h2 : s.size < i + 2
  · have hq : (s.size : Int) < (i : Int) + 2 := by omega
    rw [if_pos h2]
    go_enter Tryd.func52, Tryd.ntmps52
    go_wp2
    go_ret
    exact ⟨rfl, Touch.refl _ _⟩
  · have hq : ¬ ((s.size : Int) < (i : Int) + 2) := by omega
    rw [if_neg h2]
    have q1 : (i : Int) < (s.size : Int) := by omega
    obtain ⟨j, hj⟩ : ∃ j, j = i + 1 := ⟨_, rfl⟩
    have q2 : (j : Int) < (s.size : Int) := by omega
    have q3 : i < s.size := by omega
    have q4 : j < s.size := by omega
    rw [← hj]
    have z0 : IntKind.i64.wrap (i : Int) = (i : Int) := by rw [IntKind.wrap_i64]; omega
    have z1 : IntKind.i64.wrap ((i : Int) + 1) = (j : Int) := by rw [IntKind.wrap_i64]; omega
    have HB1 := hid (by_get s i q3)
    have HB2 := hid (by_get s j q4)
    have HV := hid (two_bytes (byN s j) (byN s i) (by_lt s j) (by_lt s i))
    clear hj h2
    go_enter Tryd.func52, Tryd.ntmps52
    go_wp2_with fail
    go_quiet (fail)
    go_wp2
    go_ret
    exact ⟨by rw [HB1.out, HB2.out, HV.out]; rfl, (Touch.refl _ w).drewN _⟩
end Go.Proofs.YtjpmjcadnnglnaaDoor

/- The table of first bytes, and the row that a first byte has; condition: the two tables lie there. -/
namespace Go.Proofs.YtjpmjcadnnglnaaDoor
open Go.RowKit

/-- A row: first, last, how many follow, the second's least and greatest. -/
structure Lead where
  first : Nat
  last : Nat
  more : Nat
  low : Nat
  high : Nat

def leadsL : List Lead := [⟨0, 127, 0, 0, 0⟩, ⟨194, 223, 1, 128, 191⟩, ⟨224, 224, 2, 160, 191⟩, ⟨225, 236, 2, 128, 191⟩, ⟨237, 237, 2, 128, 159⟩, ⟨238, 239, 2, 128, 191⟩, ⟨240, 240, 3, 144, 191⟩, ⟨241, 243, 3, 128, 191⟩, ⟨244, 244, 3, 128, 143⟩]
def leadV (l : Lead) : Array Value := #[.int .u8 l.first, .int .u8 l.last, .int .i64 l.more, .int .u8 l.low, .int .u8 l.high]
def leadsC : Array Value := #[.int .u8 0, .int .u8 127, .int .i64 0, .int .u8 0, .int .u8 0, .int .u8 194, .int .u8 223, .int .i64 1, .int .u8 128, .int .u8 191, .int .u8 224, .int .u8 224, .int .i64 2, .int .u8 160, .int .u8 191, .int .u8 225, .int .u8 236, .int .i64 2, .int .u8 128, .int .u8 191, .int .u8 237, .int .u8 237, .int .i64 2, .int .u8 128, .int .u8 159, .int .u8 238, .int .u8 239, .int .i64 2, .int .u8 128, .int .u8 191, .int .u8 240, .int .u8 240, .int .i64 3, .int .u8 144, .int .u8 191, .int .u8 241, .int .u8 243, .int .i64 3, .int .u8 128, .int .u8 191, .int .u8 244, .int .u8 244, .int .i64 3, .int .u8 128, .int .u8 143]
def marksC : Array Value := #[.string ⟨#[]⟩, .string ⟨#[239, 187, 191]⟩, .string ⟨#[255, 254]⟩, .string ⟨#[254, 255]⟩, .string ⟨#[]⟩]
/-- Both tables lie where they lie. -/
structure Tabs (w : World) : Prop where
  marks : ∃ t, w.heap[0]? = some (.cells marksC t (0, 0))
  leads : ∃ t, w.heap[1]? = some (.cells leadsC t (0, 0))
theorem Tabs.new {w w' : World} (h : Tabs w) (t : Touch (fun _ => False) w w') : Tabs w' := by
  obtain ⟨⟨t0, h0⟩, ⟨t1, h1⟩⟩ := h
  exact ⟨⟨t0, (t.block 0 (lt_of_block h0) id).trans h0⟩, ⟨t1, (t.block 1 (lt_of_block h1) id).trans h1⟩⟩
theorem info70 : (Tryd.prog.info? 103).map (fun i => (i.zero, i.size, i.bytes)) = some (some (.agg #[.int .u8 0, .int .u8 0, .int .i64 0, .int .u8 0, .int .u8 0]), 5, 24) := by kernel_rfl
theorem run_index73 (k : Nat) (l : Lead) (w : World) (hk : k < 9) (hx : leadsL[k]? = some l) : (Instr.index 109 (.agg leadsC) (.int .i64 (k : Int))).run Tryd.prog w = .ok (.agg (leadV l)) w := by
  obtain ⟨i0, h1, hz0, hz1, hz2⟩ := info_parts info70
  rcases (show k = 0 ∨ k = 1 ∨ k = 2 ∨ k = 3 ∨ k = 4 ∨ k = 5 ∨ k = 6 ∨ k = 7 ∨ k = 8 by omega) with rfl | rfl | rfl | rfl | rfl | rfl | rfl | rfl | rfl <;>
    (simp [leadsL] at hx
     subst hx
     simp [Instr.index, run_underlying Tryd.underlying109, asIntOf, go_sem, part, sizeOf, typeInfo, h1, hz1, leadsC, leadV])
def hasLead (b : Nat) (l : Lead) : Bool := decide (l.first ≤ b) && decide (b ≤ l.last)
def leadOf (b : Nat) : Option Lead := leadsL.find? (hasLead b)
theorem find_more {α : Type} (f : α → Bool) (l : List α) (k : Nat) (h : k < l.length) (h0 : (l.take k).find? f = none) : (l.take (k + 1)).find? f = if f l[k] = true then some l[k] else none := by
  rw [List.take_succ_eq_append_getElem h, List.find?_append, h0]
  simp [List.find?_cons]
  split <;> simp_all
theorem find_there {α : Type} (f : α → Bool) (l : List α) (k : Nat) (x : α) (h : (l.take k).find? f = some x) : l.find? f = some x := by
  rw [← List.take_append_drop k l, List.find?_append, h]
  rfl
theorem lead_small : ∀ l ∈ leadsL, l.first < 256 ∧ l.last < 256 ∧ l.more ≤ 3 ∧ l.low < 256 ∧ l.high < 256 := by decide
theorem results_ct {P : Program} {fn : Func} {p q : Tmp} {ty : TypeId} (h : fn.results = #[.cell p ty, .tmp q]) (tmps : Array Value) (w : World) (g : Nat) (et : TypeId) (cs : Array Value) (fr : Nat × Nat) (d : TypeDesc)
    (hp : tmps.getD p undef = .pointer (some ⟨g, 0, none⟩)) (hg : w.heap[g]? = some (.cells cs et fr))
    (hu : P.underlying ty = some d) (hd : (match d with | .struct _ | .array _ _ => true | _ => false) = true) (hi : (P.info? ty).map (·.size) = some cs.size) :
    (results fn tmps).run P w = .ok (.tuple #[.agg cs, tmps.getD q undef]) w := by
  have hp' : tmps[p]?.getD undef = .pointer (some ⟨g, 0, none⟩) := by simpa using hp
  simp [results, h, hp', asAddr, run_loadVar_row w g et ty cs fr d hg hu hd hi]
theorem block_new (w : World) (cs : Array Value) (t : TypeId) : (w.alloc (.cells cs t)).heap[w.heap.size]? = some (.cells cs t (0, 0)) := by
  show (w.heap.push _)[_]? = _
  simp

/-- What leadOf answers. -/
def leadR (b : Nat) : Value := .tuple (match leadOf b with | some l => #[.agg (leadV l), .bool true] | none => #[.agg #[.int .u8 0, .int .u8 0, .int .i64 0, .int .u8 0, .int .u8 0], .bool false])
theorem leadR_some {b : Nat} {l : Lead} (h : leadOf b = some l) : leadR b = .tuple #[.agg (leadV l), .bool true] := by unfold leadR; rw [h]
theorem leadR_none {b : Nat} (h : leadOf b = none) : leadR b = .tuple #[.agg #[.int .u8 0, .int .u8 0, .int .i64 0, .int .u8 0, .int .u8 0], .bool false] := by unfold leadR; rw [h]
/-- Five cells set one behind the other. -/
theorem five_set {w : World} {g : Nat} {t : TypeId} {a0 a1 a2 a3 a4 : Value} (h : w.heap[g]? = some (.cells #[a0, a1, a2, a3, a4] t (0, 0))) (b0 b1 b2 b3 b4 : Value) :
    (((((w.setCell ⟨g, 0, none⟩ b0).setCell ⟨g, 1, none⟩ b1).setCell ⟨g, 2, none⟩ b2).setCell ⟨g, 3, none⟩ b3).setCell ⟨g, 4, none⟩ b4).heap[g]? = some (.cells #[b0, b1, b2, b3, b4] t (0, 0)) :=
  block_set (block_set (block_set (block_set (block_set h 0 b0) 1 b1) 2 b2) 3 b3) 4 b4
theorem five_touch {w0 w : World} {g : Nat} (h : Touch (fun _ => False) w0 w) (hg : w0.heap.size ≤ g) (b0 b1 b2 b3 b4 : Value) :
    Touch (fun _ => False) w0 (((((w.setCell ⟨g, 0, none⟩ b0).setCell ⟨g, 1, none⟩ b1).setCell ⟨g, 2, none⟩ b2).setCell ⟨g, 3, none⟩ b3).setCell ⟨g, 4, none⟩ b4) :=
  ((((h.setCell (p := ⟨g, 0, none⟩) (fun k => absurd k (Nat.not_lt.2 hg)) b0).setCell (p := ⟨g, 1, none⟩) (fun k => absurd k (Nat.not_lt.2 hg)) b1).setCell (p := ⟨g, 2, none⟩) (fun k => absurd k (Nat.not_lt.2 hg)) b2).setCell (p := ⟨g, 3, none⟩) (fun k => absurd k (Nat.not_lt.2 hg)) b3).setCell (p := ⟨g, 4, none⟩) (fun k => absurd k (Nat.not_lt.2 hg)) b4

set_option maxRecDepth 100000 in
set_option maxHeartbeats 4000000 in
theorem leadOf_any (b : Nat) (w : World) (ht : Tabs w) :
    Calls Tryd.prog 54 #[.int .u8 b] w fun e w' => e = .returned (leadR b) ∧ Touch (fun _ => False) w w' := by
  have HT := hid ht
  obtain ⟨_, ⟨t1, h1⟩⟩ := ht
  have B0 := hid (block_new w #[.int .u8 0, .int .u8 0, .int .i64 0, .int .u8 0, .int .u8 0] 103)
  have TA := hid ((Touch.refl (fun _ => False) w).alloc (.cells #[.int .u8 0, .int .u8 0, .int .i64 0, .int .u8 0, .int .u8 0] 103))
  have h1' : (w.alloc (.cells #[.int .u8 0, .int .u8 0, .int .i64 0, .int .u8 0, .int .u8 0] 103)).heap[1]? = some (.cells leadsC t1 (0, 0)) := (TA.out.block 1 (lt_of_block h1) id).trans h1
  go_enter Tryd.func54, Tryd.ntmps54
  go_wp2_with (first | refine wpList_load_row rfl 109 _ rfl 1 rfl t1 leadsC (0, 0) _ h1' Tryd.underlying109 rfl (by kernel_rfl) ?_ | fail)
  generalize (w.alloc (.cells #[.int .u8 0, .int .u8 0, .int .i64 0, .int .u8 0, .int .u8 0] 103)) = w1 at *
  obtain ⟨g, hg⟩ : ∃ g, g = w.heap.size := ⟨_, rfl⟩
  rw [← hg] at B0 ⊢
  have HGW := hid (show w.heap.size ≤ g by omega)
  clear hg h1 h1'
  go_loopg [7] 9 (fun gk i wq => ∃ k : Nat, k + gk = 9 ∧ i = .int .i64 (k : Nat) ∧ (leadsL.take k).find? (hasLead b) = none ∧ Touch (fun _ => False) w1 wq)
  case atStart => exact ⟨0, rfl, rfl, rfl, Touch.refl _ _⟩
  case round =>
    obtain ⟨k, hk, rfl, hno, htc⟩ := hrel
    have TC := hid htc
    have HNO := hid hno
    clear hno htc
    by_cases hlt : k < 9
    · obtain ⟨l, hl⟩ : ∃ l, leadsL[k]? = some l := ⟨leadsL[k]'(by simpa [leadsL] using hlt), List.getElem?_eq_getElem _⟩
      have hix := run_index73 k l wr hlt hl
      have hgk : leadsL[k]'(by simpa [leadsL] using hlt) = l := by
        rw [List.getElem?_eq_getElem (by simpa [leadsL] using hlt)] at hl
        exact Option.some.inj hl
      have HF := hid (find_more (hasLead b) leadsL k (by simpa [leadsL] using hlt) HNO.out)
      rw [hgk] at HF
      have hsm := lead_small l (by rw [← hgk]; exact List.getElem_mem _)
      have hkI : (k : Int) < 9 := by omega
      clear hl hgk
      obtain ⟨x, y, m, lo, hi⟩ := l
      unfold leadV at hix
      dsimp only at hix hsm HF
      have B5 := hid (block_new wr #[.int .u8 x, .int .u8 y, .int .i64 m, .int .u8 lo, .int .u8 hi] 103)
      have T5 := hid (TC.out.alloc (.cells #[.int .u8 x, .int .u8 y, .int .i64 m, .int .u8 lo, .int .u8 hi] 103))
      go_upto_region 4 with fail
      generalize (wr.alloc (.cells #[.int .u8 x, .int .u8 y, .int .i64 m, .int .u8 lo, .int .u8 hi] 103)) = wA at *
      have c0 : wA.cell? ⟨wr.heap.size, 0, none⟩ = some (.int .u8 x) := by simp [World.cell?, B5.out]
      have c1 : wA.cell? ⟨wr.heap.size, 1, none⟩ = some (.int .u8 y) := by simp [World.cell?, B5.out]
      have c2 : wA.cell? ⟨wr.heap.size, 2, none⟩ = some (.int .i64 m) := by simp [World.cell?, B5.out]
      have c3 : wA.cell? ⟨wr.heap.size, 3, none⟩ = some (.int .u8 lo) := by simp [World.cell?, B5.out]
      have c4 : wA.cell? ⟨wr.heap.size, 4, none⟩ = some (.int .u8 hi) := by simp [World.cell?, B5.out]
      have G0 := hid ((T5.out.block g (lt_of_block B0.out) id).trans B0.out)
      have f0 : wA.frozen? ⟨g, 0, none⟩ = false := by simp [World.frozen?, G0.out]
      have f1 : wA.frozen? ⟨g, 1, none⟩ = false := by simp [World.frozen?, G0.out]
      have f2 : wA.frozen? ⟨g, 2, none⟩ = false := by simp [World.frozen?, G0.out]
      have f3 : wA.frozen? ⟨g, 3, none⟩ = false := by simp [World.frozen?, G0.out]
      have f4 : wA.frozen? ⟨g, 4, none⟩ = false := by simp [World.frozen?, G0.out]
      have g0 : wA.cell? ⟨g, 0, none⟩ = some (.int .u8 0) := by simp [World.cell?, G0.out]
      have g1 : wA.cell? ⟨g, 1, none⟩ = some (.int .u8 0) := by simp [World.cell?, G0.out]
      have g2 : wA.cell? ⟨g, 2, none⟩ = some (.int .i64 0) := by simp [World.cell?, G0.out]
      have g3 : wA.cell? ⟨g, 3, none⟩ = some (.int .u8 0) := by simp [World.cell?, G0.out]
      have g4 : wA.cell? ⟨g, 4, none⟩ = some (.int .u8 0) := by simp [World.cell?, G0.out]
      clear hix
      by_cases hx : x ≤ b
      · have hxI : (x : Int) ≤ (b : Int) := by omega
        by_cases hy : b ≤ y
        · have hyI : (b : Int) ≤ (y : Int) := by omega
          have HL := hid (show leadOf b = some ⟨x, y, m, lo, hi⟩ from find_there _ _ (k + 1) _ (by rw [HF.out, if_pos (by simp [hasLead, hx, hy])]))
          have TE := hid (TA.out.trans T5.out (fun _ _ e => e))
          go_wp2
          refine bodyPost_ret (results_ct rfl _ _ g 103 _ (0, 0) _ rfl (five_set G0.out _ _ _ _ _) Tryd.underlying103 rfl (by kernel_rfl)) rfl ?_
          exact ⟨by rw [leadR_some HL.out]; rfl, five_touch TE.out HGW.out _ _ _ _ _⟩
        · have HNX := hid (show (leadsL.take (k + 1)).find? (hasLead b) = none by rw [HF.out, if_neg (by simp [hasLead, hy])])
          have hyd : decide ((b : Int) ≤ (y : Int)) = false := decide_eq_false (by omega)
          go_wp2
          go_roundg (gk - 1)
          case measure => omega
          case rel => exact ⟨k + 1, by omega, by go_num, HNX.out, T5.out⟩
      · have HNX := hid (show (leadsL.take (k + 1)).find? (hasLead b) = none by rw [HF.out, if_neg (by simp [hasLead, hx])])
        have hxd : decide ((x : Int) ≤ (b : Int)) = false := decide_eq_false (by omega)
        go_wp2
        go_roundg (gk - 1)
        case measure => omega
        case rel => exact ⟨k + 1, by omega, by go_num, HNX.out, T5.out⟩
    · obtain rfl : k = 9 := by omega
      have HL := hid (show leadOf b = none from HNO.out)
      have G0 := hid ((TC.out.block g (lt_of_block B0.out) id).trans B0.out)
      have f0 : wr.frozen? ⟨g, 0, none⟩ = false := by simp [World.frozen?, G0.out]
      have f1 : wr.frozen? ⟨g, 1, none⟩ = false := by simp [World.frozen?, G0.out]
      have f2 : wr.frozen? ⟨g, 2, none⟩ = false := by simp [World.frozen?, G0.out]
      have f3 : wr.frozen? ⟨g, 3, none⟩ = false := by simp [World.frozen?, G0.out]
      have f4 : wr.frozen? ⟨g, 4, none⟩ = false := by simp [World.frozen?, G0.out]
      have g0 : wr.cell? ⟨g, 0, none⟩ = some (.int .u8 0) := by simp [World.cell?, G0.out]
      have g1 : wr.cell? ⟨g, 1, none⟩ = some (.int .u8 0) := by simp [World.cell?, G0.out]
      have g2 : wr.cell? ⟨g, 2, none⟩ = some (.int .i64 0) := by simp [World.cell?, G0.out]
      have g3 : wr.cell? ⟨g, 3, none⟩ = some (.int .u8 0) := by simp [World.cell?, G0.out]
      have g4 : wr.cell? ⟨g, 4, none⟩ = some (.int .u8 0) := by simp [World.cell?, G0.out]
      have TE := hid (TA.out.trans TC.out (fun _ _ e => e))
      go_wp2
      refine bodyPost_ret (results_ct rfl _ _ g 103 _ (0, 0) _ rfl (five_set G0.out _ _ _ _ _) Tryd.underlying103 rfl (by kernel_rfl)) rfl ?_
      exact ⟨by rw [leadR_none HL.out]; rfl, five_touch TE.out HGW.out _ _ _ _ _⟩
end Go.Proofs.YtjpmjcadnnglnaaDoor
