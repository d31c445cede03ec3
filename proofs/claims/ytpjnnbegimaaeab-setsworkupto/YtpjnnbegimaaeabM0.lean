/- Texts of this proof, one behind the other: what each says stands ahead of it. -/
import Derived.WalkKit
import Derived.OneCell
import Derived.Deep.QuietTactic
import Derived.Deep.LoopGhost
import Derived.Deep.DeepCutAuto
import Derived.BigQuiet
import Derived.Deep.AppendLies
import Derived.Maps.AppendAt
import Derived.Test.YtpjnnbegimaaeabChecked
import Derived.BigRegion
import Derived.Deep.RegionWith
/- What a call leaves alone, and blocks of two cells; no condition. -/
namespace Go.Proofs.Ytpjnnbegimaaeab
open Go.RowKit

theorem hid {p : Prop} (h : p) : Hid p := h

/-- Of the blocks that were there, those outside S are as they were. -/
structure Touch (S : Nat → Prop) (w w' : World) : Prop where
  os : w'.os = w.os
  tape : w'.tape = w.tape
  output : w'.output = w.output
  size : w.heap.size ≤ w'.heap.size
  block : ∀ k, k < w.heap.size → ¬ S k → w'.heap[k]? = w.heap[k]?

theorem Touch.refl (S : Nat → Prop) (w : World) : Touch S w w := ⟨rfl, rfl, rfl, Nat.le_refl _, fun _ _ _ => rfl⟩

theorem Touch.trans {S S' : Nat → Prop} {a b c : World} (h : Touch S a b) (k : Touch S' b c) (hs : ∀ i, i < a.heap.size → S' i → S i) : Touch S a c :=
  ⟨k.os.trans h.os, k.tape.trans h.tape, k.output.trans h.output, Nat.le_trans h.size k.size,
    fun i hi hn => (k.block i (Nat.lt_of_lt_of_le hi h.size) (fun e => hn (hs i hi e))).trans (h.block i hi hn)⟩

theorem Touch.mono {S S' : Nat → Prop} {a b : World} (h : Touch S a b) (hs : ∀ i, i < a.heap.size → S i → S' i) : Touch S' a b :=
  ⟨h.os, h.tape, h.output, h.size, fun i hi hn => h.block i hi (fun e => hn (hs i hi e))⟩

theorem Touch.below {S : Nat → Prop} {a b : World} (h : Touch S a b) (B : Nat) (hB : B ≤ a.heap.size) (hs : ∀ i, S i → B ≤ i) : Below B a b :=
  ⟨h.os, h.tape, h.output, h.size, fun i hi => h.block i (by omega) (fun e => by have := hs i e; omega)⟩

theorem Touch.drew {S : Nat → Prop} {a w : World} (h : Touch S a w) : Touch S a w.drew := ⟨h.os, h.tape, h.output, h.size, h.block⟩

theorem Touch.drewN {S : Nat → Prop} {a w : World} (h : Touch S a w) (n : Nat) : Touch S a (w.drewN n) := ⟨h.os, h.tape, h.output, h.size, h.block⟩

theorem Touch.alloc {S : Nat → Prop} {a w : World} (h : Touch S a w) (o : Obj) : Touch S a (w.alloc o) :=
  h.trans (S' := fun _ => False) ⟨rfl, rfl, rfl, by simp, fun k hk _ => Below.heap_alloc _ _ _ hk⟩ (fun _ _ e => e.elim)

theorem Touch.setCell {S : Nat → Prop} {a w : World} (h : Touch S a w) {p : Addr} (hp : p.block < a.heap.size → S p.block) (u : Value) : Touch S a (w.setCell p u) :=
  h.trans (S' := fun k => k = p.block) ⟨rfl, rfl, rfl, by simp [World.setCell], fun k _ hk => Below.heap_setCell _ _ _ _ hk⟩ (fun i hi e => by subst e; exact hp hi)

theorem Touch.grown {S : Nat → Prop} {a w w' : World} {row : Option Nat} (h : Touch S a w) (hg : w.grownBy w' row) (hr : ∀ k, row = some k → k < a.heap.size → S k) : Touch S a w' :=
  h.trans (S' := fun k => row = some k) ⟨hg.os, hg.tape, hg.output, hg.size, fun k hk hn => hg.block k hk (fun e => hn e.symm)⟩ (fun i hi e => hr i e hi)

theorem Touch.cell {S : Nat → Prop} {w w' : World} (h : Touch S w w') {p : Addr} (hp : p.block < w.heap.size) (hn : ¬ S p.block) : w'.cell? p = w.cell? p := World.cell?_of_block (w := w) (h.block p.block hp hn)

theorem touch_of_below {B : Nat} {w w' : World} (h : Below B w w') : Touch (fun k => B ≤ k) w w' :=
  ⟨h.os, h.tape, h.output, h.size, fun k _ hn => h.block k (by omega)⟩

/-! ### A block of two cells -/
theorem cell_two0 {w : World} {b : Nat} {v u : Value} {t : TypeId} (h : w.heap[b]? = some (.cells #[v, u] t (0, 0))) : w.cell? ⟨b, 0, none⟩ = some v := by simp [World.cell?, h]
theorem cell_two1 {w : World} {b : Nat} {v u : Value} {t : TypeId} (h : w.heap[b]? = some (.cells #[v, u] t (0, 0))) : w.cell? ⟨b, 1, none⟩ = some u := by simp [World.cell?, h]
theorem free_two {w : World} {b i : Nat} {v u : Value} {t : TypeId} (h : w.heap[b]? = some (.cells #[v, u] t (0, 0))) : w.frozen? ⟨b, i, none⟩ = false := by simp [World.frozen?, h]
theorem two_set0 {w : World} {b : Nat} {v u x : Value} {t : TypeId} (h : w.heap[b]? = some (.cells #[v, u] t (0, 0))) : (w.setCell ⟨b, 0, none⟩ x).heap[b]? = some (.cells #[x, u] t (0, 0)) := by
  have hlt := lt_of_block h
  have h' : w.heap[b] = .cells #[v, u] t (0, 0) := by simpa [Array.getElem?_eq_getElem hlt] using h
  show (w.heap.modify b _)[b]? = _
  rw [Array.getElem?_eq_getElem (by simpa using hlt), Array.getElem_modify_self, h']
  rfl
theorem two_set1 {w : World} {b : Nat} {v u x : Value} {t : TypeId} (h : w.heap[b]? = some (.cells #[v, u] t (0, 0))) : (w.setCell ⟨b, 1, none⟩ x).heap[b]? = some (.cells #[v, x] t (0, 0)) := by
  have hlt := lt_of_block h
  have h' : w.heap[b] = .cells #[v, u] t (0, 0) := by simpa [Array.getElem?_eq_getElem hlt] using h
  show (w.heap.modify b _)[b]? = _
  rw [Array.getElem?_eq_getElem (by simpa using hlt), Array.getElem_modify_self, h']
  rfl

theorem block_set {w : World} {b : Nat} {cs : Array Value} {t : TypeId} (h : w.heap[b]? = some (.cells cs t (0, 0))) (i : Nat) (x : Value) : (w.setCell ⟨b, i, none⟩ x).heap[b]? = some (.cells (cs.set! i x) t (0, 0)) := by
  have hlt := lt_of_block h
  have h' : w.heap[b] = .cells cs t (0, 0) := by simpa [Array.getElem?_eq_getElem hlt] using h
  show (w.heap.modify b _)[b]? = _
  rw [Array.getElem?_eq_getElem (by simpa using hlt), Array.getElem_modify_self, h']
  rfl

theorem own_shape {w : World} {base n : Nat} {e : TypeId} {sz : Nat} {v : Value} {xs : List Value} (h : w.ownsRow base e sz v n xs) : ∃ a cap, v = .slice a n cap := by
  rcases h.2 with ⟨rfl, rfl⟩ | ⟨g, cap, cur, rfl, _⟩
  · exact ⟨none, 0, rfl⟩
  · exact ⟨_, cap, rfl⟩

theorem results_c {P : Program} {fn : Func} {p : Tmp} {ty : TypeId} (h : fn.results = #[.cell p ty]) (tmps : Array Value) (w : World) (g : Nat) (et : TypeId) (cs : Array Value) (fr : Nat × Nat) (d : TypeDesc)
    (hp : tmps.getD p undef = .pointer (some ⟨g, 0, none⟩)) (hg : w.heap[g]? = some (.cells cs et fr))
    (hu : P.underlying ty = some d) (hd : (match d with | .struct _ | .array _ _ => true | _ => false) = true) (hi : (P.info? ty).map (·.size) = some cs.size) :
    (results fn tmps).run P w = .ok (.agg cs) w := by
  have hp' : tmps[p]?.getD undef = .pointer (some ⟨g, 0, none⟩) := by simpa using hp
  simp [results, h, hp', asAddr, run_loadVar_row w g et ty cs fr d hg hu hd hi]
end Go.Proofs.Ytpjnnbegimaaeab

/- common of two ranges; no condition. -/
namespace Go.Proofs.Ytpjnnbegimaaeab
open Go.RowKit

theorem info33 : (Try.prog.info? 33).map (fun i => (i.zero, i.size, i.bytes)) = some (some (.agg #[.int .i64 0, .int .i64 0]), 2, 16) := by kernel_rfl

theorem ret_two {a b c d : Int} (h : a = c) (k : b = d) : Ending.returned (.agg #[.int .i64 a, .int .i64 b]) = .returned (.agg #[.int .i64 c, .int .i64 d]) := by rw [h, k]
theorem third_new (w : World) (o1 o2 o3 : Obj) : (((w.alloc o1).alloc o2).alloc o3).heap[w.heap.size + 1 + 1]? = some o3 := by
  show (((w.heap.push _).push _).push _)[_]? = _
  rw [Array.getElem?_push]
  simp
theorem three_new {w : World} (x y : Value) (t : TypeId) : (w.alloc (.cells #[x, y] t)).heap[w.heap.size]? = some (.cells #[x, y] t (0, 0)) := by
  show (w.heap.push _)[_]? = _
  simp

set_option maxRecDepth 100000 in
theorem common_any (a b c d : Int) (w : World) : Calls Try.prog 22 #[.agg #[.int .i64 a, .int .i64 b], .agg #[.int .i64 c, .int .i64 d]] w fun e w' => e = .returned (.agg #[.int .i64 (max a c), .int .i64 (min b d)]) ∧ Touch (fun _ => False) w w' := by
  go_enter Try.func22, Try.ntmps22
  go_wp2
  all_goals
    refine bodyPost_ret (results_c rfl _ _ (w.heap.size + 1 + 1) 33 _ (0, 0) _ rfl (third_new w _ _ _) Try.underlying33 rfl (by kernel_rfl)) rfl ⟨?_, (((Touch.refl _ w).alloc _).alloc _).alloc _⟩
    exact ret_two (by omega) (by omega)
end Go.Proofs.Ytpjnnbegimaaeab

/- Rows of ranges in memory; no condition. -/
namespace Go.Proofs.Ytpjnnbegimaaeab
open Go.RowKit

abbrev R2 := Int × Int
def encR (x : R2) : List Value := [.int .i64 x.1, .int .i64 x.2]
def flatR (l : List R2) : List Value := l.flatMap encR
theorem flatR_append (l m : List R2) : flatR (l ++ m) = flatR l ++ flatR m := by simp [flatR]
theorem length_flatR (l : List R2) : (flatR l).length = l.length * 2 := by
  induction l with
  | nil => rfl
  | cons x r ih => simp only [flatR, List.flatMap_cons, List.length_append, List.length_cons] at ih ⊢; rw [ih]; simp [encR]; omega
theorem flatR_get0 : ∀ (l : List R2) (i : Nat) (h : i < l.length), (flatR l)[2 * i]? = some (.int .i64 (l[i]).1)
  | x :: r, 0, _ => rfl
  | x :: r, i + 1, h => by
    have := flatR_get0 r i (by simpa using h)
    show (encR x ++ flatR r)[2 * (i + 1)]? = _
    rw [List.getElem?_append_right (by simp [encR]; omega)]
    simpa [encR, show 2 * (i + 1) - 2 = 2 * i by omega] using this
theorem flatR_get1 : ∀ (l : List R2) (i : Nat) (h : i < l.length), (flatR l)[2 * i + 1]? = some (.int .i64 (l[i]).2)
  | x :: r, 0, _ => rfl
  | x :: r, i + 1, h => by
    have := flatR_get1 r i (by simpa using h)
    show (encR x ++ flatR r)[2 * (i + 1) + 1]? = _
    rw [List.getElem?_append_right (by simp [encR]; omega)]
    simpa [encR, show 2 * (i + 1) + 1 - 2 = 2 * i + 1 by omega] using this
theorem flatR_one (l : List R2) : ∀ u ∈ flatR l, u.oneCell' = true := by
  intro u hu
  simp only [flatR, List.mem_flatMap, encR] at hu
  obtain ⟨x, _, hx⟩ := hu
  simp at hx
  rcases hx with rfl | rfl <;> rfl

theorem add_g (g j : Nat) : (⟨g, 0, none⟩ : Addr).add j = ⟨g, j, none⟩ := by
  unfold Addr.add
  split
  · rename_i h; rw [h]
  · rw [Nat.zero_add]

/-- A list of ranges in memory, as a walk is told of it. -/
def Rg (w : World) (a : Option Addr) (l : List R2) : Prop :=
  l = [] ∨ ∃ b o, a = some ⟨b, o, none⟩ ∧ b < w.heap.size ∧ ∀ i (h : i < l.length), w.cell? ⟨b, o + i * 2, none⟩ = some (.int .i64 (l[i]).1) ∧ w.cell? ⟨b, o + i * 2 + 1, none⟩ = some (.int .i64 (l[i]).2)

theorem Rg.kept {w w' : World} {S : Nat → Prop} {a : Option Addr} {l : List R2} (h : Rg w a l) (t : Touch S w w') (hs : ∀ b o, a = some ⟨b, o, none⟩ → b < w.heap.size → ¬ S b) : Rg w' a l := by
  rcases h with h | ⟨b, o, rfl, hb, hc⟩
  · exact .inl h
  · refine .inr ⟨b, o, rfl, Nat.lt_of_lt_of_le hb t.size, fun i hi => ?_⟩
    rw [t.cell (p := ⟨b, o + i * 2, none⟩) hb (hs b o rfl hb), t.cell (p := ⟨b, o + i * 2 + 1, none⟩) hb (hs b o rfl hb)]
    exact hc i hi
theorem Rg.new {w w' : World} {a : Option Addr} {l : List R2} (h : Rg w a l) (t : Touch (fun _ => False) w w') : Rg w' a l := h.kept t (fun _ _ _ _ e => e)
theorem own_rg {w : World} {base e : Nat} {v : Value} {l : List R2} (h : w.ownsRow base e 2 v l.length (flatR l)) : ∃ a c, v = .slice a l.length c ∧ Rg w a l := by
  rcases h.2 with ⟨rfl, h0⟩ | ⟨g, cap, cur, rfl, hg, hh, rest⟩
  · exact ⟨none, 0, by rw [h0], .inl (List.eq_nil_of_length_eq_zero h0)⟩
  · refine ⟨_, cap, rfl, .inr ⟨g, 0, rfl, lt_of_block hh, fun i hi => ?_⟩⟩
    have h1 := h.cells (g := g) rfl (2 * i) _ (flatR_get0 l i hi)
    have h2 := h.cells (g := g) rfl (2 * i + 1) _ (flatR_get1 l i hi)
    rw [add_g] at h1 h2
    rw [show 0 + i * 2 = 2 * i by omega]
    exact ⟨h1, h2⟩
end Go.Proofs.Ytpjnnbegimaaeab

/- joined: ranges that rise by From, joined; conditions: the ranges are within bounds, and fit into memory. -/
namespace Go.Proofs.Ytpjnnbegimaaeab
open Go.RowKit

theorem own_set {w : World} {base g n cap sz : Nat} {e : TypeId} {xs : List Value} (h : w.ownsRow base e sz (.slice (some ⟨g, 0, none⟩) n cap) n xs) (i : Nat) (x : Value) :
    (w.setCell ⟨g, i, none⟩ x).ownsRow base e sz (.slice (some ⟨g, 0, none⟩) n cap) n (xs.set i x) := by
  obtain ⟨h1, h2⟩ := h
  rcases h2 with ⟨h2, _⟩ | ⟨g', cap', cur, hv, hg, hh, hle, hm, hcs, htk⟩
  · simp at h2
  · simp at hv
    obtain ⟨rfl, rfl⟩ := hv
    refine ⟨by simpa using h1, .inr ⟨g, cap, cur.set! i x, rfl, hg, ?_, hle, hm, by simpa using hcs, ?_⟩⟩
    · have hlt := lt_of_block hh
      have h' : w.heap[g] = .cells cur e (0, 0) := by simpa [Array.getElem?_eq_getElem hlt] using hh
      show (w.heap.modify g _)[g]? = _
      rw [Array.getElem?_eq_getElem (by simpa using hlt), Array.getElem_modify_self, h']
      rfl
    · rw [← htk]
      simp [List.take_set]

/-- One range more behind those that are joined. -/
def jstep (s : List R2) (r : R2) : List R2 :=
  match s.getLast? with
  | none => [r]
  | some t => if r.1 ≤ t.2 + 1 then s.dropLast ++ [(t.1, max t.2 r.2)] else s ++ [r]
def joinedL (l : List R2) : List R2 := l.foldl jstep []
def inB (x : R2) : Prop := 0 ≤ x.1 ∧ x.1 ≤ x.2 ∧ x.2 ≤ 1114111

theorem jstep_len (s : List R2) (r : R2) : (jstep s r).length ≤ s.length + 1 := by
  unfold jstep
  split
  · simp
  · split
    · rw [List.length_append, List.length_dropLast]; simp
    · simp
theorem foldl_take_succ (l : List R2) (k : Nat) (h : k < l.length) : joinedL (l.take (k + 1)) = jstep (joinedL (l.take k)) l[k] := by
  unfold joinedL
  rw [List.take_succ_eq_append_getElem h, List.foldl_append]
  rfl
theorem joined_len (l : List R2) : ∀ k, k ≤ l.length → (joinedL (l.take k)).length ≤ k
  | 0, _ => by simp [joinedL]
  | k + 1, h => by
    rw [foldl_take_succ l k (by omega)]
    have := jstep_len (joinedL (l.take k)) (l[k]'(by omega))
    have := joined_len l k (by omega)
    omega
theorem jstep_in {s : List R2} {r : R2} (hs : ∀ x ∈ s, inB x) (hr : inB r) : ∀ x ∈ jstep s r, inB x := by
  intro x hx
  unfold jstep at hx
  split at hx
  · simp only [List.mem_singleton] at hx
    rw [hx]
    exact hr
  · rename_i t ht
    have hti := hs t (List.mem_of_getLast? ht)
    split at hx
    · rcases List.mem_append.1 hx with h | h
      · exact hs x (List.dropLast_subset _ h)
      · simp only [List.mem_singleton] at h
        rw [h]
        unfold inB at *
        dsimp only
        omega
    · rcases List.mem_append.1 hx with h | h
      · exact hs x h
      · simp only [List.mem_singleton] at h
        rw [h]
        exact hr
theorem joined_in (l : List R2) (hl : ∀ x ∈ l, inB x) : ∀ k, k ≤ l.length → ∀ x ∈ joinedL (l.take k), inB x
  | 0, _ => by simp [joinedL]
  | k + 1, h => by
    rw [foldl_take_succ l k (by omega)]
    exact jstep_in (joined_in l hl k (by omega)) (hl _ (List.getElem_mem _))

/-- Ranges in a list of the call's own. -/
structure Ow (W0 wr : World) (ty : TypeId) (v : Value) (s : List R2) : Prop where
  own : wr.ownsRow 0 33 2 v s.length (flatR s)
  new : ∀ g, v.ownBlock = some g → W0.heap.size ≤ g
  touch : Touch (fun _ => False) W0 wr

theorem Ow.more {W0 wr w1 : World} {ty : TypeId} {v v' : Value} {s : List R2} {x : R2} {o : Obj} (h : Ow W0 wr ty v s) (hown : w1.ownsRow 0 33 2 v' (s.length + 1) (flatR s ++ encR x)) (hg : (wr.alloc o).grownBy w1 v.ownBlock) (hat : v'.ownBlock = v.ownBlock ∨ v'.ownBlock = some (wr.heap.size + 1)) : Ow W0 w1 ty v' (s ++ [x]) := by
  refine ⟨?_, fun g hg' => ?_, (h.touch.alloc o).grown hg (fun k e hk => by have := h.new k e; omega)⟩
  · rw [List.length_append, flatR_append]
    simpa [flatR] using hown
  · rcases hat with e | e
    · exact h.new g (by rw [← e]; exact hg')
    · rw [e] at hg'
      simp at hg'
      have := h.touch.size
      omega
theorem Ow.alloc {W0 wr : World} {ty : TypeId} {v : Value} {s : List R2} (h : Ow W0 wr ty v s) (o : Obj) : Ow W0 (wr.alloc o) ty v s := ⟨h.own.alloc _, h.new, h.touch.alloc _⟩

theorem Ow.still {W0 wr w' : World} {ty : TypeId} {v : Value} {s : List R2} (h : Ow W0 wr ty v s) (tc : Touch (fun _ => False) wr w') : Ow W0 w' ty v s := by
  refine ⟨⟨h.own.1, ?_⟩, h.new, h.touch.trans tc (fun _ _ e => e)⟩
  rcases h.own.2 with h0 | ⟨g, cap, cur, hv, hg, hh, rest⟩
  · exact .inl h0
  · exact .inr ⟨g, cap, cur, hv, hg, (tc.block g (lt_of_block hh) id).trans hh, rest⟩
theorem row_new (w : World) (l : List Value) (t : TypeId) : ∀ (j : Nat) (u : Value), l[j]? = some u → (w.alloc (.cells l.toArray t)).cell? ((⟨w.heap.size, 0, none⟩ : Addr).add j) = some u := by
  intro j u hj
  have hb : (w.alloc (.cells l.toArray t)).heap[w.heap.size]? = some (.cells l.toArray t (0, 0)) := by
    show (w.heap.push _)[_]? = _
    simp
  rw [add_g]
  unfold World.cell?
  rw [hb]
  simpa using hj
theorem Ow.set {W0 wr : World} {ty : TypeId} {g n cap : Nat} {s0 : List R2} {t1 t2 : Int} (h : Ow W0 wr ty (.slice (some ⟨g, 0, none⟩) n cap) (s0 ++ [(t1, t2)])) (hn : n = (s0 ++ [(t1, t2)]).length) (y : Int) : Ow W0 (wr.setCell ⟨g, s0.length * 2 + 1, none⟩ (.int .i64 y)) ty (.slice (some ⟨g, 0, none⟩) n cap) (s0 ++ [(t1, y)]) := by
  subst hn
  refine ⟨?_, h.new, h.touch.setCell (p := ⟨g, _, none⟩) (fun hlt => by have := h.new g rfl; simp at hlt; omega) _⟩
  have := own_set h.own (s0.length * 2 + 1) (.int .i64 y)
  have e : (flatR (s0 ++ [(t1, t2)])).set (s0.length * 2 + 1) (.int .i64 y) = flatR (s0 ++ [(t1, y)]) := by
    rw [flatR_append, flatR_append, List.set_append_right _ _ (by rw [length_flatR]; omega), length_flatR]
    rw [show s0.length * 2 + 1 - s0.length * 2 = 1 by omega]
    rfl
  rw [e] at this
  simpa using this
theorem Ow.last {W0 wr : World} {ty : TypeId} {v : Value} {s0 : List R2} {t1 t2 : Int} (h : Ow W0 wr ty v (s0 ++ [(t1, t2)])) : ∃ g cap, v = .slice (some ⟨g, 0, none⟩) (s0.length + 1) cap ∧ wr.cell? ⟨g, s0.length * 2 + 1, none⟩ = some (.int .i64 t2) ∧ wr.frozen? ⟨g, s0.length * 2 + 1, none⟩ = false ∧ g < wr.heap.size := by
  have hl : (s0 ++ [(t1, t2)]).length = s0.length + 1 := by simp
  rcases h.own.2 with ⟨_, h0⟩ | ⟨g, cap, cur, hv, hg, hh, rest⟩
  · omega
  · refine ⟨g, cap, by rw [hv, hl], ?_, by simp [World.frozen?, hh], lt_of_block hh⟩
    have := h.own.cells (g := g) (by rw [hv]; rfl) (s0.length * 2 + 1) (.int .i64 t2) (by
      have := flatR_get1 (s0 ++ [(t1, t2)]) s0.length (by simp)
      rw [show 2 * s0.length + 1 = s0.length * 2 + 1 by omega] at this
      simpa using this)
    rwa [add_g] at this
theorem jstep_join (s0 : List R2) (t1 t2 x y : Int) (h : x ≤ t2 + 1) : jstep (s0 ++ [(t1, t2)]) (x, y) = s0 ++ [(t1, max t2 y)] := by
  unfold jstep
  simp [h]
theorem jstep_more (s0 : List R2) (t1 t2 x y : Int) (h : ¬ x ≤ t2 + 1) : jstep (s0 ++ [(t1, t2)]) (x, y) = s0 ++ [(t1, t2)] ++ [(x, y)] := by
  unfold jstep
  simp [h]

set_option maxRecDepth 100000 in
set_option maxHeartbeats 4000000 in
theorem joined_any (a : Option Addr) (cap : Nat) (l : List R2) (w : World) (hl : Rg w a l) (hin : ∀ x ∈ l, inB x) (hb : l.length * 16 ≤ 140737488351232) :
    Calls Try.prog 26 #[.slice a l.length cap] w fun e w' => ∃ v, e = .returned v ∧ Ow w w' 25 v (joinedL l) := by
  obtain ⟨i0, hi33, hz0, hz1, hz2⟩ := info_parts info33
  have HL := hid hl
  have HIN := hid hin
  clear hl hin
  go_enter Try.func26, Try.ntmps26
  go_wp2_with fail
  go_loopg [3, 9] l.length (fun gk v i wr => ∃ k : Nat, k + gk = l.length ∧ i = .int .i64 (k : Nat) ∧ Ow w wr 25 v (joinedL (l.take k)))
  case atStart => exact ⟨0, by omega, rfl, ⟨by simpa [joinedL, flatR] using World.ownsRow_nil _ _ _ _, by intro g h; simp [Value.ownBlock] at h, Touch.refl _ _⟩⟩
  case round =>
    obtain ⟨k, hk, rfl, how⟩ := hrel
    have OW := hid how
    have HLR := hid (HL.out.new how.touch)
    have hlen := joined_len l k (by omega)
    have HJI := hid (joined_in l HIN.out k (by omega))
    obtain ⟨av, cv, hav⟩ := own_shape how.own
    subst hav
    clear how
    by_cases hlt : k < l.length
    · obtain ⟨b, o, ha, hbl, hcell⟩ : ∃ b o, a = some ⟨b, o, none⟩ ∧ b < wr.heap.size ∧ ∀ i (h : i < l.length), wr.cell? ⟨b, o + i * 2, none⟩ = some (.int .i64 (l[i]).1) ∧ wr.cell? ⟨b, o + i * 2 + 1, none⟩ = some (.int .i64 (l[i]).2) := by
        rcases HLR.out with h | h
        · rw [h] at hlt; simp at hlt
        · exact h
      subst ha
      obtain ⟨d0, d1⟩ := hcell k hlt
      obtain ⟨r, hr⟩ : ∃ r, r = l[k] := ⟨_, rfl⟩
      rw [← hr] at d0 d1
      have HR := hid hr
      have hri := HIN.out l[k] (List.getElem_mem hlt)
      rw [← hr] at hri
      obtain ⟨x, y⟩ := r
      dsimp only at d0 d1
      clear hcell hr
      obtain ⟨M, hM⟩ : ∃ M, M = (joinedL (l.take k)).length := ⟨_, rfl⟩
      rw [← hM]
      have HM := hid hM
      rw [← hM] at hlen
      clear hM
      have JS := hid (show joinedL (l.take (k + 1)) = jstep (joinedL (l.take k)) (x, y) from by rw [foldl_take_succ l k hlt, ← HR.out])
      obtain ⟨s, hs⟩ : ∃ s, s = joinedL (l.take k) := ⟨_, rfl⟩
      rw [← hs] at OW HM HJI JS
      clear hs
      rw [← HM.out] at OW
      have hsl : s.length ≤ k := by rw [← HM.out]; exact hlen
      rcases List.eq_nil_or_concat s with hs0 | ⟨s0, t, hs0⟩
      · subst hs0
        have hM0 : M = 0 := HM.out
        subst hM0
        go_upto_region 6 with fail
        obtain ⟨rb, hrb⟩ : ∃ rb, rb = wr.heap.size := ⟨_, rfl⟩
        have OA := hid (OW.out.alloc (.cells #[.int .i64 x, .int .i64 y] 33))
        have RB := hid (show (wr.alloc (.cells #[.int .i64 x, .int .i64 y] 33)).heap[rb]? = some (.cells #[.int .i64 x, .int .i64 y] 33 (0, 0)) from by rw [hrb]; exact three_new _ _ _)
        rw [← hrb]
        clear hrb OW
        generalize wr.alloc (.cells #[.int .i64 x, .int .i64 y] 33) = wA at *
        have p0 := cell_two0 RB.out
        have p1 := cell_two1 RB.out
        go_cut [28] (fun v wd => v = .bool false ∧ Touch (fun _ => False) wA wd)
        case first =>
          go_quiet (fail)
          go_wp2
          go_meet
          case rel => exact ⟨rfl, (Touch.refl _ wA).drewN _⟩
        obtain ⟨rfl, tc⟩ := hcut
        have OB := hid (OA.out.still tc)
        have hrbl := lt_of_block RB.out
        have RC := hid (show wc.heap[rb]? = some (.cells #[.int .i64 x, .int .i64 y] 33 (0, 0)) from (tc.block rb hrbl id).trans RB.out)
        have q0 := cell_two0 RC.out
        have q1 := cell_two1 RC.out
        clear tc p0 p1
        go_wp2_with (at_builtin; refine wpList_append_own_at _ rfl _ _ 25 rfl 0 33 i0 (.agg #[.int .i64 0, .int .i64 0]) 2 16 Try.underlying25 hi33 hz0 hz1 hz2 rfl (by decide) _ _ _ rfl (OB.out.own.alloc _) ⟨wc.heap.size, 0, none⟩ 1 1 [.int .i64 x, .int .i64 y] rfl rfl (row_new wc [.int .i64 x, .int .i64 y] 33) (by intro u hu; simp at hu; rcases hu with rfl | rfl <;> rfl) (by unfold maxLen; omega) (by omega) (Nat.zero_le _) ?_)
        intro v' w4 hown hgrow _ hat
        have OC := hid (OB.out.more (x := (x, y)) hown hgrow hat)
        clear hown hgrow hat
        go_wp2
        go_roundg (gk - 1)
        case measure => omega
        case rel =>
          refine ⟨k + 1, by omega, by go_num, ?_⟩
          rw [JS.out]
          exact OC.out
      · obtain ⟨t1, t2⟩ := t
        rw [List.concat_eq_append] at hs0
        subst hs0
        have ht := HJI.out (t1, t2) (by simp)
        have ht2 : 0 ≤ t2 ∧ t2 ≤ 1114111 := by unfold inB at ht; dsimp only at ht; omega
        have hMl : M = s0.length + 1 := by rw [HM.out]; simp
        obtain ⟨m, hm⟩ : ∃ m, m = s0.length := ⟨_, rfl⟩
        rw [← hm] at hMl
        have HMM := hid hm
        subst hMl
        clear ht hm
        go_upto_region 6 with fail
        obtain ⟨rb, hrb⟩ : ∃ rb, rb = wr.heap.size := ⟨_, rfl⟩
        have OA := hid (OW.out.alloc (.cells #[.int .i64 x, .int .i64 y] 33))
        have RB := hid (show (wr.alloc (.cells #[.int .i64 x, .int .i64 y] 33)).heap[rb]? = some (.cells #[.int .i64 x, .int .i64 y] 33 (0, 0)) from by rw [hrb]; exact three_new _ _ _)
        rw [← hrb]
        clear hrb OW
        generalize wr.alloc (.cells #[.int .i64 x, .int .i64 y] 33) = wA at *
        have p0 := cell_two0 RB.out
        have p1 := cell_two1 RB.out
        obtain ⟨g, cap2, hv, g0, gf, hgl⟩ := OA.out.last
        rw [← HMM.out] at g0 gf hv
        simp only [Value.slice.injEq] at hv
        obtain ⟨rfl, _, rfl⟩ := hv
        go_cut [28] (fun v wd => v = .bool (decide (x ≤ t2 + 1)) ∧ Touch (fun _ => False) wA wd)
        case first =>
          go_quiet (fail)
          go_wp2
          go_meet
          case rel => exact ⟨rfl, (Touch.refl _ wA).drewN _⟩
        obtain ⟨rfl, tc⟩ := hcut
        by_cases hj : x ≤ t2 + 1
        · rw [decide_eq_true hj]
          have HJ := hid hj
          have OB := hid (OA.out.still tc)
          have hrbl := lt_of_block RB.out
          have RC := hid (show wc.heap[rb]? = some (.cells #[.int .i64 x, .int .i64 y] 33 (0, 0)) from (tc.block rb hrbl id).trans RB.out)
          have q0 := cell_two0 RC.out
          have q1 := cell_two1 RC.out
          obtain ⟨g', cap3, hv3, k0, kf, hgl2⟩ := OB.out.last
          rw [← HMM.out] at k0 kf hv3
          simp only [Value.slice.injEq, Option.some.injEq, Addr.mk.injEq, true_and, and_true] at hv3
          obtain ⟨rfl, rfl⟩ := hv3
          clear hj tc p0 p1 g0 gf
          by_cases hc : t2 < y
          · have OS := hid (OB.out.set (by simp [HMM.out]) y)
            rw [← HMM.out] at OS
            have HC := hid (show max t2 y = y by omega)
            go_wp2_with fail
            go_region
            all_goals
              go_wp2
              go_roundg (gk - 1)
              case measure => omega
              case rel =>
                refine ⟨k + 1, by omega, by go_num, ?_⟩
                rw [JS.out, jstep_join _ _ _ _ _ (by have := HJ.out; omega), HC.out]
                exact OS.out.still ((Touch.refl _ _).drew)
          · have OS := hid (OB.out.set (by simp [HMM.out]) t2)
            rw [← HMM.out] at OS
            have HC := hid (show max t2 y = t2 by omega)
            go_wp2_with fail
            go_region
            all_goals
              go_wp2
              go_roundg (gk - 1)
              case measure => omega
              case rel =>
                refine ⟨k + 1, by omega, by go_num, ?_⟩
                rw [JS.out, jstep_join _ _ _ _ _ (by have := HJ.out; omega), HC.out]
                exact OS.out.still ((Touch.refl _ _).drew)
        · rw [decide_eq_false hj]
          have HJ := hid hj
          clear hj
          have OB := hid (OA.out.still tc)
          have hrbl := lt_of_block RB.out
          have RC := hid (show wc.heap[rb]? = some (.cells #[.int .i64 x, .int .i64 y] 33 (0, 0)) from (tc.block rb hrbl id).trans RB.out)
          have q0 := cell_two0 RC.out
          have q1 := cell_two1 RC.out
          clear tc p0 p1
          go_wp2_with (at_builtin; refine wpList_append_own_at _ rfl _ _ 25 rfl 0 33 i0 (.agg #[.int .i64 0, .int .i64 0]) 2 16 Try.underlying25 hi33 hz0 hz1 hz2 rfl (by decide) _ _ _ rfl (OB.out.own.alloc _) ⟨wc.heap.size, 0, none⟩ 1 1 [.int .i64 x, .int .i64 y] rfl rfl (row_new wc [.int .i64 x, .int .i64 y] 33) (by intro u hu; simp at hu; rcases hu with rfl | rfl <;> rfl) (by unfold maxLen; omega) (by omega) (Nat.zero_le _) ?_)
          intro v' w4 hown hgrow _ hat
          have OC := hid (OB.out.more (x := (x, y)) (by rw [List.length_append]; exact hown) hgrow hat)
          clear hown hgrow hat
          go_wp2
          go_roundg (gk - 1)
          case measure => omega
          case rel =>
            refine ⟨k + 1, by omega, by go_num, ?_⟩
            rw [JS.out, jstep_more _ _ _ _ _ (by have := HJ.out; omega)]
            exact OC.out
    · obtain rfl : k = l.length := by omega
      go_wp2
      go_ret
      refine ⟨Value.slice av (joinedL (l.take l.length)).length cv, rfl, ?_⟩
      have := OW.out
      rw [List.take_length] at this ⊢
      exact this
end Go.Proofs.Ytpjnnbegimaaeab
