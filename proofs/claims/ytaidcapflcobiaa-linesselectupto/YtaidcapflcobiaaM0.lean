/- Texts of this proof, one behind the other: what each says stands ahead of it. -/
import Derived.WalkKit
import Derived.OneCell
import Derived.Deep.QuietTactic
import Derived.Deep.LoopGhost
import Derived.Deep.DeepCutAuto
import Derived.BigQuiet
import Derived.Deep.AppendLies
import Derived.Maps.AppendAt
import Derived.Test.YtaidcapflcobiaaChecked
import Derived.Laws.Externs
import Derived.RangeFuncNested
import Derived.RangeFuncBound
import Derived.RangeFuncCalls
import Derived.RangeFuncLeaves
import Derived.Shelf.Abstract
import Derived.Shelf.RegionOpen
import Derived.OwnWalkIn
import Derived.TacticsInMore
import Derived.LoopNIn
import Derived.LoopIn
/- What a call leaves alone, and blocks of two cells; no condition. -/
namespace Go.Proofs.Ytaidcapflcobiaa
open Go.RowKit

theorem hid {p : Prop} (h : p) : Hid p := h

/-- Of the blocks that were there, those outside S are as they were. -/
structure Touch (S : Nat → Prop) (w w' : World) : Prop where
  os : w'.os = w.os
  tape : w'.tape = w.tape
  output : w'.output = w.output
  size : w.heap.size ≤ w'.heap.size
  block : ∀ k, k < w.heap.size → ¬ S k → w'.heap[k]? = w.heap[k]?

theorem Touch.refl (S : Nat → Prop) (w : World) : Touch S w w := ⟨rfl, rfl, rfl, Nat.le_refl _, fun _ _ _ => rfl⟩

theorem Touch.trans {S S' : Nat → Prop} {a b c : World} (h : Touch S a b) (k : Touch S' b c) (hs : ∀ i, i < a.heap.size → S' i → S i) : Touch S a c :=
  ⟨k.os.trans h.os, k.tape.trans h.tape, k.output.trans h.output, Nat.le_trans h.size k.size,
    fun i hi hn => (k.block i (Nat.lt_of_lt_of_le hi h.size) (fun e => hn (hs i hi e))).trans (h.block i hi hn)⟩

theorem Touch.mono {S S' : Nat → Prop} {a b : World} (h : Touch S a b) (hs : ∀ i, i < a.heap.size → S i → S' i) : Touch S' a b :=
  ⟨h.os, h.tape, h.output, h.size, fun i hi hn => h.block i hi (fun e => hn (hs i hi e))⟩

theorem Touch.below {S : Nat → Prop} {a b : World} (h : Touch S a b) (B : Nat) (hB : B ≤ a.heap.size) (hs : ∀ i, S i → B ≤ i) : Below B a b :=
  ⟨h.os, h.tape, h.output, h.size, fun i hi => h.block i (by omega) (fun e => by have := hs i e; omega)⟩

theorem Touch.drew {S : Nat → Prop} {a w : World} (h : Touch S a w) : Touch S a w.drew := ⟨h.os, h.tape, h.output, h.size, h.block⟩

theorem Touch.drewN {S : Nat → Prop} {a w : World} (h : Touch S a w) (n : Nat) : Touch S a (w.drewN n) := ⟨h.os, h.tape, h.output, h.size, h.block⟩

theorem Touch.alloc {S : Nat → Prop} {a w : World} (h : Touch S a w) (o : Obj) : Touch S a (w.alloc o) :=
  h.trans (S' := fun _ => False) ⟨rfl, rfl, rfl, by simp, fun k hk _ => Below.heap_alloc _ _ _ hk⟩ (fun _ _ e => e.elim)

theorem Touch.setCell {S : Nat → Prop} {a w : World} (h : Touch S a w) {p : Addr} (hp : p.block < a.heap.size → S p.block) (u : Value) : Touch S a (w.setCell p u) :=
  h.trans (S' := fun k => k = p.block) ⟨rfl, rfl, rfl, by simp [World.setCell], fun k _ hk => Below.heap_setCell _ _ _ _ hk⟩ (fun i hi e => by subst e; exact hp hi)

theorem Touch.grown {S : Nat → Prop} {a w w' : World} {row : Option Nat} (h : Touch S a w) (hg : w.grownBy w' row) (hr : ∀ k, row = some k → k < a.heap.size → S k) : Touch S a w' :=
  h.trans (S' := fun k => row = some k) ⟨hg.os, hg.tape, hg.output, hg.size, fun k hk hn => hg.block k hk (fun e => hn e.symm)⟩ (fun i hi e => hr i e hi)

theorem Touch.cell {S : Nat → Prop} {w w' : World} (h : Touch S w w') {p : Addr} (hp : p.block < w.heap.size) (hn : ¬ S p.block) : w'.cell? p = w.cell? p := World.cell?_of_block (w := w) (h.block p.block hp hn)

theorem touch_of_below {B : Nat} {w w' : World} (h : Below B w w') : Touch (fun k => B ≤ k) w w' :=
  ⟨h.os, h.tape, h.output, h.size, fun k _ hn => h.block k (by omega)⟩

/-! ### A block of two cells -/
theorem cell_two0 {w : World} {b : Nat} {v u : Value} {t : TypeId} (h : w.heap[b]? = some (.cells #[v, u] t (0, 0))) : w.cell? ⟨b, 0, none⟩ = some v := by simp [World.cell?, h]
theorem cell_two1 {w : World} {b : Nat} {v u : Value} {t : TypeId} (h : w.heap[b]? = some (.cells #[v, u] t (0, 0))) : w.cell? ⟨b, 1, none⟩ = some u := by simp [World.cell?, h]
theorem free_two {w : World} {b i : Nat} {v u : Value} {t : TypeId} (h : w.heap[b]? = some (.cells #[v, u] t (0, 0))) : w.frozen? ⟨b, i, none⟩ = false := by simp [World.frozen?, h]
theorem two_set0 {w : World} {b : Nat} {v u x : Value} {t : TypeId} (h : w.heap[b]? = some (.cells #[v, u] t (0, 0))) : (w.setCell ⟨b, 0, none⟩ x).heap[b]? = some (.cells #[x, u] t (0, 0)) := by
  have hlt := lt_of_block h
  have h' : w.heap[b] = .cells #[v, u] t (0, 0) := by simpa [Array.getElem?_eq_getElem hlt] using h
  show (w.heap.modify b _)[b]? = _
  rw [Array.getElem?_eq_getElem (by simpa using hlt), Array.getElem_modify_self, h']
  rfl
theorem two_set1 {w : World} {b : Nat} {v u x : Value} {t : TypeId} (h : w.heap[b]? = some (.cells #[v, u] t (0, 0))) : (w.setCell ⟨b, 1, none⟩ x).heap[b]? = some (.cells #[v, x] t (0, 0)) := by
  have hlt := lt_of_block h
  have h' : w.heap[b] = .cells #[v, u] t (0, 0) := by simpa [Array.getElem?_eq_getElem hlt] using h
  show (w.heap.modify b _)[b]? = _
  rw [Array.getElem?_eq_getElem (by simpa using hlt), Array.getElem_modify_self, h']
  rfl

theorem block_set {w : World} {b : Nat} {cs : Array Value} {t : TypeId} (h : w.heap[b]? = some (.cells cs t (0, 0))) (i : Nat) (x : Value) : (w.setCell ⟨b, i, none⟩ x).heap[b]? = some (.cells (cs.set! i x) t (0, 0)) := by
  have hlt := lt_of_block h
  have h' : w.heap[b] = .cells cs t (0, 0) := by simpa [Array.getElem?_eq_getElem hlt] using h
  show (w.heap.modify b _)[b]? = _
  rw [Array.getElem?_eq_getElem (by simpa using hlt), Array.getElem_modify_self, h']
  rfl

theorem own_shape {w : World} {base n : Nat} {e : TypeId} {sz : Nat} {v : Value} {xs : List Value} (h : w.ownsRow base e sz v n xs) : ∃ a cap, v = .slice a n cap := by
  rcases h.2 with ⟨rfl, rfl⟩ | ⟨g, cap, cur, rfl, _⟩
  · exact ⟨none, 0, rfl⟩
  · exact ⟨_, cap, rfl⟩

theorem results_c {P : Program} {fn : Func} {p : Tmp} {ty : TypeId} (h : fn.results = #[.cell p ty]) (tmps : Array Value) (w : World) (g : Nat) (et : TypeId) (cs : Array Value) (fr : Nat × Nat) (d : TypeDesc)
    (hp : tmps.getD p undef = .pointer (some ⟨g, 0, none⟩)) (hg : w.heap[g]? = some (.cells cs et fr))
    (hu : P.underlying ty = some d) (hd : (match d with | .struct _ | .array _ _ => true | _ => false) = true) (hi : (P.info? ty).map (·.size) = some cs.size) :
    (results fn tmps).run P w = .ok (.agg cs) w := by
  have hp' : tmps[p]?.getD undef = .pointer (some ⟨g, 0, none⟩) := by simpa using hp
  simp [results, h, hp', asAddr, run_loadVar_row w g et ty cs fr d hg hu hd hi]
end Go.Proofs.Ytaidcapflcobiaa

/- Rows of ranges in memory; no condition. -/
namespace Go.Proofs.Ytaidcapflcobiaa
open Go.RowKit

theorem info27 : (Try.prog.info? 27).map (fun i => (i.zero, i.size, i.bytes)) = some (some (.agg #[.int .i64 0, .int .i64 0]), 2, 16) := by kernel_rfl
theorem info33 : (Try.prog.info? 33).map (fun i => (i.zero, i.size, i.bytes)) = some (some (.agg #[.int .i64 0, .int .i64 0]), 2, 16) := by kernel_rfl
theorem info3 : (Try.prog.info? 3).map (fun i => (i.zero, i.size, i.bytes)) = some (some (.int .i64 0), 1, 8) := by kernel_rfl
theorem two_new {w : World} (x y : Value) (t : TypeId) : (w.alloc (.cells #[x, y] t)).heap[w.heap.size]? = some (.cells #[x, y] t (0, 0)) := by
  show (w.heap.push _)[_]? = _
  simp

abbrev R2 := Int × Int
def encR (x : R2) : List Value := [.int .i64 x.1, .int .i64 x.2]
def flatR (l : List R2) : List Value := l.flatMap encR
theorem flatR_append (l m : List R2) : flatR (l ++ m) = flatR l ++ flatR m := by simp [flatR]
theorem length_flatR (l : List R2) : (flatR l).length = l.length * 2 := by
  induction l with
  | nil => rfl
  | cons x r ih => simp only [flatR, List.flatMap_cons, List.length_append, List.length_cons] at ih ⊢; rw [ih]; simp [encR]; omega
theorem flatR_get0 : ∀ (l : List R2) (i : Nat) (h : i < l.length), (flatR l)[2 * i]? = some (.int .i64 (l[i]).1)
  | x :: r, 0, _ => rfl
  | x :: r, i + 1, h => by
    have := flatR_get0 r i (by simpa using h)
    show (encR x ++ flatR r)[2 * (i + 1)]? = _
    rw [List.getElem?_append_right (by simp [encR]; omega)]
    simpa [encR, show 2 * (i + 1) - 2 = 2 * i by omega] using this
theorem flatR_get1 : ∀ (l : List R2) (i : Nat) (h : i < l.length), (flatR l)[2 * i + 1]? = some (.int .i64 (l[i]).2)
  | x :: r, 0, _ => rfl
  | x :: r, i + 1, h => by
    have := flatR_get1 r i (by simpa using h)
    show (encR x ++ flatR r)[2 * (i + 1) + 1]? = _
    rw [List.getElem?_append_right (by simp [encR]; omega)]
    simpa [encR, show 2 * (i + 1) + 1 - 2 = 2 * i + 1 by omega] using this
theorem flatR_one (l : List R2) : ∀ u ∈ flatR l, u.oneCell' = true := by
  intro u hu
  simp only [flatR, List.mem_flatMap, encR] at hu
  obtain ⟨x, _, hx⟩ := hu
  simp at hx
  rcases hx with rfl | rfl <;> rfl

theorem add_g (g j : Nat) : (⟨g, 0, none⟩ : Addr).add j = ⟨g, j, none⟩ := by
  unfold Addr.add
  split
  · rename_i h; rw [h]
  · rw [Nat.zero_add]

/-- A list of ranges in memory, as a walk is told of it. -/
def Rg (w : World) (a : Option Addr) (l : List R2) : Prop :=
  l = [] ∨ ∃ b o, a = some ⟨b, o, none⟩ ∧ b < w.heap.size ∧ ∀ i (h : i < l.length), w.cell? ⟨b, o + i * 2, none⟩ = some (.int .i64 (l[i]).1) ∧ w.cell? ⟨b, o + i * 2 + 1, none⟩ = some (.int .i64 (l[i]).2)

theorem Rg.kept {w w' : World} {S : Nat → Prop} {a : Option Addr} {l : List R2} (h : Rg w a l) (t : Touch S w w') (hs : ∀ b o, a = some ⟨b, o, none⟩ → b < w.heap.size → ¬ S b) : Rg w' a l := by
  rcases h with h | ⟨b, o, rfl, hb, hc⟩
  · exact .inl h
  · refine .inr ⟨b, o, rfl, Nat.lt_of_lt_of_le hb t.size, fun i hi => ?_⟩
    rw [t.cell (p := ⟨b, o + i * 2, none⟩) hb (hs b o rfl hb), t.cell (p := ⟨b, o + i * 2 + 1, none⟩) hb (hs b o rfl hb)]
    exact hc i hi
theorem Rg.new {w w' : World} {a : Option Addr} {l : List R2} (h : Rg w a l) (t : Touch (fun _ => False) w w') : Rg w' a l := h.kept t (fun _ _ _ _ e => e)
theorem own_rg {w : World} {base e : Nat} {v : Value} {l : List R2} (h : w.ownsRow base e 2 v l.length (flatR l)) : ∃ a c, v = .slice a l.length c ∧ Rg w a l := by
  rcases h.2 with ⟨rfl, h0⟩ | ⟨g, cap, cur, rfl, hg, hh, rest⟩
  · exact ⟨none, 0, by rw [h0], .inl (List.eq_nil_of_length_eq_zero h0)⟩
  · refine ⟨_, cap, rfl, .inr ⟨g, 0, rfl, lt_of_block hh, fun i hi => ?_⟩⟩
    have h1 := h.cells (g := g) rfl (2 * i) _ (flatR_get0 l i hi)
    have h2 := h.cells (g := g) rfl (2 * i + 1) _ (flatR_get1 l i hi)
    rw [add_g] at h1 h2
    rw [show 0 + i * 2 = 2 * i by omega]
    exact ⟨h1, h2⟩
end Go.Proofs.Ytaidcapflcobiaa

/- The lines of a text, plain; no condition. -/
namespace Go.Proofs.Ytaidcapflcobiaa
open Go.RowKit

/-- The lines of bytes that begin at cur, a line having begun at fr. -/
def lnsGo : List UInt8 → Nat → Nat → List R2
  | [], fr, cur => if fr < cur then [((fr : Int), (cur : Int))] else []
  | c :: cs, fr, cur => if c = 10 then ((fr : Int), (cur : Int)) :: lnsGo cs (cur + 1) (cur + 1) else lnsGo cs fr (cur + 1)
def lns (d : ByteArray) : List R2 := lnsGo d.data.toList 0 0
/-- Where the line ends that bytes from cur on are in. -/
def endGo : List UInt8 → Nat → Nat
  | [], cur => cur
  | c :: cs, cur => if c = 10 then cur else endGo cs (cur + 1)

theorem endGo_ge : ∀ (cs : List UInt8) (cur : Nat), cur ≤ endGo cs cur ∧ endGo cs cur ≤ cur + cs.length
  | [], cur => by simp [endGo]
  | c :: cs, cur => by
    rw [endGo]
    split
    · simp
    · have := endGo_ge cs (cur + 1)
      simp only [List.length_cons]
      omega

theorem lnsGo_step : ∀ (cs : List UInt8) (fr cur : Nat), fr ≤ cur → fr < cur + cs.length → lnsGo cs fr cur = ((fr : Int), (endGo cs cur : Int)) :: lnsGo (cs.drop (endGo cs cur + 1 - cur)) (endGo cs cur + 1) (endGo cs cur + 1)
  | [], fr, cur, _, h => by
    simp only [List.length_nil, Nat.add_zero] at h
    simp [lnsGo, endGo, h]
  | c :: cs, fr, cur, h0, h => by
    rw [lnsGo, endGo]
    by_cases hc : c = 10
    · rw [if_pos hc, if_pos hc, show cur + 1 - cur = 1 by omega]
      rfl
    · rw [if_neg hc, if_neg hc, lnsGo_step cs fr (cur + 1) (by omega) (by simp only [List.length_cons] at h; omega)]
      have := endGo_ge cs (cur + 1)
      rw [show endGo cs (cur + 1) + 1 - cur = (endGo cs (cur + 1) + 1 - (cur + 1)) + 1 by omega]
      rfl

theorem lnsGo_len : ∀ (cs : List UInt8) (fr cur : Nat), fr ≤ cur → (lnsGo cs fr cur).length ≤ cs.length + 1 ∧ (fr = cur → (lnsGo cs fr cur).length ≤ cs.length)
  | [], fr, cur, h => by
    rw [lnsGo]
    split <;> simp <;> omega
  | c :: cs, fr, cur, h => by
    rw [lnsGo]
    split
    · have := (lnsGo_len cs (cur + 1) (cur + 1) (Nat.le_refl _)).2 rfl
      simp only [List.length_cons]
      omega
    · have := (lnsGo_len cs fr (cur + 1) (by omega)).1
      simp only [List.length_cons]
      omega
theorem lns_len (d : ByteArray) : (lns d).length ≤ d.size := by
  have := (lnsGo_len d.data.toList 0 0 (Nat.le_refl _)).2 rfl
  simpa [lns] using this

/-- Lines one behind the other, from a place on. -/
def Chn : Nat → List R2 → Prop
  | _, [] => True
  | fr, x :: l => x.1 = fr ∧ ∃ te : Nat, x.2 = te ∧ fr ≤ te ∧ Chn (te + 1) l
theorem lnsGo_chn : ∀ (cs : List UInt8) (fr cur : Nat), fr ≤ cur → Chn fr (lnsGo cs fr cur)
  | [], fr, cur, h => by
    rw [lnsGo]
    split
    · exact ⟨rfl, cur, rfl, h, trivial⟩
    · trivial
  | c :: cs, fr, cur, h => by
    rw [lnsGo]
    split
    · exact ⟨rfl, cur, rfl, h, lnsGo_chn cs (cur + 1) (cur + 1) (Nat.le_refl _)⟩
    · exact lnsGo_chn cs fr (cur + 1) (by omega)
/-- All lie between two places. -/
theorem lnsGo_in : ∀ (cs : List UInt8) (fr cur : Nat), fr ≤ cur → ∀ x ∈ lnsGo cs fr cur, (fr : Int) ≤ x.1 ∧ x.1 ≤ x.2 ∧ x.2 ≤ (cur + cs.length : Nat) ∧ x.1 < (cur + cs.length : Nat)
  | [], fr, cur, h => by
    rw [lnsGo]
    split
    · intro x hx
      simp only [List.mem_cons, List.not_mem_nil, or_false] at hx
      subst hx
      simp only [List.length_nil]
      omega
    · simp
  | c :: cs, fr, cur, h => by
    rw [lnsGo]
    split
    · intro x hx
      simp only [List.mem_cons] at hx
      simp only [List.length_cons]
      rcases hx with rfl | hx
      · dsimp only; omega
      · have := lnsGo_in cs (cur + 1) (cur + 1) (Nat.le_refl _) x hx
        omega
    · intro x hx
      have := lnsGo_in cs fr (cur + 1) (by omega) x hx
      simp only [List.length_cons]
      omega
theorem chn_ge : ∀ (l : List R2) (fr : Nat), Chn fr l → ∀ x ∈ l, (fr : Int) ≤ x.1
  | [], _, _ => by simp
  | y :: l, fr, ⟨h1, te, h2, h3, h4⟩ => by
    intro x hx
    simp only [List.mem_cons] at hx
    rcases hx with rfl | hx
    · omega
    · have := chn_ge l (te + 1) h4 x hx
      omega
/-- The beginnings rise. -/
def Rise (l : List R2) : Prop := ∀ i j (hi : i < l.length) (hj : j < l.length), i < j → (l[i]).1 < (l[j]).1
theorem chn_rise : ∀ (l : List R2) (fr : Nat), Chn fr l → Rise l
  | [], _, _ => fun i j hi => by simp at hi
  | y :: l, fr, ⟨h1, te, h2, h3, h4⟩ => by
    intro i j hi hj hij
    match i, j, hi, hj, hij with
    | 0, j + 1, _, hj, _ =>
      have := chn_ge l (te + 1) h4 (l[j]'(by simpa using hj)) (List.getElem_mem _)
      simp only [List.getElem_cons_zero, List.getElem_cons_succ]
      omega
    | i + 1, j + 1, hi, hj, hij =>
      simp only [List.getElem_cons_succ]
      exact chn_rise l (te + 1) h4 i j (by simpa using hi) (by simpa using hj) (by omega)
theorem lns_rise (d : ByteArray) : Rise (lns d) := chn_rise _ 0 (lnsGo_chn _ 0 0 (Nat.le_refl _))
theorem lns_in (d : ByteArray) : ∀ x ∈ lns d, (0 : Int) ≤ x.1 ∧ x.1 ≤ x.2 ∧ x.2 ≤ d.size ∧ x.1 < d.size := by
  intro x hx
  have := lnsGo_in d.data.toList 0 0 (Nat.le_refl _) x hx
  simpa using this
end Go.Proofs.Ytaidcapflcobiaa

/- lineEnd: where a line ends; condition: the place is in the text. -/
namespace Go.Proofs.Ytaidcapflcobiaa
open Go.RowKit

theorem find_same {α : Type} {p q : α → Bool} : ∀ (l : List α), (∀ i ∈ l, p i = q i) → l.find? p = l.find? q
  | [], _ => rfl
  | x :: l, h => by
    rw [List.find?_cons, List.find?_cons, h x (by simp), find_same l (fun i hi => h i (by simp [hi]))]
theorem find_end : ∀ (cs : List UInt8) (cur : Nat), (List.range cs.length).find? (fun i => decide (cs[i]? = some 10)) = if endGo cs cur < cur + cs.length then some (endGo cs cur - cur) else none
  | [], cur => by simp [endGo]
  | c :: cs, cur => by
    rw [List.length_cons, List.range_succ_eq_map, List.find?_cons, endGo]
    by_cases h : c = 10
    · simp [h]
    · have ih := find_end cs (cur + 1)
      have hg := endGo_ge cs (cur + 1)
      simp only [List.getElem?_cons_zero, Option.some.injEq, h, decide_false, if_false, List.find?_map]
      have e : ((fun i => decide ((c :: cs)[i]? = some 10)) ∘ Nat.succ) = (fun i => decide (cs[i]? = some 10)) := by
        funext i
        simp
      rw [e, ih]
      by_cases k : endGo cs (cur + 1) < cur + (cs.length + 1)
      · rw [if_pos (by omega), if_pos k]
        simp
        omega
      · rw [if_neg (by omega), if_neg k]
        rfl
theorem drop_list (d : ByteArray) (t : Nat) : (d.extract t d.size).data.toList = d.data.toList.drop t := by
  rw [ByteArray.data_extract]
  rw [Array.toList_extract]
  simp only [List.extract_eq_take_drop]
  exact List.take_of_length_le (by simp)
theorem first_end (d : ByteArray) (t : Nat) (ht : t ≤ d.size) : firstIdx (d.extract t d.size) 10 = if endGo (d.data.toList.drop t) t < d.size then ((endGo (d.data.toList.drop t) t : Int) - t) else -1 := by
  have hl : (d.data.toList.drop t).length = d.size - t := by simp
  have hsz : (d.extract t d.size).size = d.size - t := by rw [ByteArray.size_extract]; omega
  have e : (List.range (d.extract t d.size).size).find? (fun i => (d.extract t d.size)[i]! == 10) = (List.range (d.data.toList.drop t).length).find? (fun i => decide ((d.data.toList.drop t)[i]? = some 10)) := by
    rw [hsz, hl]
    refine find_same _ ?_
    intro i hi
    have hi' : i < d.size - t := by simpa using hi
    have hlt : i < (d.extract t d.size).size := by omega
    rw [← drop_list d t, getElem!_pos _ i hlt, Bool.eq_iff_iff]
    have h2 : (d.extract t d.size).data.toList[i]? = some ((d.extract t d.size)[i]) := by
      rw [List.getElem?_eq_getElem (by simpa using hlt)]
      rfl
    rw [h2]
    simp
  unfold firstIdx
  rw [e, find_end _ t, hl, show t + (d.size - t) = d.size by omega]
  have hg := endGo_ge (d.data.toList.drop t) t
  by_cases k : endGo (d.data.toList.drop t) t < d.size
  · rw [if_pos k, if_pos k]
    dsimp only
    omega
  · rw [if_neg k, if_neg k]
theorem index_ext (s : ByteArray) (w : World) : (callFunc 25 #[.string s, .int .u8 10]).run Try.prog w = .ok (.value (.int .i64 (firstIdx s 10))) w := by
  rw [run_callFunc_extern Try.func25 (by kernel_rfl) (by kernel_rfl) (by kernel_rfl) (e := Extern.BytealgIndexByte.indexByte) (by kernel_rfl), run_indexByte_string]
  rfl
set_option maxRecDepth 100000 in
theorem index_any (s : ByteArray) (w : World) : Calls Try.prog 23 #[.string s, .int .u8 10] w fun e w' => e = .returned (.int .i64 (firstIdx s 10)) ∧ w = w' := by
  have K : ∀ w, Calls Try.prog 24 #[.string s, .int .u8 10] w fun e w' => e = .returned (.int .i64 (firstIdx s 10)) ∧ w = w' := by
    intro w
    have e := index_ext s
    go_enter Try.func24, Try.ntmps24
    go_wp2
    go_ret
    exact ⟨rfl, rfl⟩
  have K2 := hid (K w)
  clear K
  go_enter Try.func23, Try.ntmps23
  go_wp2_with fail
  refine K2.out.mono ?_
  rintro e w1 ⟨rfl, rfl⟩
  clear K2
  go_wp2
  go_ret
  exact ⟨rfl, rfl⟩
set_option maxRecDepth 100000 in
set_option maxHeartbeats 4000000 in
theorem lineEnd_any (d : ByteArray) (fr : Nat) (w : World) (hf : fr ≤ d.size) (hd : d.size ≤ 140737488351232) : Calls Try.prog 21 #[.string d, .int .i64 (fr : Nat)] w fun e w' => e = .returned (.int .i64 (endGo (d.data.toList.drop fr) fr : Nat)) ∧ w = w' := by
  have K := hid (index_any (d.extract fr d.size) w)
  have hfe := first_end d fr hf
  have hge := endGo_ge (d.data.toList.drop fr) fr
  have hll : (d.data.toList.drop fr).length = d.size - fr := by simp
  rw [hll] at hge
  clear hll
  generalize endGo (d.data.toList.drop fr) fr = q at *
  have hfi : (fr : Int) ≤ (d.size : Int) := by omega
  go_enter Try.func21, Try.ntmps21
  go_wp2_with fail
  refine K.out.mono ?_
  rintro e w1 ⟨rfl, rfl⟩
  clear K
  rw [hfe]
  by_cases h : q < d.size
  · rw [if_pos h]
    go_wp2
    go_ret
    exact ⟨by rw [show (fr : Int) + (q - fr) = (q : Nat) by omega]; rfl, rfl⟩
  · rw [if_neg h]
    go_wp2
    go_ret
    exact ⟨by rw [show q = d.size by omega]; rfl, rfl⟩
end Go.Proofs.Ytaidcapflcobiaa

/- The iterator over a text's lines: it hands on each line with its number, in order; condition: the text fits into memory. -/
namespace Go.Proofs.Ytaidcapflcobiaa
open Go.RowKit Go.Shelf

attribute [local go_sem] Oper.semAt_some

/-- What has come when k rounds are over. -/
def up (n k : Nat) : List (Fin n) := (List.finRange n).take k
theorem up_succ {n k : Nat} (h : k < n) : up n (k + 1) = up n k ++ [⟨k, h⟩] := by
  unfold up
  rw [List.take_succ_eq_append_getElem (by simpa using h), List.getElem_finRange]
  rfl
theorem up_len {n k : Nat} (h : k ≤ n) : (up n k).length = k := by simp [up, h]
theorem up_all (n : Nat) : up n n = List.finRange n := by
  unfold up
  exact List.take_of_length_le (by simp)
/-- The value that a round is handed. -/
def encL (l : List R2) (i : Fin l.length) : Array Value := #[.int .i64 (i.1 : Nat), .agg #[.int .i64 (l[i.1]).1, .int .i64 (l[i.1]).2]]
/-- A round keeps the text's box. -/
def KpB (Bn : Nat) (d : ByteArray) (W W' : World) : Prop := Boxed W Bn 9 (.string d) → Boxed W' Bn 9 (.string d)

set_option maxRecDepth 100000 in
set_option maxHeartbeats 4000000 in
theorem each1_in (n : Nat) (hn : 1 ≤ n) (l Bn : Nat) (d : ByteArray) (hd : d.size ≤ 140737488351232) (J Jx : List (Fin (lns d).length) → World → Prop)
    (hY : ∀ pre x W, J pre W → pre.length < (lns d).length → YieldAt Fence.wide (n - 1) Try.prog l (encL (lns d) x) W fun e W' =>
      (e = .returned (.bool true) ∧ J (pre ++ [x]) W' ∧ KpB Bn d W W') ∨ (e = .returned (.bool false) ∧ Jx (pre ++ [x]) W'))
    (W : World) (hBn : Boxed W Bn 9 (.string d)) (h0 : J [] W) :
    CallsIn Fence.wide n Try.prog 20 #[.func (.yield l) #[] #[], .pointer (some ⟨Bn, 0, none⟩)] W fun e W' => (∃ v, e = .returned v) ∧
      ((∃ ys, ys = List.finRange (lns d).length ∧ J ys W') ∨ (∃ pre, True ∧ Jx pre W')) := by
  refine callsIn_of_wp Try.func20 rfl trivial ?_ rfl
  simp only [Try.ntmps20, List.size_toArray, List.length_cons, List.length_nil, Nat.reduceAdd, Nat.reduceSub, Array.replicate_succ, Array.replicate_zero, List.push_toArray, List.append_toArray, List.nil_append, List.cons_append]
  gi_wp2
  gi_loopw [3, 4] (fun x y wr => ∃ k fr : Nat, x = .int .i64 fr ∧ y = .int .i64 k ∧ k ≤ (lns d).length ∧ fr ≤ d.size + 1 ∧ Hid (lnsGo (d.data.toList.drop fr) fr fr = (lns d).drop k) ∧ Hid (J (up (lns d).length k) wr) ∧ Hid (Boxed wr Bn 9 (.string d)))
    (fun _ y _ => (lns d).length - (intOf y).toNat)
  case atStart => exact ⟨0, 0, rfl, rfl, Nat.zero_le _, Nat.zero_le _, hid rfl, hid h0, hid hBn⟩
  case round =>
    obtain ⟨k, fr, rfl, rfl, hk, hfr, hgo, hJs, hB⟩ := hrel
    have hc := hB.out.cell
    by_cases hlt : fr < d.size
    · have hll : (d.data.toList.drop fr).length = d.size - fr := by simp
      have hst := lnsGo_step (d.data.toList.drop fr) fr fr (Nat.le_refl _) (by omega)
      have hge := endGo_ge (d.data.toList.drop fr) fr
      have hle := lineEnd_any d fr wr (by omega) hd
      obtain ⟨q, hq⟩ : ∃ q, q = endGo (d.data.toList.drop fr) fr := ⟨_, rfl⟩
      rw [← hq] at hst hge hle
      rw [hgo.out, List.drop_drop, show fr + (q + 1 - fr) = q + 1 by omega] at hst
      have hkl : k < (lns d).length := by
        rcases Nat.lt_or_ge k (lns d).length with h | h
        · exact h
        · rw [List.drop_eq_nil_of_le h] at hst; cases hst
      rw [List.drop_eq_getElem_cons hkl] at hst
      obtain ⟨hx, hr⟩ := List.cons.inj hst
      obtain ⟨fn, tmps, assign, body, hy, hR⟩ := hY (up (lns d).length k) ⟨k, hkl⟩ wr hJs.out (by rw [up_len hk]; exact hkl)
      have HG := hid hr.symm
      have HLE := hid hle
      unfold encL at hy
      dsimp only at hy
      rw [hx] at hy
      dsimp only at hy
      have HQ := hid hge
      rw [hll] at HQ
      clear hst hr hx hq hge hle hll
      gi_wp2
      refine ⟨trivial, ?_⟩
      refine (callsIn_wide.2 HLE.out).mono ?_
      rintro e w' ⟨rfl, rfl⟩
      gi_wp2
      refine hR.mono ?_
      rintro e W3 (⟨rfl, hJ3, hk3⟩ | ⟨rfl, hJx3⟩)
      · have hqb := HQ.out
        have hln := lns_len d
        gi_wp2
        go_roundw
        case rel => exact ⟨k + 1, q + 1, by simp, by simp, by omega, by omega, HG, hid (by rw [up_succ hkl]; exact hJ3), hid (hk3 hB.out)⟩
        case measure => simp [intOf]; omega
      · gi_wp2
        refine bodyPost_ret (results_none rfl _ _ _) rfl ?_
        exact ⟨⟨_, rfl⟩, .inr ⟨_, trivial, hJx3⟩⟩
    · have hnil : d.data.toList.drop fr = [] := List.drop_eq_nil_of_le (by simpa using hlt)
      have hg2 := hgo.out
      rw [hnil, lnsGo, if_neg (Nat.lt_irrefl _)] at hg2
      have hkn : k = (lns d).length := by
        have := congrArg List.length hg2
        simp at this
        omega
      clear hg2 hnil
      gi_wp2
      go_end0
      exact ⟨⟨_, rfl⟩, .inl ⟨_, rfl, by rw [← up_all]; have := hJs.out; rw [hkn] at this; exact this⟩⟩

theorem each_in (n : Nat) (d : ByteArray) (w : World) :
    CallsIn Fence.wide n Try.prog 16 #[.string d] w fun e w' => e = .returned (.func (.func 20) #[] #[.pointer (some ⟨w.heap.size, 0, none⟩)]) ∧ w' = w.alloc (.cells #[.string d] 9) := by
  refine callsIn_of_wp Try.func16 rfl trivial ?_ rfl
  simp only [Try.ntmps16, List.size_toArray, List.length_cons, List.length_nil, Nat.reduceAdd, Nat.reduceSub, Array.replicate_succ, Array.replicate_zero, List.push_toArray, List.append_toArray, List.nil_append, List.cons_append]
  gi_wp2
  go_ret
  exact ⟨rfl, rfl⟩

theorem each_stops (n : Nat) (hn : 1 ≤ n) (Bn : Nat) (d : ByteArray) (hd : d.size ≤ 140737488351232) (w : World) (hB : Boxed w Bn 9 (.string d)) :
    SeqStopsK Fence.wide n Try.prog 20 #[.pointer (some ⟨Bn, 0, none⟩)] (encL (lns d)) (KpB Bn d) (fun ys => ys = List.finRange (lns d).length) (fun _ => True) (lns d).length w := fun l J Jx W hW _ _ hY h0 =>
  each1_in n hn l Bn d hd J Jx hY W ((hW.block Bn hB.lt).trans hB) h0
end Go.Proofs.Ytaidcapflcobiaa
