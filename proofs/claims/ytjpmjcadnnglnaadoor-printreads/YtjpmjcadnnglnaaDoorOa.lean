/- A parser of JSON: an object's item: a key, a colon, a text; conditions: as told. -/
import Derived.Test.YtjpmjcadnnglnaaDoorM19
import Derived.Deep.RegionLaw
namespace Go.Proofs.YtjpmjcadnnglnaaDoor
open Go.RowKit
open Go.Lib

/-- A call as one step of a region that draws. -/
theorem step_call {P : Program} {ops : Array Oper} {o : Oper} {a : Act} {w : World} {K : Act → World → Prop} {Q : Exit → Act → World → Prop} {E : Prop} (hgd : o.guard = none) (f : FuncId) (opnds : Array Operand) (ats : Array TypeId)
    (ho : o.op = .call { callee := .value (.func f), args := opnds, argTypes := ats }) (vs : Array Value) (hvl : opnds.toList.map a.eval = vs.toList) (hen : ∀ args w, (callFunc f args).run P w = .ok (.enter f args) w)
    (R : Value → World → Prop) (hc : Calls P f vs w (fun e w' => ∃ v, e = .returned v ∧ R v w')) (h : ∀ v w', R v w' → K (a.put o.dst v) w') :
    if Region.wanted o (yielded ops a.tmps) = true then Oper.wp P o a w K Q else E := by
  have hw : Region.wanted o (yielded ops a.tmps) = true := by simp [Region.wanted, hgd]
  rw [if_pos hw]
  have hv : opnds.map a.eval = vs := by
    apply Array.toList_inj.1
    rw [Array.toList_map]
    exact hvl
  subst hv
  unfold Oper.wp execOp
  have e1 : a.eval (Operand.func f) = .func (.func f) #[] #[] := rfl
  simp only [ho, resolve, invoke, Sem.run_bind, Sem.run_pure, Result.andThen_ok, hen, e1, Deferred.ofValue, Array.empty_append, Array.append_empty]
  rw [Oper.upon_enter]
  refine hc.mono ?_
  rintro e w' ⟨v, rfl, hr⟩
  exact h v w' hr

/-- Texts in a list of the call's own. -/
def SL (w : World) (v : Value) (ks : List ByteArray) : Prop := w.ownsRow 0 9 1 v ks.length (ks.map Value.string)
/-- Values that are texts. -/
def kidC (o : ByteArray) : List Value := [.int .i64 4, .string o, .slice none 0 0, .slice none 0 0]
def VL (w : World) (v : Value) (ts : List ByteArray) : Prop := w.ownsRow 0 36 4 v ts.length (ts.flatMap kidC)
theorem rowKept {w w' : World} {e : TypeId} {sz n : Nat} {v : Value} {xs : List Value} {S : Nat → Prop} (h : w.ownsRow 0 e sz v n xs) (tc : Touch S w w') (hn : ∀ g, v.ownBlock = some g → ¬ S g) : w'.ownsRow 0 e sz v n xs := by
  refine ⟨h.1, ?_⟩
  rcases h.2 with h0 | ⟨g, cap, cur, hv, hg, hh, rest⟩
  · exact .inl h0
  · exact .inr ⟨g, cap, cur, hv, hg, (tc.block g (lt_of_block hh) (hn g (by rw [hv]; rfl))).trans hh, rest⟩
theorem info9b : (Tryd.prog.info? 9).map (fun i => (i.zero, i.size, i.bytes)) = some (some (.string ⟨#[]⟩), 1, 16) := by kernel_rfl
theorem info26b : (Tryd.prog.info? 36).map (fun i => (i.zero, i.size, i.bytes)) = some (some (.agg #[.int .i64 0, .string ⟨#[]⟩, .slice none 0 0, .slice none 0 0]), 4, 72) := by kernel_rfl
/-- An object that is being read: the parser, the box that holds it, the object. -/
structure OS (w : World) (lo b bx q : Nat) (s : ByteArray) (t d : Nat) (v2 v3 : Value) (ks ts : List ByteArray) : Prop where
  ps : Ps w b s t d
  box : w.heap[bx]? = some (.cells #[.pointer (some ⟨b, 0, none⟩)] 79 (0, 0))
  obj : w.heap[q]? = some (.cells #[.int .i64 6, .string ⟨#[]⟩, v2, v3] 36 (0, 0))
  keys : SL w v2 ks
  kids : VL w v3 ts
  new2 : ∀ g, v2.ownBlock = some g → lo ≤ g
  new3 : ∀ g, v3.ownBlock = some g → lo ≤ g
  low : b < bx ∧ bx < q ∧ q < lo
theorem OS.apart {w : World} {lo b bx q : Nat} {s : ByteArray} {t d : Nat} {v2 v3 : Value} {ks ts : List ByteArray} (h : OS w lo b bx q s t d v2 v3 ks ts) : ∀ g, v2.ownBlock = some g → v3.ownBlock ≠ some g := by
  intro g e2 e3
  rcases h.keys.2 with ⟨hv, _⟩ | ⟨g2, _, _, hv, _, hh, _⟩
  · rw [hv] at e2
    cases e2
  · rcases h.kids.2 with ⟨hv3, _⟩ | ⟨g3, _, _, hv3, _, hh3, _⟩
    · rw [hv3] at e3
      cases e3
    · rw [hv] at e2
      rw [hv3] at e3
      cases e2
      cases e3
      rw [hh] at hh3
      cases hh3
/-- What touches the parser alone. -/
theorem OS.goes {w w' : World} {lo b bx q : Nat} {s : ByteArray} {t t' d : Nat} {v2 v3 : Value} {ks ts : List ByteArray} (h : OS w lo b bx q s t d v2 v3 ks ts) (hp : Ps w' b s t' d) (tc : Touch (fun k => k = b) w w') : OS w' lo b bx q s t' d v2 v3 ks ts := by
  obtain ⟨l1, l2, l3⟩ := h.low
  exact ⟨hp, (tc.block bx (lt_of_block h.box) (by omega)).trans h.box, (tc.block q (lt_of_block h.obj) (by omega)).trans h.obj, rowKept h.keys tc (fun g e e2 => by have := h.new2 g e; omega), rowKept h.kids tc (fun g e e2 => by have := h.new3 g e; omega), h.new2, h.new3, h.low⟩
theorem OS.still {w w' : World} {lo b bx q : Nat} {s : ByteArray} {t d : Nat} {v2 v3 : Value} {ks ts : List ByteArray} (h : OS w lo b bx q s t d v2 v3 ks ts) (tc : Touch (fun _ => False) w w') : OS w' lo b bx q s t d v2 v3 ks ts :=
  h.goes (h.ps.new tc) (tc.mono (fun _ _ e => e.elim))
theorem block_set1 {w : World} {q : Nat} {a b c d : Value} (h : w.heap[q]? = some (.cells #[a, b, c, d] 36 (0, 0))) (x : Value) : (w.setCell ⟨q, 2, none⟩ x).heap[q]? = some (.cells #[a, b, x, d] 36 (0, 0)) := block_set h 2 x
theorem block_set3 {w : World} {q : Nat} {a b c d : Value} (h : w.heap[q]? = some (.cells #[a, b, c, d] 36 (0, 0))) (x : Value) : (w.setCell ⟨q, 3, none⟩ x).heap[q]? = some (.cells #[a, b, c, x] 36 (0, 0)) := block_set h 3 x
/-- A key was put behind. -/
theorem OS.keyed {w2 w3 : World} {lo b bx q : Nat} {s : ByteArray} {t d : Nat} {a2 : Option Addr} {n2 c2 : Nat} {v3 : Value} {ks ts : List ByteArray} {K : ByteArray} {v' : Value} {o : Obj} (h : OS w2 lo b bx q s t d (.slice a2 n2 c2) v3 ks ts) (hlo : lo ≤ w2.heap.size)
    (hn : n2 = ks.length) (hown : w3.ownsRow 0 9 1 v' (n2 + 1) (ks.map Value.string ++ [.string K])) (hg : (w2.alloc o).grownBy w3 (Value.slice a2 n2 c2).ownBlock) (hat : v'.ownBlock = (Value.slice a2 n2 c2).ownBlock ∨ v'.ownBlock = some (w2.heap.size + 1)) :
    OS (w3.setCell ⟨q, 2, none⟩ v') lo b bx q s t d v' v3 (ks ++ [K]) ts ∧ Touch (fun k => k = q ∨ lo ≤ k) w2 (w3.setCell ⟨q, 2, none⟩ v') := by
  obtain ⟨l1, l2, l3⟩ := h.low
  have T : Touch (fun k => lo ≤ k) w2 w3 := Touch.grown ((Touch.refl _ w2).alloc o) hg (fun k e _ => h.new2 k e)
  have N : ∀ g, v'.ownBlock = some g → lo ≤ g := by
    intro g e
    rcases hat with e2 | e2
    · exact h.new2 g (by rw [← e2]; exact e)
    · rw [e2] at e
      cases e
      omega
  have T3 : Touch (fun k => k = q) w3 (w3.setCell ⟨q, 2, none⟩ v') := Touch.setCell (S := fun k => k = q) (Touch.refl _ _) (p := ⟨q, 2, none⟩) (fun _ => rfl) v'
  have P3 : Ps w3 b s t d := (T.block b h.ps.lt (by omega)).trans h.ps
  have Q3 := (T.block q (lt_of_block h.obj) (by omega)).trans h.obj
  have B3 := (T.block bx (lt_of_block h.box) (by omega)).trans h.box
  have K3 : VL w3 v3 ts := by
    have := rowKept h.kids (Touch.grown (S := fun k => (Value.slice a2 n2 c2).ownBlock = some k) ((Touch.refl _ w2).alloc o) hg (fun k e _ => e)) (fun g e e2 => h.apart g e2 e)
    exact this
  refine ⟨⟨(T3.block b P3.lt (by omega)).trans P3, (T3.block bx (lt_of_block B3) (by omega)).trans B3, block_set1 Q3 v', ?_, rowKept K3 T3 (fun g e e2 => by have := h.new3 g e; omega), N, h.new3, h.low⟩, ?_⟩
  · have := rowKept hown T3 (fun g e e2 => by have := N g e; omega)
    unfold SL
    rw [List.length_append, List.map_append, ← hn]
    exact this
  · exact Touch.trans (T.mono (fun _ _ e => .inr e)) T3 (fun _ _ e => .inl e)
theorem ownsRow_succ8 {W : World} {e : TypeId} {sz : Nat} {v : Value} {k : Nat} {xs : List Value} (h : W.ownsRow 0 e sz v (k + 1) xs) : ∃ g cap, v = .slice (some ⟨g, 0, none⟩) (k + 1) cap := by
  rcases h.2 with ⟨_, h0⟩ | ⟨g, cap, _, hv, _⟩
  · omega
  · exact ⟨g, cap, hv⟩
theorem kid_len (ts : List ByteArray) : (ts.flatMap kidC).length = ts.length * 4 := by
  induction ts with
  | nil => rfl
  | cons a l ih => rw [List.flatMap_cons, List.length_append, ih, List.length_cons]; show 4 + _ = _; omega
theorem kids_at {n : Nat} {ts : List ByteArray} {zs : List Value} (h : n = ts.length) (j : Nat) : (ts.flatMap kidC ++ zs)[n * 4 + j]? = zs[j]? := by
  rw [List.getElem?_append_right (by rw [kid_len, h]; omega), kid_len, h, Nat.add_sub_cancel_left]
theorem cell_kept {w w' : World} {b : Nat} (h : Touch (fun k => k = b) w w') {p : Addr} (hp : p.block < w.heap.size ∧ p.block ≠ b) : w'.cell? p = w.cell? p := h.cell hp.1 hp.2
theorem add_block (a : Addr) (j : Nat) : (a.add j).block = a.block := by unfold Addr.add; split <;> rfl
theorem kid_set (ts : List ByteArray) (n : Nat) (o : ByteArray) (h : n = ts.length) : ((((ts.flatMap kidC ++ ([.int .i64 0, .string ⟨#[]⟩, .slice none 0 0, .slice none 0 0] : List Value)).set (n * 4) (.int .i64 4)).set (n * 4 + 1) (.string o)).set (n * 4 + 2) (.slice none 0 0)).set (n * 4 + 3) (.slice none 0 0) = (ts ++ [o]).flatMap kidC := by
  have hl := kid_len ts
  rw [← h] at hl
  rw [List.flatMap_append]
  generalize ts.flatMap kidC = L at *
  rw [List.set_append_right _ _ (by omega), List.set_append_right _ _ (by omega), List.set_append_right _ _ (by omega), List.set_append_right _ _ (by omega), hl]
  rw [Nat.sub_self, Nat.add_sub_cancel_left, Nat.add_sub_cancel_left, Nat.add_sub_cancel_left]
  rfl
theorem row_four {w : World} {g n cap : Nat} {ts : List ByteArray} (o : ByteArray) (h : w.ownsRow 0 36 4 (.slice (some ⟨g, 0, none⟩) (n + 1) cap) (n + 1) (ts.flatMap kidC ++ [.int .i64 0, .string ⟨#[]⟩, .slice none 0 0, .slice none 0 0])) (hn : n = ts.length) :
    ((((w.setCell ⟨g, n * 4, none⟩ (.int .i64 4)).setCell ⟨g, n * 4 + 1, none⟩ (.string o)).setCell ⟨g, n * 4 + 2, none⟩ (.slice none 0 0)).setCell ⟨g, n * 4 + 3, none⟩ (.slice none 0 0)).ownsRow 0 36 4 (.slice (some ⟨g, 0, none⟩) (n + 1) cap) (n + 1) ((ts ++ [o]).flatMap kidC) := by
  have h1 := (h.stored (n * 4) (.int .i64 4)).1
  have h2 := (h1.stored (n * 4 + 1) (.string o)).1
  have h3 := (h2.stored (n * 4 + 2) (.slice none 0 0)).1
  have h4 := (h3.stored (n * 4 + 3) (.slice none 0 0)).1
  rw [kid_set ts n o hn] at h4
  exact h4
theorem touch_four {S : Nat → Prop} {w w' : World} {g : Nat} (T : Touch S w w') (hg : g < w.heap.size → S g) (j0 j1 j2 j3 : Nat) (x y z u : Value) : Touch S w ((((w'.setCell ⟨g, j0, none⟩ x).setCell ⟨g, j1, none⟩ y).setCell ⟨g, j2, none⟩ z).setCell ⟨g, j3, none⟩ u) :=
  (((T.setCell (p := ⟨g, j0, none⟩) hg x).setCell (p := ⟨g, j1, none⟩) hg y).setCell (p := ⟨g, j2, none⟩) hg z).setCell (p := ⟨g, j3, none⟩) hg u
/-- A text was put behind. -/
theorem OS.kidded {w7 w' : World} {lo b bx q : Nat} {s : ByteArray} {t d : Nat} {v2 : Value} {a3 : Option Addr} {n3 c3 g8 c8 : Nat} {ks ts : List ByteArray} {o : ByteArray} (h : OS w7 lo b bx q s t d v2 (.slice a3 n3 c3) ks ts) (hn : n3 = ts.length) (hg8 : lo ≤ g8)
    (hown : w'.ownsRow 0 36 4 (.slice (some ⟨g8, 0, none⟩) (n3 + 1) c8) (n3 + 1) ((ts ++ [o]).flatMap kidC)) (hobj : w'.heap[q]? = some (.cells #[.int .i64 6, .string ⟨#[]⟩, v2, .slice (some ⟨g8, 0, none⟩) (n3 + 1) c8] 36 (0, 0)))
    (T : Touch (fun k => k = q ∨ (Value.slice a3 n3 c3).ownBlock = some k) w7 w') : OS w' lo b bx q s t d v2 (.slice (some ⟨g8, 0, none⟩) (n3 + 1) c8) ks (ts ++ [o]) := by
  obtain ⟨l1, l2, l3⟩ := h.low
  have hb : ∀ k, k < lo → k ≠ q → ¬ (k = q ∨ (Value.slice a3 n3 c3).ownBlock = some k) := by
    intro k hk hq e
    rcases e with e | e
    · exact hq e
    · have := h.new3 k e
      omega
  refine ⟨(T.block b h.ps.lt (hb b (by omega) (by omega))).trans h.ps, (T.block bx (lt_of_block h.box) (hb bx (by omega) (by omega))).trans h.box, hobj, ?_, ?_, h.new2, fun g e => by cases e; exact hg8, h.low⟩
  · exact rowKept h.keys T (fun g e e2 => by
      rcases e2 with e2 | e2
      · have := h.new2 g e
        omega
      · exact h.apart g e e2)
  · unfold VL
    rw [List.length_append, List.length_singleton, ← hn]
    exact hown
theorem set_swap {w : World} {q g i j : Nat} {x y : Value} (h : q ≠ g) : (w.setCell ⟨q, i, none⟩ x).setCell ⟨g, j, none⟩ y = (w.setCell ⟨g, j, none⟩ y).setCell ⟨q, i, none⟩ x := by
  unfold World.setCell
  simp only
  congr 1
  apply Array.ext
  · simp
  · intro k h1 h2
    simp only [Array.getElem_modify]
    by_cases e1 : q = k
    · subst e1
      have : ¬ g = q := fun e => h e.symm
      simp [this]
    · by_cases e2 : g = k
      · subst e2
        simp [h]
      · simp [e1, e2]
theorem item_fin {w7 w8 : World} {lo b bx q : Nat} {s : ByteArray} {t d : Nat} {v2 : Value} {a3 : Option Addr} {n3 c3 g8 c8 : Nat} {ks ts : List ByteArray} {o : ByteArray} (h : OS w7 lo b bx q s t d v2 (.slice a3 n3 c3) ks ts) (hn : n3 = ts.length) (hg8 : lo ≤ g8)
    (hg9 : g8 < w7.heap.size → (Value.slice a3 n3 c3).ownBlock = some g8) (ow : w8.ownsRow 0 36 4 (.slice (some ⟨g8, 0, none⟩) (n3 + 1) c8) (n3 + 1) (ts.flatMap kidC ++ [.int .i64 0, .string ⟨#[]⟩, .slice none 0 0, .slice none 0 0])) (gt : Touch (fun k => (Value.slice a3 n3 c3).ownBlock = some k) w7 w8)
    (ob : w8.heap[q]? = some (.cells #[.int .i64 6, .string ⟨#[]⟩, v2, .slice a3 n3 c3] 36 (0, 0))) :
    OS (((((w8.setCell ⟨g8, n3 * 4, none⟩ (.int .i64 4)).setCell ⟨g8, n3 * 4 + 1, none⟩ (.string o)).setCell ⟨g8, n3 * 4 + 2, none⟩ (.slice none 0 0)).setCell ⟨g8, n3 * 4 + 3, none⟩ (.slice none 0 0)).setCell ⟨q, 3, none⟩ (.slice (some ⟨g8, 0, none⟩) (n3 + 1) c8)) lo b bx q s t d v2 (.slice (some ⟨g8, 0, none⟩) (n3 + 1) c8) ks (ts ++ [o]) ∧
    Touch (fun k => k = q ∨ lo ≤ k) w7 (((((w8.setCell ⟨g8, n3 * 4, none⟩ (.int .i64 4)).setCell ⟨g8, n3 * 4 + 1, none⟩ (.string o)).setCell ⟨g8, n3 * 4 + 2, none⟩ (.slice none 0 0)).setCell ⟨g8, n3 * 4 + 3, none⟩ (.slice none 0 0)).setCell ⟨q, 3, none⟩ (.slice (some ⟨g8, 0, none⟩) (n3 + 1) c8)) := by
  have hlow := h.low
  have ne1 : ¬ g8 = q := by omega
  have ne2 : ¬ q = g8 := by omega
  have O9 := row_four o ow hn
  have T9 := touch_four (S := fun k => k = q ∨ (Value.slice a3 n3 c3).ownBlock = some k) (gt.mono (fun _ _ e => .inr e)) (fun hl => .inr (hg9 hl)) (n3 * 4) (n3 * 4 + 1) (n3 * 4 + 2) (n3 * 4 + 3) (.int .i64 4) (.string o) (.slice none 0 0) (.slice none 0 0)
  have B9 : ((((w8.setCell ⟨g8, n3 * 4, none⟩ (.int .i64 4)).setCell ⟨g8, n3 * 4 + 1, none⟩ (.string o)).setCell ⟨g8, n3 * 4 + 2, none⟩ (.slice none 0 0)).setCell ⟨g8, n3 * 4 + 3, none⟩ (.slice none 0 0)).heap[q]? = some (.cells #[.int .i64 6, .string ⟨#[]⟩, v2, .slice a3 n3 c3] 36 (0, 0)) := by
    rw [Below.heap_setCell _ _ _ _ ne2, Below.heap_setCell _ _ _ _ ne2, Below.heap_setCell _ _ _ _ ne2, Below.heap_setCell _ _ _ _ ne2]
    exact ob
  generalize (((w8.setCell ⟨g8, n3 * 4, none⟩ (.int .i64 4)).setCell ⟨g8, n3 * 4 + 1, none⟩ (.string o)).setCell ⟨g8, n3 * 4 + 2, none⟩ (.slice none 0 0)).setCell ⟨g8, n3 * 4 + 3, none⟩ (.slice none 0 0) = w9 at *
  have TQ := Touch.setCell (S := fun k => k = q) (Touch.refl _ w9) (p := ⟨q, 3, none⟩) (fun _ => rfl) (.slice (some ⟨g8, 0, none⟩) (n3 + 1) c8)
  have T10 := Touch.trans T9 TQ (fun _ _ e => .inl e)
  exact ⟨h.kidded hn hg8 (rowKept O9 TQ (fun g e e2 => by cases e; exact ne1 e2)) (block_set3 B9 _) T10, T10.mono (fun i _ e => by rcases e with e | e; exact .inl e; exact .inr (h.new3 i e))⟩
end Go.Proofs.YtjpmjcadnnglnaaDoor
