/- A parser of JSON: trees of values in memory; a list or an object that is being read; conditions: as told. -/
import Derived.Test.YtabhlhgfacpohaaDoorVa
namespace Go.Proofs.YtabhlhgfacpohaaDoor
open Go.RowKit
open Go.Lib

/-- The four cells of a value. -/
structure Cel where
  k : Int
  t : ByteArray
  v2 : Value
  v3 : Value
def Cel.cells (c : Cel) : List Value := [.int .i64 c.k, .string c.t, c.v2, c.v3]
def CL (w : World) (v : Value) (cs : List Cel) : Prop := w.ownsRow 0 26 4 v cs.length (cs.flatMap Cel.cells)
/-- A tree lies in memory, in these blocks. -/
inductive TV (w : World) (B : Nat → Prop) : Cel → JV → Prop
  | mk (k : Int) (t : ByteArray) (v2 v3 : Value) (ks : List ByteArray) (kids : List JV) (cs : List Cel) (h2 : SL w v2 ks) (b2 : ∀ g, v2.ownBlock = some g → B g) (h3 : CL w v3 cs) (b3 : ∀ g, v3.ownBlock = some g → B g)
    (hl : cs.length = kids.length) (hk : ∀ (i : Nat) (c : Cel) (x : JV), cs[i]? = some c → kids[i]? = some x → TV w B c x) : TV w B ⟨k, t, v2, v3⟩ (.node k t ks kids)
theorem TV.kept {w w' : World} {B S : Nat → Prop} {c : Cel} {x : JV} (h : TV w B c x) (tc : Touch S w w') (hS : ∀ g, B g → ¬ S g) : TV w' B c x := by
  induction h with
  | mk k t v2 v3 ks kids cs h2 b2 h3 b3 hl hk ih => exact .mk k t v2 v3 ks kids cs (rowKept h2 tc (fun g e => hS g (b2 g e))) b2 (rowKept h3 tc (fun g e => hS g (b3 g e))) b3 hl ih
theorem TV.more {w : World} {B B' : Nat → Prop} {c : Cel} {x : JV} (h : TV w B c x) (hS : ∀ g, B g → B' g) : TV w B' c x := by
  induction h with
  | mk k t v2 v3 ks kids cs h2 b2 h3 b3 hl hk ih => exact .mk k t v2 v3 ks kids cs h2 (fun g e => hS g (b2 g e)) h3 (fun g e => hS g (b3 g e)) hl ih
theorem TV.leaf (w : World) (B : Nat → Prop) (k : Int) (t : ByteArray) : TV w B ⟨k, t, .slice none 0 0, .slice none 0 0⟩ (.node k t [] []) :=
  .mk k t _ _ [] [] [] (World.ownsRow_nil _ _ _ _) (fun g e => by cases e) (World.ownsRow_nil _ _ _ _) (fun g e => by cases e) rfl (fun i c x e => by cases e)
theorem own_lt {w : World} {e : TypeId} {sz n : Nat} {v : Value} {xs : List Value} (h : w.ownsRow 0 e sz v n xs) : ∀ g, v.ownBlock = some g → g < w.heap.size := by
  intro g eg
  rcases h.2 with ⟨hv, _⟩ | ⟨g2, _, _, hv, _, hh, _⟩
  · rw [hv] at eg
    cases eg
  · rw [hv] at eg
    cases eg
    exact lt_of_block hh
theorem Ps.setd2 {w : World} {b : Nat} {s : ByteArray} {t d : Nat} (h : Ps w b s t d) (d' : Nat) : Ps (w.setCell ⟨b, 2, none⟩ (.int .i64 (d' : Nat))) b s t d' := by
  have := block_set h 2 (.int .i64 (d' : Nat))
  exact this
theorem one_new2 {w : World} (v : Value) (t : TypeId) : (w.alloc (.cells #[v] t)).heap[w.heap.size]? = some (.cells #[v] t (0, 0)) := by
  show (w.heap.push _)[_]? = _
  simp
/-- What a value's reading answers. -/
def ValP (s : ByteArray) (b d : Nat) (w : World) : JR (JV × Nat) → Ending → World → Prop
  | .ok (x, u), e, w' => ∃ k t a2 n2 c2 a3 n3 c3 B, e = .returned (.agg #[.int .i64 k, .string t, .slice a2 n2 c2, .slice a3 n3 c3]) ∧ TV w' B ⟨k, t, .slice a2 n2 c2, .slice a3 n3 c3⟩ x ∧ (∀ g, B g → w.heap.size ≤ g ∧ g < w'.heap.size) ∧ Ps w' b s u d ∧ Touch (fun k => k = b) w w'
  | .error (c, k), e, w' => e = thrown c k ∧ Touch (fun k => k = b) w w'
/-- A list or an object that is being read: the parser, the box that holds it, the value, what it holds. -/
structure LS (w : World) (lo b bx q : Nat) (s : ByteArray) (t d : Nat) (kd : Int) (v2 v3 : Value) (ks : List ByteArray) (cs : List Cel) (xs : List JV) (B : Nat → Prop) : Prop where
  ps : Ps w b s t d
  box : w.heap[bx]? = some (.cells #[.pointer (some ⟨b, 0, none⟩)] 78 (0, 0))
  obj : w.heap[q]? = some (.cells #[.int .i64 kd, .string ⟨#[]⟩, v2, v3] 26 (0, 0))
  keys : SL w v2 ks
  kids : CL w v3 cs
  new2 : ∀ g, v2.ownBlock = some g → lo ≤ g
  new3 : ∀ g, v3.ownBlock = some g → lo ≤ g
  low : b < bx ∧ bx < q ∧ q < lo
  len : cs.length = xs.length
  trees : ∀ (i : Nat) (c : Cel) (x : JV), cs[i]? = some c → xs[i]? = some x → TV w B c x
  newB : ∀ g, B g → lo ≤ g ∧ g < w.heap.size
  apB : ∀ g, B g → v2.ownBlock ≠ some g ∧ v3.ownBlock ≠ some g
theorem LS.apart {w : World} {lo b bx q : Nat} {s : ByteArray} {t d : Nat} {kd : Int} {v2 v3 : Value} {ks : List ByteArray} {cs : List Cel} {xs : List JV} {B : Nat → Prop} (h : LS w lo b bx q s t d kd v2 v3 ks cs xs B) : ∀ g, v2.ownBlock = some g → v3.ownBlock ≠ some g := by
  intro g e2 e3
  rcases h.keys.2 with ⟨hv, _⟩ | ⟨g2, _, _, hv, _, hh, _⟩
  · rw [hv] at e2
    cases e2
  · rcases h.kids.2 with ⟨hv3, _⟩ | ⟨g3, _, _, hv3, _, hh3, _⟩
    · rw [hv3] at e3
      cases e3
    · rw [hv] at e2
      rw [hv3] at e3
      cases e2
      cases e3
      rw [hh] at hh3
      cases hh3
/-- What touches the parser alone. -/
theorem LS.goes {w w' : World} {lo b bx q : Nat} {s : ByteArray} {t t' d d' : Nat} {kd : Int} {v2 v3 : Value} {ks : List ByteArray} {cs : List Cel} {xs : List JV} {B : Nat → Prop} (h : LS w lo b bx q s t d kd v2 v3 ks cs xs B) (hp : Ps w' b s t' d') (tc : Touch (fun k => k = b) w w') : LS w' lo b bx q s t' d' kd v2 v3 ks cs xs B := by
  obtain ⟨l1, l2, l3⟩ := h.low
  exact ⟨hp, (tc.block bx (lt_of_block h.box) (by omega)).trans h.box, (tc.block q (lt_of_block h.obj) (by omega)).trans h.obj, rowKept h.keys tc (fun g e e2 => by have := h.new2 g e; omega), rowKept h.kids tc (fun g e e2 => by have := h.new3 g e; omega), h.new2, h.new3, h.low, h.len,
    fun i c x e1 e2 => (h.trees i c x e1 e2).kept tc (fun g e e2 => by have := h.newB g e; omega), fun g e => by have := h.newB g e; have := tc.size; omega, h.apB⟩
theorem LS.still {w w' : World} {lo b bx q : Nat} {s : ByteArray} {t d : Nat} {kd : Int} {v2 v3 : Value} {ks : List ByteArray} {cs : List Cel} {xs : List JV} {B : Nat → Prop} (h : LS w lo b bx q s t d kd v2 v3 ks cs xs B) (tc : Touch (fun _ => False) w w') : LS w' lo b bx q s t d kd v2 v3 ks cs xs B :=
  h.goes (h.ps.new tc) (tc.mono (fun _ _ e => e.elim))
theorem block_set2 {w : World} {q : Nat} {a b c d : Value} (h : w.heap[q]? = some (.cells #[a, b, c, d] 26 (0, 0))) (x : Value) : (w.setCell ⟨q, 2, none⟩ x).heap[q]? = some (.cells #[a, b, x, d] 26 (0, 0)) := block_set h 2 x
/-- A key was put behind. -/
theorem LS.keyed {w2 w3 : World} {lo b bx q : Nat} {s : ByteArray} {t d : Nat} {kd : Int} {a2 : Option Addr} {n2 c2 : Nat} {v3 : Value} {ks : List ByteArray} {cs : List Cel} {xs : List JV} {B : Nat → Prop} {K : ByteArray} {v' : Value} {o : Obj} (h : LS w2 lo b bx q s t d kd (.slice a2 n2 c2) v3 ks cs xs B) (hlo : lo ≤ w2.heap.size)
    (hn : n2 = ks.length) (hown : w3.ownsRow 0 9 1 v' (n2 + 1) (ks.map Value.string ++ [.string K])) (hg : (w2.alloc o).grownBy w3 (Value.slice a2 n2 c2).ownBlock) (hat : v'.ownBlock = (Value.slice a2 n2 c2).ownBlock ∨ v'.ownBlock = some (w2.heap.size + 1)) :
    LS (w3.setCell ⟨q, 2, none⟩ v') lo b bx q s t d kd v' v3 (ks ++ [K]) cs xs B ∧ Touch (fun k => k = q ∨ lo ≤ k) w2 (w3.setCell ⟨q, 2, none⟩ v') := by
  obtain ⟨l1, l2, l3⟩ := h.low
  have T : Touch (fun k => lo ≤ k) w2 w3 := Touch.grown ((Touch.refl _ w2).alloc o) hg (fun k e _ => h.new2 k e)
  have TG : Touch (fun k => (Value.slice a2 n2 c2).ownBlock = some k) w2 w3 := Touch.grown ((Touch.refl _ w2).alloc o) hg (fun k e _ => e)
  have N : ∀ g, v'.ownBlock = some g → lo ≤ g := by
    intro g e
    rcases hat with e2 | e2
    · exact h.new2 g (by rw [← e2]; exact e)
    · rw [e2] at e
      cases e
      omega
  have T3 : Touch (fun k => k = q) w3 (w3.setCell ⟨q, 2, none⟩ v') := Touch.setCell (S := fun k => k = q) (Touch.refl _ _) (p := ⟨q, 2, none⟩) (fun _ => rfl) v'
  have P3 : Ps w3 b s t d := (T.block b h.ps.lt (by omega)).trans h.ps
  have Q3 := (T.block q (lt_of_block h.obj) (by omega)).trans h.obj
  have B3 := (T.block bx (lt_of_block h.box) (by omega)).trans h.box
  have K3 : CL w3 v3 cs := rowKept h.kids TG (fun g e e2 => h.apart g e2 e)
  refine ⟨⟨(T3.block b P3.lt (by omega)).trans P3, (T3.block bx (lt_of_block B3) (by omega)).trans B3, block_set2 Q3 v', ?_, rowKept K3 T3 (fun g e e2 => by have := h.new3 g e; omega), N, h.new3, h.low, h.len, ?_, ?_, ?_⟩, ?_⟩
  · have := rowKept hown T3 (fun g e e2 => by have := N g e; omega)
    unfold SL
    rw [List.length_append, List.map_append, ← hn]
    exact this
  · intro i c x e1 e2
    exact ((h.trees i c x e1 e2).kept TG (fun g e => (h.apB g e).1)).kept T3 (fun g e e2 => by have := h.newB g e; omega)
  · intro g e
    have := h.newB g e
    have := TG.size
    have := T3.size
    omega
  · intro g e
    refine ⟨fun e1 => ?_, (h.apB g e).2⟩
    rcases hat with e2 | e2
    · exact (h.apB g e).1 (by rw [← e2]; exact e1)
    · rw [e2] at e1
      cases e1
      have := h.newB _ e
      omega
  · exact Touch.trans (T.mono (fun _ _ e => .inr e)) T3 (fun _ _ e => .inl e)
theorem cel_len (cs : List Cel) : (cs.flatMap Cel.cells).length = cs.length * 4 := by
  induction cs with
  | nil => rfl
  | cons a l ih => rw [List.flatMap_cons, List.length_append, ih, List.length_cons]; show 4 + _ = _; omega
theorem cels_at {n : Nat} {cs : List Cel} {zs : List Value} (h : n = cs.length) (j : Nat) : (cs.flatMap Cel.cells ++ zs)[n * 4 + j]? = zs[j]? := by
  rw [List.getElem?_append_right (by rw [cel_len, h]; omega), cel_len, h, Nat.add_sub_cancel_left]
theorem cel_set (cs : List Cel) (n : Nat) (c : Cel) (h : n = cs.length) : ((((cs.flatMap Cel.cells ++ ([.int .i64 0, .string ⟨#[]⟩, .slice none 0 0, .slice none 0 0] : List Value)).set (n * 4) (.int .i64 c.k)).set (n * 4 + 1) (.string c.t)).set (n * 4 + 2) c.v2).set (n * 4 + 3) c.v3 = (cs ++ [c]).flatMap Cel.cells := by
  have hl := cel_len cs
  rw [← h] at hl
  rw [List.flatMap_append]
  generalize cs.flatMap Cel.cells = L at *
  rw [List.set_append_right _ _ (by omega), List.set_append_right _ _ (by omega), List.set_append_right _ _ (by omega), List.set_append_right _ _ (by omega), hl]
  rw [Nat.sub_self, Nat.add_sub_cancel_left, Nat.add_sub_cancel_left, Nat.add_sub_cancel_left]
  rfl
theorem row_cel {w : World} {g n cap : Nat} {cs : List Cel} (c : Cel) (h : w.ownsRow 0 26 4 (.slice (some ⟨g, 0, none⟩) (n + 1) cap) (n + 1) (cs.flatMap Cel.cells ++ [.int .i64 0, .string ⟨#[]⟩, .slice none 0 0, .slice none 0 0])) (hn : n = cs.length) :
    ((((w.setCell ⟨g, n * 4, none⟩ (.int .i64 c.k)).setCell ⟨g, n * 4 + 1, none⟩ (.string c.t)).setCell ⟨g, n * 4 + 2, none⟩ c.v2).setCell ⟨g, n * 4 + 3, none⟩ c.v3).ownsRow 0 26 4 (.slice (some ⟨g, 0, none⟩) (n + 1) cap) (n + 1) ((cs ++ [c]).flatMap Cel.cells) := by
  have h1 := (h.stored (n * 4) (.int .i64 c.k)).1
  have h2 := (h1.stored (n * 4 + 1) (.string c.t)).1
  have h3 := (h2.stored (n * 4 + 2) c.v2).1
  have h4 := (h3.stored (n * 4 + 3) c.v3).1
  rw [cel_set cs n c hn] at h4
  exact h4
/-- A tree was put behind. -/
theorem LS.fin {w7 w8 : World} {lo b bx q : Nat} {s : ByteArray} {t d : Nat} {kd : Int} {v2 : Value} {a3 : Option Addr} {n3 c3 g8 c8 : Nat} {ks : List ByteArray} {cs : List Cel} {xs : List JV} {B B2 : Nat → Prop} {c : Cel} {x : JV} (h : LS w7 lo b bx q s t d kd v2 (.slice a3 n3 c3) ks cs xs B) (hn : n3 = cs.length) (hg8 : lo ≤ g8)
    (hg9 : g8 < w7.heap.size → (Value.slice a3 n3 c3).ownBlock = some g8) (ow : w8.ownsRow 0 26 4 (.slice (some ⟨g8, 0, none⟩) (n3 + 1) c8) (n3 + 1) (cs.flatMap Cel.cells ++ [.int .i64 0, .string ⟨#[]⟩, .slice none 0 0, .slice none 0 0])) (gt : Touch (fun k => (Value.slice a3 n3 c3).ownBlock = some k) w7 w8)
    (ob : w8.heap[q]? = some (.cells #[.int .i64 kd, .string ⟨#[]⟩, v2, .slice a3 n3 c3] 26 (0, 0))) (tv : TV w7 B2 c x) (hB2 : ∀ g, B2 g → lo ≤ g ∧ g < w7.heap.size ∧ v2.ownBlock ≠ some g ∧ (Value.slice a3 n3 c3).ownBlock ≠ some g) :
    LS (((((w8.setCell ⟨g8, n3 * 4, none⟩ (.int .i64 c.k)).setCell ⟨g8, n3 * 4 + 1, none⟩ (.string c.t)).setCell ⟨g8, n3 * 4 + 2, none⟩ c.v2).setCell ⟨g8, n3 * 4 + 3, none⟩ c.v3).setCell ⟨q, 3, none⟩ (.slice (some ⟨g8, 0, none⟩) (n3 + 1) c8)) lo b bx q s t d kd v2 (.slice (some ⟨g8, 0, none⟩) (n3 + 1) c8) ks (cs ++ [c]) (xs ++ [x]) (fun g => B g ∨ B2 g) ∧
    Touch (fun k => k = q ∨ lo ≤ k) w7 (((((w8.setCell ⟨g8, n3 * 4, none⟩ (.int .i64 c.k)).setCell ⟨g8, n3 * 4 + 1, none⟩ (.string c.t)).setCell ⟨g8, n3 * 4 + 2, none⟩ c.v2).setCell ⟨g8, n3 * 4 + 3, none⟩ c.v3).setCell ⟨q, 3, none⟩ (.slice (some ⟨g8, 0, none⟩) (n3 + 1) c8)) := by
  obtain ⟨l1, l2, l3⟩ := h.low
  have ne1 : ¬ g8 = q := by omega
  have ne2 : ¬ q = g8 := by omega
  have O9 := row_cel c ow hn
  have T9 := touch_four (S := fun k => k = q ∨ (Value.slice a3 n3 c3).ownBlock = some k) (gt.mono (fun _ _ e => .inr e)) (fun hl => .inr (hg9 hl)) (n3 * 4) (n3 * 4 + 1) (n3 * 4 + 2) (n3 * 4 + 3) (.int .i64 c.k) (.string c.t) c.v2 c.v3
  have B9 : ((((w8.setCell ⟨g8, n3 * 4, none⟩ (.int .i64 c.k)).setCell ⟨g8, n3 * 4 + 1, none⟩ (.string c.t)).setCell ⟨g8, n3 * 4 + 2, none⟩ c.v2).setCell ⟨g8, n3 * 4 + 3, none⟩ c.v3).heap[q]? = some (.cells #[.int .i64 kd, .string ⟨#[]⟩, v2, .slice a3 n3 c3] 26 (0, 0)) := by
    rw [Below.heap_setCell _ _ _ _ ne2, Below.heap_setCell _ _ _ _ ne2, Below.heap_setCell _ _ _ _ ne2, Below.heap_setCell _ _ _ _ ne2]
    exact ob
  generalize (((w8.setCell ⟨g8, n3 * 4, none⟩ (.int .i64 c.k)).setCell ⟨g8, n3 * 4 + 1, none⟩ (.string c.t)).setCell ⟨g8, n3 * 4 + 2, none⟩ c.v2).setCell ⟨g8, n3 * 4 + 3, none⟩ c.v3 = w9 at *
  have TQ := Touch.setCell (S := fun k => k = q) (Touch.refl _ w9) (p := ⟨q, 3, none⟩) (fun _ => rfl) (.slice (some ⟨g8, 0, none⟩) (n3 + 1) c8)
  have T := Touch.trans T9 TQ (fun _ _ e => .inl e)
  have O10 := rowKept O9 TQ (fun g e e2 => by cases e; exact ne1 e2)
  have hobj := block_set3 B9 (.slice (some ⟨g8, 0, none⟩) (n3 + 1) c8)
  generalize w9.setCell ⟨q, 3, none⟩ (.slice (some ⟨g8, 0, none⟩) (n3 + 1) c8) = w' at *
  have hb : ∀ k, k < lo → k ≠ q → ¬ (k = q ∨ (Value.slice a3 n3 c3).ownBlock = some k) := by
    intro k hk hq e
    rcases e with e | e
    · exact hq e
    · have := h.new3 k e
      omega
  refine ⟨⟨(T.block b h.ps.lt (hb b (by omega) (by omega))).trans h.ps, (T.block bx (lt_of_block h.box) (hb bx (by omega) (by omega))).trans h.box, hobj, ?_, ?_, h.new2, (fun g e => by cases e; exact hg8), h.low, by rw [List.length_append, List.length_append, h.len]; rfl, ?_, ?_, ?_⟩, T.mono (fun i _ e => by rcases e with e | e; exact .inl e; exact .inr (h.new3 i e))⟩
  · exact rowKept h.keys T (fun g e e2 => by
      rcases e2 with e2 | e2
      · have := h.new2 g e
        omega
      · exact h.apart g e e2)
  · unfold CL
    rw [List.length_append, List.length_singleton, ← hn]
    exact O10
  · intro i c' x' e1 e2
    by_cases hi : i < cs.length
    · rw [List.getElem?_append_left hi] at e1
      rw [List.getElem?_append_left (by rw [← h.len]; exact hi)] at e2
      refine ((h.trees i c' x' e1 e2).kept T (fun g e e2 => ?_)).more (fun g e => .inl e)
      rcases e2 with e2 | e2
      · have := h.newB g e
        omega
      · exact (h.apB g e).2 e2
    · have hi2 : i = cs.length := by
        have := List.getElem?_eq_some_iff.1 e1
        obtain ⟨hlt, _⟩ := this
        rw [List.length_append, List.length_singleton] at hlt
        omega
      subst hi2
      rw [List.getElem?_append_right (Nat.le_refl _), Nat.sub_self] at e1
      rw [h.len, List.getElem?_append_right (Nat.le_refl _), Nat.sub_self] at e2
      cases e1
      cases e2
      refine (tv.kept T (fun g e e2 => ?_)).more (fun g e => .inr e)
      rcases e2 with e2 | e2
      · have := hB2 g e
        omega
      · exact (hB2 g e).2.2.2 e2
  · intro g e
    have := T.size
    rcases e with e | e
    · have := h.newB g e
      omega
    · have := hB2 g e
      omega
  · intro g e
    have hgg : g < w7.heap.size ∧ v2.ownBlock ≠ some g ∧ (Value.slice a3 n3 c3).ownBlock ≠ some g := by
      rcases e with e | e
      · exact ⟨(h.newB g e).2, h.apB g e⟩
      · have := hB2 g e
        exact ⟨this.2.1, this.2.2.1, this.2.2.2⟩
    refine ⟨hgg.2.1, fun e1 => ?_⟩
    cases e1
    exact hgg.2.2 (hg9 hgg.1)
end Go.Proofs.YtabhlhgfacpohaaDoor
