/- Texts of this proof, one behind the other: what each says stands ahead of it. -/
import Derived.Test.YtjpmjcadnnglnaaDoorOa
/- A parser of JSON, plain: what any text tells; trees of values, and how they lie in memory; conditions: as told. -/
namespace Go.Proofs.YtjpmjcadnnglnaaDoor
open Go.RowKit
open Go.Lib

/-- A value. -/
inductive JV where
  | node (kind : Int) (text : ByteArray) (keys : List ByteArray) (kids : List JV) : JV
abbrev JR (α : Type) := Except (Nat × Nat) α
def isBl (c : UInt8) : Bool := decide (c.toNat = 32 ∨ c.toNat = 9 ∨ c.toNat = 10 ∨ c.toNat = 13)
/-- With how many blanks a text begins. -/
def bln : Bs → Nat
  | [] => 0
  | c :: cs => if isBl c = true then bln cs + 1 else 0
theorem bln_le : ∀ cs : Bs, bln cs ≤ cs.length
  | [] => Nat.le_refl _
  | c :: cs => by
    have := bln_le cs
    rw [bln]
    split
    · simp only [List.length_cons]; omega
    · exact Nat.zero_le _
/-- The place behind the blanks at a place. -/
def bl (s : ByteArray) (t : Nat) : Nat := t + bln (s.data.toList.drop t)
theorem bl_ge (s : ByteArray) (t : Nat) : t ≤ bl s t := Nat.le_add_right _ _
theorem bl_le (s : ByteArray) (t : Nat) (h : t ≤ s.size) : bl s t ≤ s.size := by
  have := bln_le (s.data.toList.drop t)
  rw [List.length_drop, size_list] at this
  unfold bl
  omega
def blank (x : Int) : Prop := x = 32 ∨ x = 9 ∨ x = 10 ∨ x = 13
instance (x : Int) : Decidable (blank x) := inferInstanceAs (Decidable (_ ∨ _ ∨ _ ∨ _))
theorem bl_at (s : ByteArray) (t : Nat) : bl s t = if blank (lk s t) then bl s (t + 1) else t := by
  by_cases h : t < s.size
  · have e : lk s t = (s[t].toNat : Int) := by unfold lk; rw [at_opt s t h]
    unfold bl
    rw [byte_at s t h, bln]
    have iff : isBl s[t] = true ↔ blank (lk s t) := by
      rw [e]
      unfold isBl blank
      rw [decide_eq_true_eq]
      omega
    by_cases hb : isBl s[t] = true
    · rw [if_pos hb, if_pos (iff.1 hb)]
      omega
    · rw [if_neg hb, if_neg (fun x => hb (iff.2 x))]
      omega
  · have e : lk s t = -1 := by unfold lk; rw [List.getElem?_eq_none (by rw [size_list]; omega)]
    rw [if_neg (by rw [e]; unfold blank; omega)]
    unfold bl
    rw [List.drop_eq_nil_of_le (by rw [size_list]; omega)]
    rfl
/-- More items, each behind a comma. -/
def pre (dn : List (ByteArray × JV)) : JR (List (ByteArray × JV) × Nat) → JR (List (ByteArray × JV) × Nat)
  | .error e => .error e
  | .ok (l, u) => .ok (dn ++ l, u)
theorem pre_pre (a b : List (ByteArray × JV)) (r : JR (List (ByteArray × JV) × Nat)) : pre a (pre b r) = pre (a ++ b) r := by
  match r with
  | .error e => rfl
  | .ok (l, u) => show Except.ok _ = Except.ok _; rw [List.append_assoc]
def tlF (s : ByteArray) (one : Nat → JR (ByteArray × JV × Nat)) : Nat → Nat → JR (List (ByteArray × JV) × Nat)
  | 0, u => .ok ([], u)
  | f + 1, u => if lk s u = 44 then
      match one (u + 1) with
      | .error e => .error e
      | .ok (k, x, v) => pre [(k, x)] (tlF s one f v)
    else .ok ([], u)
def endE (s : ByteArray) (cl : Int) : JR (List (ByteArray × JV) × Nat) → JR (List (ByteArray × JV) × Nat)
  | .error e => .error e
  | .ok (l, v) => if lk s v = cl then .ok (l, v + 1) else .error (20, v)
/-- What stands in brackets; the first one is known. -/
def rowE (s : ByteArray) (cl : Int) (one : Nat → JR (ByteArray × JV × Nat)) (t : Nat) : JR (List (ByteArray × JV) × Nat) :=
  if lk s (bl s (t + 1)) = cl then .ok ([], bl s (t + 1) + 1) else
    match one (bl s (t + 1)) with
    | .error e => .error e
    | .ok (k, x, u) => endE s cl (pre [(k, x)] (tlF s one s.size u))
def lstE (sub : Nat → JR (JV × Nat)) (t : Nat) : JR (ByteArray × JV × Nat) := match sub t with
  | .error e => .error e
  | .ok (x, u) => .ok (⟨#[]⟩, x, u)
def keyE (s : ByteArray) (sub : Nat → JR (JV × Nat)) (t : Nat) : JR (ByteArray × JV × Nat) := match quotE s (bl s t) with
  | .error k => .error (20, k)
  | .ok (o, u) => match needE s [58] (bl s u) with
    | .error k => .error (20, k)
    | .ok u2 => match sub u2 with
      | .error e => .error e
      | .ok (x, u3) => .ok (⟨o.toArray⟩, x, u3)
def kyL (kd : Int) (l : List (ByteArray × JV)) : List ByteArray := if kd = 6 then l.map Prod.fst else []
def oneE (s : ByteArray) (kd : Int) (sub : Nat → JR (JV × Nat)) : Nat → JR (ByteArray × JV × Nat) := if kd = 6 then keyE s sub else lstE sub
def nodeE (s : ByteArray) (kd cl : Int) (sub : Option (Nat → JR (JV × Nat))) (t : Nat) : JR (JV × Nat) := match sub with
  | none => .error (21, t)
  | some f => match rowE s cl (oneE s kd f) t with
    | .error e => .error e
    | .ok (l, u) => .ok (.node kd ⟨#[]⟩ (kyL kd l) (l.map Prod.snd), u)
def wordE (s : ByteArray) (p : Bs) (kd : Int) (t : Nat) : JR (JV × Nat) := match needE s p t with
  | .error k => .error (20, k)
  | .ok u => .ok (.node kd ⟨#[]⟩ [] [], u)
def textE (s : ByteArray) (t : Nat) : JR (JV × Nat) := match quotE s t with
  | .error k => .error (20, k)
  | .ok (o, u) => .ok (.node 4 ⟨o.toArray⟩ [] [], u)
def numbE (s : ByteArray) (t : Nat) : JR (JV × Nat) := match numE s t with
  | .error k => .error (20, k)
  | .ok u => .ok (.node 3 (s.extract t u) [] [], u)
/-- A value without blanks around it. -/
def bareE (s : ByteArray) (sub : Option (Nat → JR (JV × Nat))) (t : Nat) : JR (JV × Nat) :=
  if lk s t = 110 then wordE s [110, 117, 108, 108] 0 t
  else if lk s t = 102 then wordE s [102, 97, 108, 115, 101] 1 t
  else if lk s t = 116 then wordE s [116, 114, 117, 101] 2 t
  else if lk s t = 34 then textE s t
  else if lk s t = 91 then nodeE s 5 93 sub t
  else if lk s t = 123 then nodeE s 6 125 sub t
  else numbE s t
def valE (s : ByteArray) (sub : Option (Nat → JR (JV × Nat))) (t : Nat) : JR (JV × Nat) := match bareE s sub (bl s t) with
  | .error e => .error e
  | .ok (x, u) => .ok (x, bl s u)
/-- A value with the blanks around it; so many brackets may stand around one another in it. -/
def valF (s : ByteArray) : Nat → Nat → JR (JV × Nat)
  | 0, t => valE s none t
  | n + 1, t => valE s (some fun u => valF s n u) t

/-! ### Ends -/
def Fwd (s : ByteArray) (f : Nat → JR (JV × Nat)) : Prop := ∀ t x u, t ≤ s.size → f t = .ok (x, u) → t ≤ u ∧ u ≤ s.size
def Fwd3 (s : ByteArray) (f : Nat → JR (ByteArray × JV × Nat)) : Prop := ∀ t k x u, t ≤ s.size → f t = .ok (k, x, u) → t ≤ u ∧ u ≤ s.size
theorem qd_ok (s : ByteArray) : ∀ (k t : Nat) (out o : Bs) (u : Nat), t ≤ s.size → qdF s k t out = .ok (o, u) → t ≤ u ∧ u ≤ s.size
  | 0, t, out, o, u, _, h => by
    rw [qdF] at h
    cases h
  | k + 1, t, out, o, u, ht, h => by
    rw [qdF] at h
    split at h
    · rename_i e
      have := (lk_is (c := 34) e).1
      cases h
      omega
    · split at h
      · cases h
      · rename_i n1 n2
        have hlt : t < s.size := by
          rcases Nat.lt_or_ge t s.size with g | g
          · exact g
          · exfalso
            apply n2
            have : lk s t = -1 := by unfold lk; rw [List.getElem?_eq_none (by rw [size_list]; omega)]
            omega
        split at h
        · rename_i e92
          split at h
          · cases h
          · rename_i m v hE
            have := escE_ok e92 hE
            have := qd_ok s k v _ o u (by omega) h
            omega
        · have := qd_ok s k (t + 1) _ o u (by omega) h
          omega
theorem quot_fwd {s : ByteArray} {t u : Nat} {o : Bs} (ht : t ≤ s.size) (h : quotE s t = .ok (o, u)) : t ≤ u ∧ u ≤ s.size := by
  unfold quotE at h
  split at h
  · cases h
  · rename_i v hv
    have := need_ok s [34] t v ht hv
    have := qd_ok s _ v [] o u (by omega) h
    omega
theorem dgE_fwd {s : ByteArray} {t u : Nat} (h : dgE s t = .ok u) : t ≤ u := by
  unfold dgE at h
  split at h
  · cases h
  · cases h; omega
theorem stp_fwd (s : ByteArray) (t c : Nat) : t ≤ stp s t c := by unfold stp; split <;> omega
theorem num_fwd {s : ByteArray} {t u : Nat} (ht : t ≤ s.size) (h : numE s t = .ok u) : t ≤ u ∧ u ≤ s.size := by
  refine ⟨?_, num_le ht h⟩
  unfold numE at h
  split at h
  · cases h
  · rename_i a h1
    have g1 : t ≤ a := by
      have := stp_fwd s t 45
      unfold part1 at h1
      split at h1
      · cases h1; omega
      · have := dgE_fwd h1; omega
    split at h
    · cases h
    · rename_i c h2
      have g2 : a ≤ c := by
        unfold part2 at h2
        split at h2
        · have := dgE_fwd h2; omega
        · cases h2; omega
      have g3 : c ≤ u := by
        have hsg : ∀ x, x ≤ sgn s x := fun x => by unfold sgn; split; omega; exact stp_fwd s x 45
        unfold part3 at h
        split at h
        · have := dgE_fwd h; have := hsg (c + 1); omega
        · split at h
          · have := dgE_fwd h; have := hsg (c + 1); omega
          · cases h; omega
      omega
theorem tl_fwd {s : ByteArray} {one : Nat → JR (ByteArray × JV × Nat)} (H : Fwd3 s one) : ∀ (f u : Nat) (l : List (ByteArray × JV)) (v : Nat), u ≤ s.size → tlF s one f u = .ok (l, v) → u ≤ v ∧ v ≤ s.size
  | 0, u, l, v, hu, h => by
    rw [tlF] at h
    cases h
    omega
  | f + 1, u, l, v, hu, h => by
    rw [tlF] at h
    split at h
    · rename_i e
      have := (lk_is (c := 44) e).1
      split at h
      · cases h
      · rename_i k x z hz
        have g := H (u + 1) k x z (by omega) hz
        cases hr : tlF s one f z with
        | error e => rw [hr] at h; cases h
        | ok p =>
          obtain ⟨l', v'⟩ := p
          rw [hr] at h
          have := tl_fwd H f z l' v' g.2 hr
          cases h
          omega
    · cases h
      omega
theorem end_fwd {s : ByteArray} {cl : Nat} {r : JR (List (ByteArray × JV) × Nat)} {l : List (ByteArray × JV)} {u : Nat} (h : endE s cl r = .ok (l, u)) : ∃ v, r = .ok (l, v) ∧ lk s v = cl ∧ u = v + 1 := by
  match r, h with
  | .ok (l', v), h =>
    unfold endE at h
    simp only at h
    split at h
    · rename_i e
      cases h
      exact ⟨v, rfl, e, rfl⟩
    · cases h
theorem row_fwd {s : ByteArray} {cl : Nat} {one : Nat → JR (ByteArray × JV × Nat)} (H : Fwd3 s one) {t u : Nat} {l : List (ByteArray × JV)} (ht : t < s.size) (h : rowE s cl one t = .ok (l, u)) : t ≤ u ∧ u ≤ s.size := by
  have h1 := bl_ge s (t + 1)
  have h2 := bl_le s (t + 1) ht
  unfold rowE at h
  split at h
  · rename_i e
    have := (lk_is e).1
    cases h
    omega
  · split at h
    · cases h
    · rename_i k x z hz
      have g := H _ k x z h2 hz
      obtain ⟨v, hv, e, rfl⟩ := end_fwd h
      have := (lk_is e).1
      cases hr : tlF s one s.size z with
      | error e => rw [hr] at hv; cases hv
      | ok p =>
        obtain ⟨l', v'⟩ := p
        rw [hr] at hv
        have := tl_fwd H _ z l' v' g.2 hr
        cases hv
        omega
theorem one_fwd {s : ByteArray} {kd : Int} {sub : Nat → JR (JV × Nat)} (H : Fwd s sub) : Fwd3 s (oneE s kd sub) := by
  intro t k x u ht h
  unfold oneE at h
  split at h
  · unfold keyE at h
    have h1 := bl_ge s t
    have h2 := bl_le s t ht
    split at h
    · cases h
    · rename_i o a ha
      have h3 := quot_fwd h2 ha
      have h4 := bl_ge s a
      have h5 := bl_le s a h3.2
      split at h
      · cases h
      · rename_i c hc
        have h6 := need_ok s [58] _ c h5 hc
        split at h
        · cases h
        · rename_i y z hz
          have := H c y z h6.2 hz
          cases h
          omega
  · unfold lstE at h
    split at h
    · cases h
    · rename_i y z hz
      have := H t y z ht hz
      cases h
      exact this
theorem word_fwd {s : ByteArray} {p : Bs} {kd : Int} {t u : Nat} {x : JV} (ht : t ≤ s.size) (h : wordE s p kd t = .ok (x, u)) : t ≤ u ∧ u ≤ s.size := by
  unfold wordE at h
  split at h
  · cases h
  · rename_i v hv
    have := need_ok s p t v ht hv
    cases h
    omega
theorem node_fwd {s : ByteArray} {kd : Int} {cl : Nat} {sub : Option (Nat → JR (JV × Nat))} (H : ∀ f, sub = some f → Fwd s f) {t u : Nat} {x : JV} (ht : t < s.size) (h : nodeE s kd cl sub t = .ok (x, u)) : t ≤ u ∧ u ≤ s.size := by
  unfold nodeE at h
  split at h
  · cases h
  · rename_i f
    split at h
    · cases h
    · rename_i l v hv
      have := row_fwd (one_fwd (H f rfl)) ht hv
      cases h
      exact this
theorem bare_fwd {s : ByteArray} {sub : Option (Nat → JR (JV × Nat))} (H : ∀ f, sub = some f → Fwd s f) : Fwd s (bareE s sub) := by
  intro t x u ht h
  unfold bareE at h
  split at h
  · exact word_fwd ht h
  split at h
  · exact word_fwd ht h
  split at h
  · exact word_fwd ht h
  split at h
  · unfold textE at h
    split at h
    · cases h
    · rename_i o v hv
      have := quot_fwd ht hv
      cases h
      exact this
  split at h
  · rename_i e
    exact node_fwd (cl := 93) H (lk_is (c := 91) e).1 h
  split at h
  · rename_i e
    exact node_fwd (cl := 125) H (lk_is (c := 123) e).1 h
  · unfold numbE at h
    split at h
    · cases h
    · rename_i v hv
      have := num_fwd ht hv
      cases h
      exact this
theorem val_fwd {s : ByteArray} {sub : Option (Nat → JR (JV × Nat))} (H : ∀ f, sub = some f → Fwd s f) : Fwd s (valE s sub) := by
  intro t x u ht h
  unfold valE at h
  split at h
  · cases h
  · rename_i y v hv
    have h1 := bl_ge s t
    have h2 := bl_le s t ht
    have h3 := bare_fwd H _ y v h2 hv
    have h4 := bl_ge s v
    have h5 := bl_le s v h3.2
    cases h
    omega
theorem valF_fwd (s : ByteArray) : ∀ n, Fwd s (valF s n)
  | 0 => fun t x u ht h => val_fwd (sub := none) (fun f e => by cases e) t x u ht (by rw [valF] at h; exact h)
  | n + 1 => fun t x u ht h => val_fwd (sub := some fun u => valF s n u) (fun f e => by cases e; exact valF_fwd s n) t x u ht (by rw [valF] at h; exact h)
end Go.Proofs.YtjpmjcadnnglnaaDoor

/- A parser of JSON: trees of values in memory; a list or an object that is being read; conditions: as told. -/
namespace Go.Proofs.YtjpmjcadnnglnaaDoor
open Go.RowKit
open Go.Lib

/-- The four cells of a value. -/
structure Cel where
  k : Int
  t : ByteArray
  v2 : Value
  v3 : Value
def Cel.cells (c : Cel) : List Value := [.int .i64 c.k, .string c.t, c.v2, c.v3]
def CL (w : World) (v : Value) (cs : List Cel) : Prop := w.ownsRow 0 36 4 v cs.length (cs.flatMap Cel.cells)
/-- A tree lies in memory, in these blocks. -/
inductive TV (w : World) (B : Nat → Prop) : Cel → JV → Prop
  | mk (k : Int) (t : ByteArray) (v2 v3 : Value) (ks : List ByteArray) (kids : List JV) (cs : List Cel) (h2 : SL w v2 ks) (b2 : ∀ g, v2.ownBlock = some g → B g) (h3 : CL w v3 cs) (b3 : ∀ g, v3.ownBlock = some g → B g)
    (hl : cs.length = kids.length) (hk : ∀ (i : Nat) (c : Cel) (x : JV), cs[i]? = some c → kids[i]? = some x → TV w B c x) : TV w B ⟨k, t, v2, v3⟩ (.node k t ks kids)
theorem TV.kept {w w' : World} {B S : Nat → Prop} {c : Cel} {x : JV} (h : TV w B c x) (tc : Touch S w w') (hS : ∀ g, B g → ¬ S g) : TV w' B c x := by
  induction h with
  | mk k t v2 v3 ks kids cs h2 b2 h3 b3 hl hk ih => exact .mk k t v2 v3 ks kids cs (rowKept h2 tc (fun g e => hS g (b2 g e))) b2 (rowKept h3 tc (fun g e => hS g (b3 g e))) b3 hl ih
theorem TV.more {w : World} {B B' : Nat → Prop} {c : Cel} {x : JV} (h : TV w B c x) (hS : ∀ g, B g → B' g) : TV w B' c x := by
  induction h with
  | mk k t v2 v3 ks kids cs h2 b2 h3 b3 hl hk ih => exact .mk k t v2 v3 ks kids cs h2 (fun g e => hS g (b2 g e)) h3 (fun g e => hS g (b3 g e)) hl ih
theorem TV.leaf (w : World) (B : Nat → Prop) (k : Int) (t : ByteArray) : TV w B ⟨k, t, .slice none 0 0, .slice none 0 0⟩ (.node k t [] []) :=
  .mk k t _ _ [] [] [] (World.ownsRow_nil _ _ _ _) (fun g e => by cases e) (World.ownsRow_nil _ _ _ _) (fun g e => by cases e) rfl (fun i c x e => by cases e)
theorem own_lt {w : World} {e : TypeId} {sz n : Nat} {v : Value} {xs : List Value} (h : w.ownsRow 0 e sz v n xs) : ∀ g, v.ownBlock = some g → g < w.heap.size := by
  intro g eg
  rcases h.2 with ⟨hv, _⟩ | ⟨g2, _, _, hv, _, hh, _⟩
  · rw [hv] at eg
    cases eg
  · rw [hv] at eg
    cases eg
    exact lt_of_block hh
theorem Ps.setd2 {w : World} {b : Nat} {s : ByteArray} {t d : Nat} (h : Ps w b s t d) (d' : Nat) : Ps (w.setCell ⟨b, 2, none⟩ (.int .i64 (d' : Nat))) b s t d' := by
  have := block_set h 2 (.int .i64 (d' : Nat))
  exact this
theorem one_new2 {w : World} (v : Value) (t : TypeId) : (w.alloc (.cells #[v] t)).heap[w.heap.size]? = some (.cells #[v] t (0, 0)) := by
  show (w.heap.push _)[_]? = _
  simp
/-- What a value's reading answers. -/
def ValP (s : ByteArray) (b d : Nat) (w : World) : JR (JV × Nat) → Ending → World → Prop
  | .ok (x, u), e, w' => ∃ k t a2 n2 c2 a3 n3 c3 B, e = .returned (.agg #[.int .i64 k, .string t, .slice a2 n2 c2, .slice a3 n3 c3]) ∧ TV w' B ⟨k, t, .slice a2 n2 c2, .slice a3 n3 c3⟩ x ∧ (∀ g, B g → w.heap.size ≤ g ∧ g < w'.heap.size) ∧ Ps w' b s u d ∧ Touch (fun k => k = b) w w'
  | .error (c, k), e, w' => e = thrown c k ∧ Touch (fun k => k = b) w w'
/-- A list or an object that is being read: the parser, the box that holds it, the value, what it holds. -/
structure LS (w : World) (lo b bx q : Nat) (s : ByteArray) (t d : Nat) (kd : Int) (v2 v3 : Value) (ks : List ByteArray) (cs : List Cel) (xs : List JV) (B : Nat → Prop) : Prop where
  ps : Ps w b s t d
  box : w.heap[bx]? = some (.cells #[.pointer (some ⟨b, 0, none⟩)] 79 (0, 0))
  obj : w.heap[q]? = some (.cells #[.int .i64 kd, .string ⟨#[]⟩, v2, v3] 36 (0, 0))
  keys : SL w v2 ks
  kids : CL w v3 cs
  new2 : ∀ g, v2.ownBlock = some g → lo ≤ g
  new3 : ∀ g, v3.ownBlock = some g → lo ≤ g
  low : b < bx ∧ bx < q ∧ q < lo
  len : cs.length = xs.length
  trees : ∀ (i : Nat) (c : Cel) (x : JV), cs[i]? = some c → xs[i]? = some x → TV w B c x
  newB : ∀ g, B g → lo ≤ g ∧ g < w.heap.size
  apB : ∀ g, B g → v2.ownBlock ≠ some g ∧ v3.ownBlock ≠ some g
theorem LS.apart {w : World} {lo b bx q : Nat} {s : ByteArray} {t d : Nat} {kd : Int} {v2 v3 : Value} {ks : List ByteArray} {cs : List Cel} {xs : List JV} {B : Nat → Prop} (h : LS w lo b bx q s t d kd v2 v3 ks cs xs B) : ∀ g, v2.ownBlock = some g → v3.ownBlock ≠ some g := by
  intro g e2 e3
  rcases h.keys.2 with ⟨hv, _⟩ | ⟨g2, _, _, hv, _, hh, _⟩
  · rw [hv] at e2
    cases e2
  · rcases h.kids.2 with ⟨hv3, _⟩ | ⟨g3, _, _, hv3, _, hh3, _⟩
    · rw [hv3] at e3
      cases e3
    · rw [hv] at e2
      rw [hv3] at e3
      cases e2
      cases e3
      rw [hh] at hh3
      cases hh3
/-- What touches the parser alone. -/
theorem LS.goes {w w' : World} {lo b bx q : Nat} {s : ByteArray} {t t' d d' : Nat} {kd : Int} {v2 v3 : Value} {ks : List ByteArray} {cs : List Cel} {xs : List JV} {B : Nat → Prop} (h : LS w lo b bx q s t d kd v2 v3 ks cs xs B) (hp : Ps w' b s t' d') (tc : Touch (fun k => k = b) w w') : LS w' lo b bx q s t' d' kd v2 v3 ks cs xs B := by
  obtain ⟨l1, l2, l3⟩ := h.low
  exact ⟨hp, (tc.block bx (lt_of_block h.box) (by omega)).trans h.box, (tc.block q (lt_of_block h.obj) (by omega)).trans h.obj, rowKept h.keys tc (fun g e e2 => by have := h.new2 g e; omega), rowKept h.kids tc (fun g e e2 => by have := h.new3 g e; omega), h.new2, h.new3, h.low, h.len,
    fun i c x e1 e2 => (h.trees i c x e1 e2).kept tc (fun g e e2 => by have := h.newB g e; omega), fun g e => by have := h.newB g e; have := tc.size; omega, h.apB⟩
theorem LS.still {w w' : World} {lo b bx q : Nat} {s : ByteArray} {t d : Nat} {kd : Int} {v2 v3 : Value} {ks : List ByteArray} {cs : List Cel} {xs : List JV} {B : Nat → Prop} (h : LS w lo b bx q s t d kd v2 v3 ks cs xs B) (tc : Touch (fun _ => False) w w') : LS w' lo b bx q s t d kd v2 v3 ks cs xs B :=
  h.goes (h.ps.new tc) (tc.mono (fun _ _ e => e.elim))
theorem block_set2 {w : World} {q : Nat} {a b c d : Value} (h : w.heap[q]? = some (.cells #[a, b, c, d] 36 (0, 0))) (x : Value) : (w.setCell ⟨q, 2, none⟩ x).heap[q]? = some (.cells #[a, b, x, d] 36 (0, 0)) := block_set h 2 x
/-- A key was put behind. -/
theorem LS.keyed {w2 w3 : World} {lo b bx q : Nat} {s : ByteArray} {t d : Nat} {kd : Int} {a2 : Option Addr} {n2 c2 : Nat} {v3 : Value} {ks : List ByteArray} {cs : List Cel} {xs : List JV} {B : Nat → Prop} {K : ByteArray} {v' : Value} {o : Obj} (h : LS w2 lo b bx q s t d kd (.slice a2 n2 c2) v3 ks cs xs B) (hlo : lo ≤ w2.heap.size)
    (hn : n2 = ks.length) (hown : w3.ownsRow 0 9 1 v' (n2 + 1) (ks.map Value.string ++ [.string K])) (hg : (w2.alloc o).grownBy w3 (Value.slice a2 n2 c2).ownBlock) (hat : v'.ownBlock = (Value.slice a2 n2 c2).ownBlock ∨ v'.ownBlock = some (w2.heap.size + 1)) :
    LS (w3.setCell ⟨q, 2, none⟩ v') lo b bx q s t d kd v' v3 (ks ++ [K]) cs xs B ∧ Touch (fun k => k = q ∨ lo ≤ k) w2 (w3.setCell ⟨q, 2, none⟩ v') := by
  obtain ⟨l1, l2, l3⟩ := h.low
  have T : Touch (fun k => lo ≤ k) w2 w3 := Touch.grown ((Touch.refl _ w2).alloc o) hg (fun k e _ => h.new2 k e)
  have TG : Touch (fun k => (Value.slice a2 n2 c2).ownBlock = some k) w2 w3 := Touch.grown ((Touch.refl _ w2).alloc o) hg (fun k e _ => e)
  have N : ∀ g, v'.ownBlock = some g → lo ≤ g := by
    intro g e
    rcases hat with e2 | e2
    · exact h.new2 g (by rw [← e2]; exact e)
    · rw [e2] at e
      cases e
      omega
  have T3 : Touch (fun k => k = q) w3 (w3.setCell ⟨q, 2, none⟩ v') := Touch.setCell (S := fun k => k = q) (Touch.refl _ _) (p := ⟨q, 2, none⟩) (fun _ => rfl) v'
  have P3 : Ps w3 b s t d := (T.block b h.ps.lt (by omega)).trans h.ps
  have Q3 := (T.block q (lt_of_block h.obj) (by omega)).trans h.obj
  have B3 := (T.block bx (lt_of_block h.box) (by omega)).trans h.box
  have K3 : CL w3 v3 cs := rowKept h.kids TG (fun g e e2 => h.apart g e2 e)
  refine ⟨⟨(T3.block b P3.lt (by omega)).trans P3, (T3.block bx (lt_of_block B3) (by omega)).trans B3, block_set2 Q3 v', ?_, rowKept K3 T3 (fun g e e2 => by have := h.new3 g e; omega), N, h.new3, h.low, h.len, ?_, ?_, ?_⟩, ?_⟩
  · have := rowKept hown T3 (fun g e e2 => by have := N g e; omega)
    unfold SL
    rw [List.length_append, List.map_append, ← hn]
    exact this
  · intro i c x e1 e2
    exact ((h.trees i c x e1 e2).kept TG (fun g e => (h.apB g e).1)).kept T3 (fun g e e2 => by have := h.newB g e; omega)
  · intro g e
    have := h.newB g e
    have := TG.size
    have := T3.size
    omega
  · intro g e
    refine ⟨fun e1 => ?_, (h.apB g e).2⟩
    rcases hat with e2 | e2
    · exact (h.apB g e).1 (by rw [← e2]; exact e1)
    · rw [e2] at e1
      cases e1
      have := h.newB _ e
      omega
  · exact Touch.trans (T.mono (fun _ _ e => .inr e)) T3 (fun _ _ e => .inl e)
theorem cel_len (cs : List Cel) : (cs.flatMap Cel.cells).length = cs.length * 4 := by
  induction cs with
  | nil => rfl
  | cons a l ih => rw [List.flatMap_cons, List.length_append, ih, List.length_cons]; show 4 + _ = _; omega
theorem cels_at {n : Nat} {cs : List Cel} {zs : List Value} (h : n = cs.length) (j : Nat) : (cs.flatMap Cel.cells ++ zs)[n * 4 + j]? = zs[j]? := by
  rw [List.getElem?_append_right (by rw [cel_len, h]; omega), cel_len, h, Nat.add_sub_cancel_left]
theorem cel_set (cs : List Cel) (n : Nat) (c : Cel) (h : n = cs.length) : ((((cs.flatMap Cel.cells ++ ([.int .i64 0, .string ⟨#[]⟩, .slice none 0 0, .slice none 0 0] : List Value)).set (n * 4) (.int .i64 c.k)).set (n * 4 + 1) (.string c.t)).set (n * 4 + 2) c.v2).set (n * 4 + 3) c.v3 = (cs ++ [c]).flatMap Cel.cells := by
  have hl := cel_len cs
  rw [← h] at hl
  rw [List.flatMap_append]
  generalize cs.flatMap Cel.cells = L at *
  rw [List.set_append_right _ _ (by omega), List.set_append_right _ _ (by omega), List.set_append_right _ _ (by omega), List.set_append_right _ _ (by omega), hl]
  rw [Nat.sub_self, Nat.add_sub_cancel_left, Nat.add_sub_cancel_left, Nat.add_sub_cancel_left]
  rfl
theorem row_cel {w : World} {g n cap : Nat} {cs : List Cel} (c : Cel) (h : w.ownsRow 0 36 4 (.slice (some ⟨g, 0, none⟩) (n + 1) cap) (n + 1) (cs.flatMap Cel.cells ++ [.int .i64 0, .string ⟨#[]⟩, .slice none 0 0, .slice none 0 0])) (hn : n = cs.length) :
    ((((w.setCell ⟨g, n * 4, none⟩ (.int .i64 c.k)).setCell ⟨g, n * 4 + 1, none⟩ (.string c.t)).setCell ⟨g, n * 4 + 2, none⟩ c.v2).setCell ⟨g, n * 4 + 3, none⟩ c.v3).ownsRow 0 36 4 (.slice (some ⟨g, 0, none⟩) (n + 1) cap) (n + 1) ((cs ++ [c]).flatMap Cel.cells) := by
  have h1 := (h.stored (n * 4) (.int .i64 c.k)).1
  have h2 := (h1.stored (n * 4 + 1) (.string c.t)).1
  have h3 := (h2.stored (n * 4 + 2) c.v2).1
  have h4 := (h3.stored (n * 4 + 3) c.v3).1
  rw [cel_set cs n c hn] at h4
  exact h4
/-- A tree was put behind. -/
theorem LS.fin {w7 w8 : World} {lo b bx q : Nat} {s : ByteArray} {t d : Nat} {kd : Int} {v2 : Value} {a3 : Option Addr} {n3 c3 g8 c8 : Nat} {ks : List ByteArray} {cs : List Cel} {xs : List JV} {B B2 : Nat → Prop} {c : Cel} {x : JV} (h : LS w7 lo b bx q s t d kd v2 (.slice a3 n3 c3) ks cs xs B) (hn : n3 = cs.length) (hg8 : lo ≤ g8)
    (hg9 : g8 < w7.heap.size → (Value.slice a3 n3 c3).ownBlock = some g8) (ow : w8.ownsRow 0 36 4 (.slice (some ⟨g8, 0, none⟩) (n3 + 1) c8) (n3 + 1) (cs.flatMap Cel.cells ++ [.int .i64 0, .string ⟨#[]⟩, .slice none 0 0, .slice none 0 0])) (gt : Touch (fun k => (Value.slice a3 n3 c3).ownBlock = some k) w7 w8)
    (ob : w8.heap[q]? = some (.cells #[.int .i64 kd, .string ⟨#[]⟩, v2, .slice a3 n3 c3] 36 (0, 0))) (tv : TV w7 B2 c x) (hB2 : ∀ g, B2 g → lo ≤ g ∧ g < w7.heap.size ∧ v2.ownBlock ≠ some g ∧ (Value.slice a3 n3 c3).ownBlock ≠ some g) :
    LS (((((w8.setCell ⟨g8, n3 * 4, none⟩ (.int .i64 c.k)).setCell ⟨g8, n3 * 4 + 1, none⟩ (.string c.t)).setCell ⟨g8, n3 * 4 + 2, none⟩ c.v2).setCell ⟨g8, n3 * 4 + 3, none⟩ c.v3).setCell ⟨q, 3, none⟩ (.slice (some ⟨g8, 0, none⟩) (n3 + 1) c8)) lo b bx q s t d kd v2 (.slice (some ⟨g8, 0, none⟩) (n3 + 1) c8) ks (cs ++ [c]) (xs ++ [x]) (fun g => B g ∨ B2 g) ∧
    Touch (fun k => k = q ∨ lo ≤ k) w7 (((((w8.setCell ⟨g8, n3 * 4, none⟩ (.int .i64 c.k)).setCell ⟨g8, n3 * 4 + 1, none⟩ (.string c.t)).setCell ⟨g8, n3 * 4 + 2, none⟩ c.v2).setCell ⟨g8, n3 * 4 + 3, none⟩ c.v3).setCell ⟨q, 3, none⟩ (.slice (some ⟨g8, 0, none⟩) (n3 + 1) c8)) := by
  obtain ⟨l1, l2, l3⟩ := h.low
  have ne1 : ¬ g8 = q := by omega
  have ne2 : ¬ q = g8 := by omega
  have O9 := row_cel c ow hn
  have T9 := touch_four (S := fun k => k = q ∨ (Value.slice a3 n3 c3).ownBlock = some k) (gt.mono (fun _ _ e => .inr e)) (fun hl => .inr (hg9 hl)) (n3 * 4) (n3 * 4 + 1) (n3 * 4 + 2) (n3 * 4 + 3) (.int .i64 c.k) (.string c.t) c.v2 c.v3
  have B9 : ((((w8.setCell ⟨g8, n3 * 4, none⟩ (.int .i64 c.k)).setCell ⟨g8, n3 * 4 + 1, none⟩ (.string c.t)).setCell ⟨g8, n3 * 4 + 2, none⟩ c.v2).setCell ⟨g8, n3 * 4 + 3, none⟩ c.v3).heap[q]? = some (.cells #[.int .i64 kd, .string ⟨#[]⟩, v2, .slice a3 n3 c3] 36 (0, 0)) := by
    rw [Below.heap_setCell _ _ _ _ ne2, Below.heap_setCell _ _ _ _ ne2, Below.heap_setCell _ _ _ _ ne2, Below.heap_setCell _ _ _ _ ne2]
    exact ob
  generalize (((w8.setCell ⟨g8, n3 * 4, none⟩ (.int .i64 c.k)).setCell ⟨g8, n3 * 4 + 1, none⟩ (.string c.t)).setCell ⟨g8, n3 * 4 + 2, none⟩ c.v2).setCell ⟨g8, n3 * 4 + 3, none⟩ c.v3 = w9 at *
  have TQ := Touch.setCell (S := fun k => k = q) (Touch.refl _ w9) (p := ⟨q, 3, none⟩) (fun _ => rfl) (.slice (some ⟨g8, 0, none⟩) (n3 + 1) c8)
  have T := Touch.trans T9 TQ (fun _ _ e => .inl e)
  have O10 := rowKept O9 TQ (fun g e e2 => by cases e; exact ne1 e2)
  have hobj := block_set3 B9 (.slice (some ⟨g8, 0, none⟩) (n3 + 1) c8)
  generalize w9.setCell ⟨q, 3, none⟩ (.slice (some ⟨g8, 0, none⟩) (n3 + 1) c8) = w' at *
  have hb : ∀ k, k < lo → k ≠ q → ¬ (k = q ∨ (Value.slice a3 n3 c3).ownBlock = some k) := by
    intro k hk hq e
    rcases e with e | e
    · exact hq e
    · have := h.new3 k e
      omega
  refine ⟨⟨(T.block b h.ps.lt (hb b (by omega) (by omega))).trans h.ps, (T.block bx (lt_of_block h.box) (hb bx (by omega) (by omega))).trans h.box, hobj, ?_, ?_, h.new2, (fun g e => by cases e; exact hg8), h.low, by rw [List.length_append, List.length_append, h.len]; rfl, ?_, ?_, ?_⟩, T.mono (fun i _ e => by rcases e with e | e; exact .inl e; exact .inr (h.new3 i e))⟩
  · exact rowKept h.keys T (fun g e e2 => by
      rcases e2 with e2 | e2
      · have := h.new2 g e
        omega
      · exact h.apart g e e2)
  · unfold CL
    rw [List.length_append, List.length_singleton, ← hn]
    exact O10
  · intro i c' x' e1 e2
    by_cases hi : i < cs.length
    · rw [List.getElem?_append_left hi] at e1
      rw [List.getElem?_append_left (by rw [← h.len]; exact hi)] at e2
      refine ((h.trees i c' x' e1 e2).kept T (fun g e e2 => ?_)).more (fun g e => .inl e)
      rcases e2 with e2 | e2
      · have := h.newB g e
        omega
      · exact (h.apB g e).2 e2
    · have hi2 : i = cs.length := by
        have := List.getElem?_eq_some_iff.1 e1
        obtain ⟨hlt, _⟩ := this
        rw [List.length_append, List.length_singleton] at hlt
        omega
      subst hi2
      rw [List.getElem?_append_right (Nat.le_refl _), Nat.sub_self] at e1
      rw [h.len, List.getElem?_append_right (Nat.le_refl _), Nat.sub_self] at e2
      cases e1
      cases e2
      refine (tv.kept T (fun g e e2 => ?_)).more (fun g e => .inr e)
      rcases e2 with e2 | e2
      · have := hB2 g e
        omega
      · exact (hB2 g e).2.2.2 e2
  · intro g e
    have := T.size
    rcases e with e | e
    · have := h.newB g e
      omega
    · have := hB2 g e
      omega
  · intro g e
    have hgg : g < w7.heap.size ∧ v2.ownBlock ≠ some g ∧ (Value.slice a3 n3 c3).ownBlock ≠ some g := by
      rcases e with e | e
      · exact ⟨(h.newB g e).2, h.apB g e⟩
      · have := hB2 g e
        exact ⟨this.2.1, this.2.2.1, this.2.2.2⟩
    refine ⟨hgg.2.1, fun e1 => ?_⟩
    cases e1
    exact hgg.2.2 (hg9 hgg.1)
end Go.Proofs.YtjpmjcadnnglnaaDoor

/- A parser of JSON: blanks, of any text; conditions: as told. -/
namespace Go.Proofs.YtjpmjcadnnglnaaDoor
open Go.RowKit
open Go.Lib

theorem take_at (b : Nat) (s : ByteArray) (t d c : Nat) (w : World) (h : Ps w b s t d) (hs : s.size ≤ 1048576) (ht : t ≤ s.size) (hc : c < 256) (hn : lk s t = (c : Int)) :
    Calls Tryd.prog 55 #[.pointer (some ⟨b, 0, none⟩), .int .u8 (c : Nat)] w fun e w' => e = .returned (.bool true) ∧ Ps w' b s (t + 1) d ∧ Touch (fun k => k = b) w w' := by
  have k := take_any b s t d c w h hs ht hc
  rw [if_pos hn, decide_eq_true hn] at k
  exact k
set_option maxRecDepth 100000 in
set_option maxHeartbeats 8000000 in
theorem blanks_any (b : Nat) (s : ByteArray) (t d : Nat) (w : World) (h : Ps w b s t d) (hs : s.size ≤ 1048576) (ht : t ≤ s.size) :
    Calls Tryd.prog 44 #[.pointer (some ⟨b, 0, none⟩)] w fun e w' => e = .returned (.tuple #[]) ∧ Ps w' b s (bl s t) d ∧ Touch (fun k => k = b) w w' := by
  have HP := hid h
  have TW := hid (Touch.refl (fun k => k = b) w)
  obtain ⟨X, hX⟩ : ∃ X, X = bl s t := ⟨_, rfl⟩
  have HX := hid hX.symm
  rw [← hX]
  clear h hX
  go_enter Tryd.func44, Tryd.ntmps44
  go_wp2_with fail
  go_loopg [] (s.size - t) (fun gk wq => ∃ k : Nat, k + gk = s.size ∧ Hid (Ps wq b s k d) ∧ Hid (bl s k = X) ∧ Hid (Touch (fun k => k = b) w wq))
  case atStart => exact ⟨t, by omega, HP, HX, TW⟩
  case round =>
    obtain ⟨k, hk, HK, HB, TK⟩ := hrel
    clear HP TW HX
    have KY := hid (fun (c : Nat) (hc : c < 256) (hx : lk s k = (c : Int)) (w : World) (h : Ps w b s k d) => take_at b s k d c w h hs (by omega) hc hx)
    have KN := hid (fun (c : Nat) (hc : c < 256) (hx : lk s k ≠ (c : Int)) (w : World) (h : Ps w b s k d) => take_no b s k d c w h hs (by omega) hc hx)
    have HBA := hid (bl_at s k)
    have HLT := hid (fun (c : Nat) (h : lk s k = (c : Int)) => (lk_is h).1)
    generalize hx : lk s k = x at *
    clear hx
    by_cases n32 : x = ((32 : Nat) : Int)
    · go_wp2_with fail
      refine (KY.out 32 (by decide) n32 _ HK.out).mono ?_
      rintro e w1 ⟨rfl, hp, tt⟩
      have H1 := hid hp
      have T1 := hid (TK.out.trans tt (fun _ _ e => e))
      have HL := hid (HLT.out 32 n32)
      clear hp tt HK TK KY KN HLT
      go_wp2
      go_roundg (gk - 1)
      case measure => have := HL.out; omega
      case rel => exact ⟨k + 1, by have := HL.out; omega, H1, hid (by rw [← HB.out, HBA.out, if_pos (by unfold blank; omega)]), T1⟩
    by_cases n9 : x = ((9 : Nat) : Int)
    · go_wp2_with fail
      refine (KN.out 32 (by decide) n32 _ HK.out).mono ?_
      rintro e w1 ⟨rfl, hp, tt⟩
      replace HK := hid hp
      replace TK := hid (TK.out.trans tt (fun _ _ e => e))
      clear hp tt
      go_wp2_with fail
      refine (KY.out 9 (by decide) n9 _ HK.out).mono ?_
      rintro e w1 ⟨rfl, hp, tt⟩
      have H1 := hid hp
      have T1 := hid (TK.out.trans tt (fun _ _ e => e))
      have HL := hid (HLT.out 9 n9)
      clear hp tt HK TK KY KN HLT
      go_wp2
      go_roundg (gk - 1)
      case measure => have := HL.out; omega
      case rel => exact ⟨k + 1, by have := HL.out; omega, H1, hid (by rw [← HB.out, HBA.out, if_pos (by unfold blank; omega)]), T1⟩
    by_cases n10 : x = ((10 : Nat) : Int)
    · go_wp2_with fail
      refine (KN.out 32 (by decide) n32 _ HK.out).mono ?_
      rintro e w1 ⟨rfl, hp, tt⟩
      replace HK := hid hp
      replace TK := hid (TK.out.trans tt (fun _ _ e => e))
      clear hp tt
      go_wp2_with fail
      refine (KN.out 9 (by decide) n9 _ HK.out).mono ?_
      rintro e w1 ⟨rfl, hp, tt⟩
      replace HK := hid hp
      replace TK := hid (TK.out.trans tt (fun _ _ e => e))
      clear hp tt
      go_wp2_with fail
      refine (KY.out 10 (by decide) n10 _ HK.out).mono ?_
      rintro e w1 ⟨rfl, hp, tt⟩
      have H1 := hid hp
      have T1 := hid (TK.out.trans tt (fun _ _ e => e))
      have HL := hid (HLT.out 10 n10)
      clear hp tt HK TK KY KN HLT
      go_wp2
      go_roundg (gk - 1)
      case measure => have := HL.out; omega
      case rel => exact ⟨k + 1, by have := HL.out; omega, H1, hid (by rw [← HB.out, HBA.out, if_pos (by unfold blank; omega)]), T1⟩
    by_cases n13 : x = ((13 : Nat) : Int)
    · go_wp2_with fail
      refine (KN.out 32 (by decide) n32 _ HK.out).mono ?_
      rintro e w1 ⟨rfl, hp, tt⟩
      replace HK := hid hp
      replace TK := hid (TK.out.trans tt (fun _ _ e => e))
      clear hp tt
      go_wp2_with fail
      refine (KN.out 9 (by decide) n9 _ HK.out).mono ?_
      rintro e w1 ⟨rfl, hp, tt⟩
      replace HK := hid hp
      replace TK := hid (TK.out.trans tt (fun _ _ e => e))
      clear hp tt
      go_wp2_with fail
      refine (KN.out 10 (by decide) n10 _ HK.out).mono ?_
      rintro e w1 ⟨rfl, hp, tt⟩
      replace HK := hid hp
      replace TK := hid (TK.out.trans tt (fun _ _ e => e))
      clear hp tt
      go_wp2_with fail
      refine (KY.out 13 (by decide) n13 _ HK.out).mono ?_
      rintro e w1 ⟨rfl, hp, tt⟩
      have H1 := hid hp
      have T1 := hid (TK.out.trans tt (fun _ _ e => e))
      have HL := hid (HLT.out 13 n13)
      clear hp tt HK TK KY KN HLT
      go_wp2
      go_roundg (gk - 1)
      case measure => have := HL.out; omega
      case rel => exact ⟨k + 1, by have := HL.out; omega, H1, hid (by rw [← HB.out, HBA.out, if_pos (by unfold blank; omega)]), T1⟩
    go_wp2_with fail
    refine (KN.out 32 (by decide) n32 _ HK.out).mono ?_
    rintro e w1 ⟨rfl, hp, tt⟩
    replace HK := hid hp
    replace TK := hid (TK.out.trans tt (fun _ _ e => e))
    clear hp tt
    go_wp2_with fail
    refine (KN.out 9 (by decide) n9 _ HK.out).mono ?_
    rintro e w1 ⟨rfl, hp, tt⟩
    replace HK := hid hp
    replace TK := hid (TK.out.trans tt (fun _ _ e => e))
    clear hp tt
    go_wp2_with fail
    refine (KN.out 10 (by decide) n10 _ HK.out).mono ?_
    rintro e w1 ⟨rfl, hp, tt⟩
    replace HK := hid hp
    replace TK := hid (TK.out.trans tt (fun _ _ e => e))
    clear hp tt
    go_wp2_with fail
    refine (KN.out 13 (by decide) n13 _ HK.out).mono ?_
    rintro e w1 ⟨rfl, hp, tt⟩
    replace HK := hid hp
    replace TK := hid (TK.out.trans tt (fun _ _ e => e))
    clear hp tt
    go_wp2
    go_end0
    have E := HB.out
    rw [HBA.out, if_neg (by unfold blank; omega)] at E
    subst E
    exact ⟨rfl, HK.out, TK.out⟩
/-- A call as one step of a region that draws; what is thrown ends the region. -/
theorem step_call2 {P : Program} {ops : Array Oper} {o : Oper} {a : Act} {w : World} {K : Act → World → Prop} {Q : Exit → Act → World → Prop} {E : Prop} (hgd : o.guard = none) (f : FuncId) (opnds : Array Operand) (ats : Array TypeId)
    (ho : o.op = .call { callee := .value (.func f), args := opnds, argTypes := ats }) (vs : Array Value) (hvl : opnds.toList.map a.eval = vs.toList) (hen : ∀ args w, (callFunc f args).run P w = .ok (.enter f args) w)
    (R : Value → World → Prop) (R2 : List PanicEntry → World → Prop) (hc : Calls P f vs w (fun e w' => (∃ v, e = .returned v ∧ R v w') ∨ (∃ ps, e = .panicked ps ∧ R2 ps w'))) (hq : ∀ ps w', R2 ps w' → Q (.panic ps) a w') (h : ∀ v w', R v w' → K (a.put o.dst v) w') :
    if Region.wanted o (yielded ops a.tmps) = true then Oper.wp P o a w K Q else E := by
  have hw : Region.wanted o (yielded ops a.tmps) = true := by simp [Region.wanted, hgd]
  rw [if_pos hw]
  have hv : opnds.map a.eval = vs := by
    apply Array.toList_inj.1
    rw [Array.toList_map]
    exact hvl
  subst hv
  unfold Oper.wp execOp
  have e1 : a.eval (Operand.func f) = .func (.func f) #[] #[] := rfl
  simp only [ho, resolve, invoke, Sem.run_bind, Sem.run_pure, Result.andThen_ok, hen, e1, Deferred.ofValue, Array.empty_append, Array.append_empty]
  rw [Oper.upon_enter]
  refine hc.mono ?_
  rintro e w' (⟨v, rfl, hr⟩ | ⟨ps, rfl, hr⟩)
  · exact h v w' hr
  · exact hq ps w' hr
end Go.Proofs.YtjpmjcadnnglnaaDoor
