/- A parser of JSON, plain: what any text tells; trees of values, and how they lie in memory; conditions: as told. -/
import Derived.Test.YtabhlhgfacpohaaDoorOa
namespace Go.Proofs.YtabhlhgfacpohaaDoor
open Go.RowKit
open Go.Lib

/-- A value. -/
inductive JV where
  | node (kind : Int) (text : ByteArray) (keys : List ByteArray) (kids : List JV) : JV
abbrev JR (α : Type) := Except (Nat × Nat) α
def isBl (c : UInt8) : Bool := decide (c.toNat = 32 ∨ c.toNat = 9 ∨ c.toNat = 10 ∨ c.toNat = 13)
/-- With how many blanks a text begins. -/
def bln : Bs → Nat
  | [] => 0
  | c :: cs => if isBl c = true then bln cs + 1 else 0
theorem bln_le : ∀ cs : Bs, bln cs ≤ cs.length
  | [] => Nat.le_refl _
  | c :: cs => by
    have := bln_le cs
    rw [bln]
    split
    · simp only [List.length_cons]; omega
    · exact Nat.zero_le _
/-- The place behind the blanks at a place. -/
def bl (s : ByteArray) (t : Nat) : Nat := t + bln (s.data.toList.drop t)
theorem bl_ge (s : ByteArray) (t : Nat) : t ≤ bl s t := Nat.le_add_right _ _
theorem bl_le (s : ByteArray) (t : Nat) (h : t ≤ s.size) : bl s t ≤ s.size := by
  have := bln_le (s.data.toList.drop t)
  rw [List.length_drop, size_list] at this
  unfold bl
  omega
def blank (x : Int) : Prop := x = 32 ∨ x = 9 ∨ x = 10 ∨ x = 13
instance (x : Int) : Decidable (blank x) := inferInstanceAs (Decidable (_ ∨ _ ∨ _ ∨ _))
theorem bl_at (s : ByteArray) (t : Nat) : bl s t = if blank (lk s t) then bl s (t + 1) else t := by
  by_cases h : t < s.size
  · have e : lk s t = (s[t].toNat : Int) := by unfold lk; rw [at_opt s t h]
    unfold bl
    rw [byte_at s t h, bln]
    have iff : isBl s[t] = true ↔ blank (lk s t) := by
      rw [e]
      unfold isBl blank
      rw [decide_eq_true_eq]
      omega
    by_cases hb : isBl s[t] = true
    · rw [if_pos hb, if_pos (iff.1 hb)]
      omega
    · rw [if_neg hb, if_neg (fun x => hb (iff.2 x))]
      omega
  · have e : lk s t = -1 := by unfold lk; rw [List.getElem?_eq_none (by rw [size_list]; omega)]
    rw [if_neg (by rw [e]; unfold blank; omega)]
    unfold bl
    rw [List.drop_eq_nil_of_le (by rw [size_list]; omega)]
    rfl
/-- More items, each behind a comma. -/
def pre (dn : List (ByteArray × JV)) : JR (List (ByteArray × JV) × Nat) → JR (List (ByteArray × JV) × Nat)
  | .error e => .error e
  | .ok (l, u) => .ok (dn ++ l, u)
theorem pre_pre (a b : List (ByteArray × JV)) (r : JR (List (ByteArray × JV) × Nat)) : pre a (pre b r) = pre (a ++ b) r := by
  match r with
  | .error e => rfl
  | .ok (l, u) => show Except.ok _ = Except.ok _; rw [List.append_assoc]
def tlF (s : ByteArray) (one : Nat → JR (ByteArray × JV × Nat)) : Nat → Nat → JR (List (ByteArray × JV) × Nat)
  | 0, u => .ok ([], u)
  | f + 1, u => if lk s u = 44 then
      match one (u + 1) with
      | .error e => .error e
      | .ok (k, x, v) => pre [(k, x)] (tlF s one f v)
    else .ok ([], u)
def endE (s : ByteArray) (cl : Int) : JR (List (ByteArray × JV) × Nat) → JR (List (ByteArray × JV) × Nat)
  | .error e => .error e
  | .ok (l, v) => if lk s v = cl then .ok (l, v + 1) else .error (20, v)
/-- What stands in brackets; the first one is known. -/
def rowE (s : ByteArray) (cl : Int) (one : Nat → JR (ByteArray × JV × Nat)) (t : Nat) : JR (List (ByteArray × JV) × Nat) :=
  if lk s (bl s (t + 1)) = cl then .ok ([], bl s (t + 1) + 1) else
    match one (bl s (t + 1)) with
    | .error e => .error e
    | .ok (k, x, u) => endE s cl (pre [(k, x)] (tlF s one s.size u))
def lstE (sub : Nat → JR (JV × Nat)) (t : Nat) : JR (ByteArray × JV × Nat) := match sub t with
  | .error e => .error e
  | .ok (x, u) => .ok (⟨#[]⟩, x, u)
def keyE (s : ByteArray) (sub : Nat → JR (JV × Nat)) (t : Nat) : JR (ByteArray × JV × Nat) := match quotE s (bl s t) with
  | .error k => .error (20, k)
  | .ok (o, u) => match needE s [58] (bl s u) with
    | .error k => .error (20, k)
    | .ok u2 => match sub u2 with
      | .error e => .error e
      | .ok (x, u3) => .ok (⟨o.toArray⟩, x, u3)
def kyL (kd : Int) (l : List (ByteArray × JV)) : List ByteArray := if kd = 6 then l.map Prod.fst else []
def oneE (s : ByteArray) (kd : Int) (sub : Nat → JR (JV × Nat)) : Nat → JR (ByteArray × JV × Nat) := if kd = 6 then keyE s sub else lstE sub
def nodeE (s : ByteArray) (kd cl : Int) (sub : Option (Nat → JR (JV × Nat))) (t : Nat) : JR (JV × Nat) := match sub with
  | none => .error (21, t)
  | some f => match rowE s cl (oneE s kd f) t with
    | .error e => .error e
    | .ok (l, u) => .ok (.node kd ⟨#[]⟩ (kyL kd l) (l.map Prod.snd), u)
def wordE (s : ByteArray) (p : Bs) (kd : Int) (t : Nat) : JR (JV × Nat) := match needE s p t with
  | .error k => .error (20, k)
  | .ok u => .ok (.node kd ⟨#[]⟩ [] [], u)
def textE (s : ByteArray) (t : Nat) : JR (JV × Nat) := match quotE s t with
  | .error k => .error (20, k)
  | .ok (o, u) => .ok (.node 4 ⟨o.toArray⟩ [] [], u)
def numbE (s : ByteArray) (t : Nat) : JR (JV × Nat) := match numE s t with
  | .error k => .error (20, k)
  | .ok u => .ok (.node 3 (s.extract t u) [] [], u)
/-- A value without blanks around it. -/
def bareE (s : ByteArray) (sub : Option (Nat → JR (JV × Nat))) (t : Nat) : JR (JV × Nat) :=
  if lk s t = 110 then wordE s [110, 117, 108, 108] 0 t
  else if lk s t = 102 then wordE s [102, 97, 108, 115, 101] 1 t
  else if lk s t = 116 then wordE s [116, 114, 117, 101] 2 t
  else if lk s t = 34 then textE s t
  else if lk s t = 91 then nodeE s 5 93 sub t
  else if lk s t = 123 then nodeE s 6 125 sub t
  else numbE s t
def valE (s : ByteArray) (sub : Option (Nat → JR (JV × Nat))) (t : Nat) : JR (JV × Nat) := match bareE s sub (bl s t) with
  | .error e => .error e
  | .ok (x, u) => .ok (x, bl s u)
/-- A value with the blanks around it; so many brackets may stand around one another in it. -/
def valF (s : ByteArray) : Nat → Nat → JR (JV × Nat)
  | 0, t => valE s none t
  | n + 1, t => valE s (some fun u => valF s n u) t

/-! ### Ends -/
def Fwd (s : ByteArray) (f : Nat → JR (JV × Nat)) : Prop := ∀ t x u, t ≤ s.size → f t = .ok (x, u) → t ≤ u ∧ u ≤ s.size
def Fwd3 (s : ByteArray) (f : Nat → JR (ByteArray × JV × Nat)) : Prop := ∀ t k x u, t ≤ s.size → f t = .ok (k, x, u) → t ≤ u ∧ u ≤ s.size
theorem qd_ok (s : ByteArray) : ∀ (k t : Nat) (out o : Bs) (u : Nat), t ≤ s.size → qdF s k t out = .ok (o, u) → t ≤ u ∧ u ≤ s.size
  | 0, t, out, o, u, _, h => by
    rw [qdF] at h
    cases h
  | k + 1, t, out, o, u, ht, h => by
    rw [qdF] at h
    split at h
    · rename_i e
      have := (lk_is (c := 34) e).1
      cases h
      omega
    · split at h
      · cases h
      · rename_i n1 n2
        have hlt : t < s.size := by
          rcases Nat.lt_or_ge t s.size with g | g
          · exact g
          · exfalso
            apply n2
            have : lk s t = -1 := by unfold lk; rw [List.getElem?_eq_none (by rw [size_list]; omega)]
            omega
        split at h
        · rename_i e92
          split at h
          · cases h
          · rename_i m v hE
            have := escE_ok e92 hE
            have := qd_ok s k v _ o u (by omega) h
            omega
        · have := qd_ok s k (t + 1) _ o u (by omega) h
          omega
theorem quot_fwd {s : ByteArray} {t u : Nat} {o : Bs} (ht : t ≤ s.size) (h : quotE s t = .ok (o, u)) : t ≤ u ∧ u ≤ s.size := by
  unfold quotE at h
  split at h
  · cases h
  · rename_i v hv
    have := need_ok s [34] t v ht hv
    have := qd_ok s _ v [] o u (by omega) h
    omega
theorem dgE_fwd {s : ByteArray} {t u : Nat} (h : dgE s t = .ok u) : t ≤ u := by
  unfold dgE at h
  split at h
  · cases h
  · cases h; omega
theorem stp_fwd (s : ByteArray) (t c : Nat) : t ≤ stp s t c := by unfold stp; split <;> omega
theorem num_fwd {s : ByteArray} {t u : Nat} (ht : t ≤ s.size) (h : numE s t = .ok u) : t ≤ u ∧ u ≤ s.size := by
  refine ⟨?_, num_le ht h⟩
  unfold numE at h
  split at h
  · cases h
  · rename_i a h1
    have g1 : t ≤ a := by
      have := stp_fwd s t 45
      unfold part1 at h1
      split at h1
      · cases h1; omega
      · have := dgE_fwd h1; omega
    split at h
    · cases h
    · rename_i c h2
      have g2 : a ≤ c := by
        unfold part2 at h2
        split at h2
        · have := dgE_fwd h2; omega
        · cases h2; omega
      have g3 : c ≤ u := by
        have hsg : ∀ x, x ≤ sgn s x := fun x => by unfold sgn; split; omega; exact stp_fwd s x 45
        unfold part3 at h
        split at h
        · have := dgE_fwd h; have := hsg (c + 1); omega
        · split at h
          · have := dgE_fwd h; have := hsg (c + 1); omega
          · cases h; omega
      omega
theorem tl_fwd {s : ByteArray} {one : Nat → JR (ByteArray × JV × Nat)} (H : Fwd3 s one) : ∀ (f u : Nat) (l : List (ByteArray × JV)) (v : Nat), u ≤ s.size → tlF s one f u = .ok (l, v) → u ≤ v ∧ v ≤ s.size
  | 0, u, l, v, hu, h => by
    rw [tlF] at h
    cases h
    omega
  | f + 1, u, l, v, hu, h => by
    rw [tlF] at h
    split at h
    · rename_i e
      have := (lk_is (c := 44) e).1
      split at h
      · cases h
      · rename_i k x z hz
        have g := H (u + 1) k x z (by omega) hz
        cases hr : tlF s one f z with
        | error e => rw [hr] at h; cases h
        | ok p =>
          obtain ⟨l', v'⟩ := p
          rw [hr] at h
          have := tl_fwd H f z l' v' g.2 hr
          cases h
          omega
    · cases h
      omega
theorem end_fwd {s : ByteArray} {cl : Nat} {r : JR (List (ByteArray × JV) × Nat)} {l : List (ByteArray × JV)} {u : Nat} (h : endE s cl r = .ok (l, u)) : ∃ v, r = .ok (l, v) ∧ lk s v = cl ∧ u = v + 1 := by
  match r, h with
  | .ok (l', v), h =>
    unfold endE at h
    simp only at h
    split at h
    · rename_i e
      cases h
      exact ⟨v, rfl, e, rfl⟩
    · cases h
theorem row_fwd {s : ByteArray} {cl : Nat} {one : Nat → JR (ByteArray × JV × Nat)} (H : Fwd3 s one) {t u : Nat} {l : List (ByteArray × JV)} (ht : t < s.size) (h : rowE s cl one t = .ok (l, u)) : t ≤ u ∧ u ≤ s.size := by
  have h1 := bl_ge s (t + 1)
  have h2 := bl_le s (t + 1) ht
  unfold rowE at h
  split at h
  · rename_i e
    have := (lk_is e).1
    cases h
    omega
  · split at h
    · cases h
    · rename_i k x z hz
      have g := H _ k x z h2 hz
      obtain ⟨v, hv, e, rfl⟩ := end_fwd h
      have := (lk_is e).1
      cases hr : tlF s one s.size z with
      | error e => rw [hr] at hv; cases hv
      | ok p =>
        obtain ⟨l', v'⟩ := p
        rw [hr] at hv
        have := tl_fwd H _ z l' v' g.2 hr
        cases hv
        omega
theorem one_fwd {s : ByteArray} {kd : Int} {sub : Nat → JR (JV × Nat)} (H : Fwd s sub) : Fwd3 s (oneE s kd sub) := by
  intro t k x u ht h
  unfold oneE at h
  split at h
  · unfold keyE at h
    have h1 := bl_ge s t
    have h2 := bl_le s t ht
    split at h
    · cases h
    · rename_i o a ha
      have h3 := quot_fwd h2 ha
      have h4 := bl_ge s a
      have h5 := bl_le s a h3.2
      split at h
      · cases h
      · rename_i c hc
        have h6 := need_ok s [58] _ c h5 hc
        split at h
        · cases h
        · rename_i y z hz
          have := H c y z h6.2 hz
          cases h
          omega
  · unfold lstE at h
    split at h
    · cases h
    · rename_i y z hz
      have := H t y z ht hz
      cases h
      exact this
theorem word_fwd {s : ByteArray} {p : Bs} {kd : Int} {t u : Nat} {x : JV} (ht : t ≤ s.size) (h : wordE s p kd t = .ok (x, u)) : t ≤ u ∧ u ≤ s.size := by
  unfold wordE at h
  split at h
  · cases h
  · rename_i v hv
    have := need_ok s p t v ht hv
    cases h
    omega
theorem node_fwd {s : ByteArray} {kd : Int} {cl : Nat} {sub : Option (Nat → JR (JV × Nat))} (H : ∀ f, sub = some f → Fwd s f) {t u : Nat} {x : JV} (ht : t < s.size) (h : nodeE s kd cl sub t = .ok (x, u)) : t ≤ u ∧ u ≤ s.size := by
  unfold nodeE at h
  split at h
  · cases h
  · rename_i f
    split at h
    · cases h
    · rename_i l v hv
      have := row_fwd (one_fwd (H f rfl)) ht hv
      cases h
      exact this
theorem bare_fwd {s : ByteArray} {sub : Option (Nat → JR (JV × Nat))} (H : ∀ f, sub = some f → Fwd s f) : Fwd s (bareE s sub) := by
  intro t x u ht h
  unfold bareE at h
  split at h
  · exact word_fwd ht h
  split at h
  · exact word_fwd ht h
  split at h
  · exact word_fwd ht h
  split at h
  · unfold textE at h
    split at h
    · cases h
    · rename_i o v hv
      have := quot_fwd ht hv
      cases h
      exact this
  split at h
  · rename_i e
    exact node_fwd (cl := 93) H (lk_is (c := 91) e).1 h
  split at h
  · rename_i e
    exact node_fwd (cl := 125) H (lk_is (c := 123) e).1 h
  · unfold numbE at h
    split at h
    · cases h
    · rename_i v hv
      have := num_fwd ht hv
      cases h
      exact this
theorem val_fwd {s : ByteArray} {sub : Option (Nat → JR (JV × Nat))} (H : ∀ f, sub = some f → Fwd s f) : Fwd s (valE s sub) := by
  intro t x u ht h
  unfold valE at h
  split at h
  · cases h
  · rename_i y v hv
    have h1 := bl_ge s t
    have h2 := bl_le s t ht
    have h3 := bare_fwd H _ y v h2 hv
    have h4 := bl_ge s v
    have h5 := bl_le s v h3.2
    cases h
    omega
theorem valF_fwd (s : ByteArray) : ∀ n, Fwd s (valF s n)
  | 0 => fun t x u ht h => val_fwd (sub := none) (fun f e => by cases e) t x u ht (by rw [valF] at h; exact h)
  | n + 1 => fun t x u ht h => val_fwd (sub := some fun u => valF s n u) (fun f e => by cases e; exact valF_fwd s n) t x u ht (by rw [valF] at h; exact h)
end Go.Proofs.YtabhlhgfacpohaaDoor
