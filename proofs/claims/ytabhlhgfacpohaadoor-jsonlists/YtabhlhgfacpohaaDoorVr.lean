/- JSON, plain: a value that stands in another text is read there as it is read by itself, or too many brackets stand around one another there; no condition. -/
import Derived.Test.YtabhlhgfacpohaaDoorVq
namespace Go.Proofs.YtabhlhgfacpohaaDoor
open Go.RowKit
open Go.Lib

theorem tl_end2 {s : ByteArray} {one : Nat → JR (ByteArray × JV × Nat)} {f u : Nat} (h : lk s u ≠ 44) : tlF s one f u = .ok ([], u) := by
  match f with
  | 0 => rfl
  | f + 1 => rw [tlF, if_neg h]
/-- What is read, or too many brackets. -/
def Or21 {α : Type} (r : JR α) (x : α) : Prop := r = .ok x ∨ ∃ k, r = .error (21, k)
def Rel (s : ByteArray) (o : Nat) (f F : Nat → JR (JV × Nat)) : Prop := ∀ t x u, t ≤ s.size → f t = .ok (x, u) → Or21 (F (o + t)) (x, o + u)
def Rel3 (s : ByteArray) (o : Nat) (f F : Nat → JR (ByteArray × JV × Nat)) : Prop := ∀ t k x u, t ≤ s.size → f t = .ok (k, x, u) → Or21 (F (o + t)) (k, x, o + u)
/-- What is read isn't nothing. -/
def Some' (s : ByteArray) (f : Nat → JR (JV × Nat)) : Prop := ∀ t x u, t ≤ s.size → f t = .ok (x, u) → t < s.size
def Some3 (s : ByteArray) (f : Nat → JR (ByteArray × JV × Nat)) : Prop := ∀ t k x u, t ≤ s.size → f t = .ok (k, x, u) → t < s.size
theorem dgE_end {s : ByteArray} {t u : Nat} (e : dgE s t = .ok u) : t < s.size := by
  unfold dgE at e
  split at e
  · cases e
  · rename_i hz
    rcases Nat.lt_or_ge t s.size with g | g
    · exact g
    · rw [List.drop_eq_nil_of_le (by rw [size_list]; omega)] at hz
      exact absurd rfl hz
theorem bare_some (s : ByteArray) (sub : Option (Nat → JR (JV × Nat))) : Some' s (bareE s sub) := by
  intro t x u ht e
  rcases Nat.lt_or_ge t s.size with g | g
  · exact g
  · exfalso
    have hl := lk_out g
    unfold bareE at e
    rw [hl, if_neg (by omega), if_neg (by omega), if_neg (by omega), if_neg (by omega), if_neg (by omega), if_neg (by omega)] at e
    unfold numbE at e
    split at e
    · cases e
    · rename_i v hv
      unfold numE at hv
      split at hv
      · cases hv
      · rename_i a h1
        unfold part1 at h1
        rw [show stp s t 45 = t from if_neg (by rw [hl]; omega)] at h1
        rw [hl, if_neg (by omega)] at h1
        have := dgE_end h1
        omega
theorem val_some (s : ByteArray) (sub : Option (Nat → JR (JV × Nat))) : Some' s (valE s sub) := by
  intro t x u ht e
  unfold valE at e
  split at e
  · cases e
  · rename_i y v hv
    have := bare_some s sub _ y v (bl_le s t ht) hv
    have := bl_ge s t
    omega
theorem valF_some (s : ByteArray) (n : Nat) : Some' s (valF s n) := by
  intro t x u ht e
  match n with
  | 0 => rw [valF] at e; exact val_some s _ t x u ht e
  | n + 1 => rw [valF] at e; exact val_some s _ t x u ht e
theorem need_some {s : ByteArray} {c : UInt8} {p : Bs} {t u : Nat} (e : needE s (c :: p) t = .ok u) : t < s.size := by
  rw [needE] at e
  split at e
  · rename_i h
    exact lk_lt' h
  · cases e
theorem quot_some {s : ByteArray} {t u : Nat} {o : Bs} (e : quotE s t = .ok (o, u)) : t < s.size := by
  unfold quotE at e
  split at e
  · cases e
  · rename_i v hv
    exact need_some hv
theorem one_some {s : ByteArray} {kd : Int} {sub : Nat → JR (JV × Nat)} (H : Some' s sub) : Some3 s (oneE s kd sub) := by
  intro t k x u ht h
  unfold oneE at h
  split at h
  · unfold keyE at h
    split at h
    · cases h
    · rename_i o a ha
      have := quot_some ha
      have := bl_ge s t
      omega
  · unfold lstE at h
    split at h
    · cases h
    · rename_i y z hz
      exact H t y z ht hz
theorem Win.one {s S : ByteArray} {o : Nat} (h : Win s S o) (hoS : s.size ≤ S.size) {kd : Int} {f F : Nat → JR (JV × Nat)} (H : Rel s o f F) (_HF : Fwd s f) : Rel3 s o (oneE s kd f) (oneE S kd F) := by
  intro t k x u ht e
  unfold oneE at e ⊢
  split at e
  · rename_i hk
    rw [if_pos hk]
    unfold keyE at e ⊢
    rw [h.blank ht]
    have h2 := bl_le s t ht
    split at e
    · cases e
    · rename_i q a ha
      have h3 := quot_fwd h2 ha
      rw [h.quot hoS ha]
      simp only
      rw [h.blank h3.2]
      split at e
      · cases e
      · rename_i c hc
        have h6 := need_ok s [58] _ c (bl_le s a h3.2) hc
        rw [h.need _ _ _ hc]
        simp only
        split at e
        · cases e
        · rename_i y z hz
          cases e
          rcases H c _ _ h6.2 hz with g | ⟨j, g⟩
          · rw [g]
            exact .inl rfl
          · rw [g]
            exact .inr ⟨j, rfl⟩
  · rename_i hk
    rw [if_neg hk]
    unfold lstE at e ⊢
    split at e
    · cases e
    · rename_i y z hz
      cases e
      rcases H t _ _ ht hz with g | ⟨j, g⟩
      · rw [g]
        exact .inl rfl
      · rw [g]
        exact .inr ⟨j, rfl⟩
theorem Or21.pre {r : JR (List (ByteArray × JV) × Nat)} {l : List (ByteArray × JV)} {u : Nat} (h : Or21 r (l, u)) (a : List (ByteArray × JV)) : Or21 (pre a r) (a ++ l, u) := by
  rcases h with e | ⟨k, e⟩
  · rw [e]
    exact .inl rfl
  · rw [e]
    exact .inr ⟨k, rfl⟩
theorem Win.tl {s S : ByteArray} {o : Nat} (h : Win s S o) {one ONE : Nat → JR (ByteArray × JV × Nat)} (H : Rel3 s o one ONE) (HF : Fwd3 s one) {cl : Int} (hcl : cl = 93 ∨ cl = 125) : ∀ (f u : Nat) (l : List (ByteArray × JV)) (v : Nat), u ≤ s.size → tlF s one f u = .ok (l, v) → lk s v = cl → ∀ f', f ≤ f' → Or21 (tlF S ONE f' (o + u)) (l, o + v)
  | 0, u, l, v, hu, e, hv, f', hf => by
    rw [tlF] at e
    cases e
    have : lk S (o + u) = cl := h.yes hv (by omega)
    exact .inl (tl_end2 (by rw [this]; omega))
  | f + 1, u, l, v, hu, e, hv, f', hf => by
    obtain ⟨f'', rfl⟩ : ∃ f'', f' = f'' + 1 := ⟨f' - 1, by omega⟩
    rw [tlF] at e
    split at e
    · rename_i h44
      have hul := (lk_is (c := 44) h44).1
      rw [tlF, if_pos (h.yes h44 (by omega))]
      split at e
      · cases e
      · rename_i k x z hz
        have g := HF (u + 1) k x z (by omega) hz
        cases hr : tlF s one f z with
        | error e' => rw [hr] at e; cases e
        | ok p =>
          obtain ⟨l', v'⟩ := p
          rw [hr] at e
          cases e
          rcases H (u + 1) k x z (by omega) hz with q | ⟨j, q⟩
          · have q' : ONE (o + u + 1) = .ok (k, x, o + z) := q
            rw [q']
            exact (h.tl H HF hcl f z l' v g.2 hr hv f'' (by omega)).pre [(k, x)]
          · have q' : ONE (o + u + 1) = .error (21, j) := q
            rw [q']
            exact .inr ⟨j, rfl⟩
    · rename_i h44
      cases e
      have : lk S (o + u) = cl := h.yes hv (by omega)
      exact .inl (tl_end2 (by rw [this]; omega))
theorem Win.row {s S : ByteArray} {o : Nat} (h : Win s S o) (hoS : s.size ≤ S.size) {one ONE : Nat → JR (ByteArray × JV × Nat)} (H : Rel3 s o one ONE) (HF : Fwd3 s one) (HS : Some3 s one) {cl : Nat} (hcl : cl = 93 ∨ cl = 125) {t u : Nat} {l : List (ByteArray × JV)} (ht : t < s.size) (e : rowE s cl one t = .ok (l, u)) : Or21 (rowE S cl ONE (o + t)) (l, o + u) := by
  have hb := bl_le s (t + 1) ht
  unfold rowE at e ⊢
  rw [show o + t + 1 = o + (t + 1) from rfl, h.blank (t := t + 1) ht]
  split at e
  · rename_i hc
    cases e
    rw [if_pos (h.yes hc (by omega))]
    exact .inl rfl
  · rename_i hc
    split at e
    · cases e
    · rename_i k x z hz
      have hlt := HS _ k x z hb hz
      rw [h.at' _ hlt, if_neg hc]
      have g := HF _ k x z hb hz
      obtain ⟨v, hv, hvc, rfl⟩ := end_fwd e
      cases hr : tlF s one s.size z with
      | error e' => rw [hr] at hv; cases hv
      | ok p =>
        obtain ⟨l', v'⟩ := p
        rw [hr] at hv
        cases hv
        rcases H _ k x z hb hz with q | ⟨j, q⟩
        · rw [q]
          simp only
          rcases (h.tl H HF (cl := cl) (by omega) s.size z l' v g.2 hr hvc S.size hoS).pre [(k, x)] with q2 | ⟨j, q2⟩
          · rw [q2]
            left
            unfold endE
            simp only
            rw [if_pos (h.yes hvc (by omega))]
            rfl
          · rw [q2]
            exact .inr ⟨j, rfl⟩
        · rw [q]
          exact .inr ⟨j, rfl⟩
def RelO (s : ByteArray) (o : Nat) : Option (Nat → JR (JV × Nat)) → Option (Nat → JR (JV × Nat)) → Prop
  | _, none => True
  | none, some _ => True
  | some f, some F => Rel s o f F ∧ Fwd s f ∧ Some' s f
theorem Win.node {s S : ByteArray} {o : Nat} (h : Win s S o) (hoS : s.size ≤ S.size) {sub SUB : Option (Nat → JR (JV × Nat))} (H : RelO s o sub SUB) {kd : Int} {cl : Nat} (hcl : cl = 93 ∨ cl = 125) {t u : Nat} {x : JV} (ht : t < s.size) (e : nodeE s kd cl sub t = .ok (x, u)) : Or21 (nodeE S kd cl SUB (o + t)) (x, o + u) := by
  match sub, SUB, H with
  | none, _, _ => cases e
  | some f, none, _ => exact .inr ⟨_, rfl⟩
  | some f, some F, H =>
    unfold nodeE at e ⊢
    simp only at e ⊢
    split at e
    · cases e
    · rename_i l v hv
      cases e
      rcases h.row hoS (h.one hoS (kd := kd) H.1 H.2.1) (one_fwd H.2.1) (one_some H.2.2) hcl ht hv with q | ⟨j, q⟩
      · rw [q]
        exact .inl rfl
      · rw [q]
        exact .inr ⟨j, rfl⟩
theorem cut_eq {s S : ByteArray} {o : Nat} (h : Win s S o) (hoS : o + s.size ≤ S.size) {t u : Nat} (_h1 : t ≤ u) (h2 : u ≤ s.size) : S.extract (o + t) (o + u) = s.extract t u := by
  apply ByteArray.ext
  apply Array.ext_getElem?
  intro i
  rw [← Array.getElem?_toList, ← Array.getElem?_toList]
  rw [ByteArray.data_extract, ByteArray.data_extract]
  simp only [Array.toList_extract, List.extract_eq_take_drop, List.getElem?_take, List.getElem?_drop]
  rw [show o + u - (o + t) = u - t by omega]
  split
  · have e := h.at' (t + i) (by omega)
    have hS : o + (t + i) < S.size := by omega
    have hs : t + i < s.size := by omega
    unfold lk at e
    rw [at_opt S _ hS, at_opt s _ hs] at e
    simp only at e
    rw [show o + t + i = o + (t + i) by omega, at_opt S _ hS, at_opt s _ hs]
    congr 1
    apply UInt8.toNat_inj.1
    omega
  · rfl
theorem Win.word {s S : ByteArray} {o : Nat} (h : Win s S o) {p : Bs} {kd : Int} {t u : Nat} {x : JV} (e : wordE s p kd t = .ok (x, u)) : Or21 (wordE S p kd (o + t)) (x, o + u) := by
  unfold wordE at e ⊢
  split at e
  · cases e
  · rename_i v hv
    cases e
    rw [h.need _ _ _ hv]
    exact .inl rfl
theorem Win.bare {s S : ByteArray} {o : Nat} (h : Win s S o) (hoS : o + s.size ≤ S.size) {sub SUB : Option (Nat → JR (JV × Nat))} (H : RelO s o sub SUB) : Rel s o (bareE s sub) (bareE S SUB) := by
  intro t x u ht e
  have hlt := bare_some s sub t x u ht e
  have hl := h.at' t hlt
  unfold bareE at e ⊢
  rw [hl]
  split at e
  · rename_i c
    rw [if_pos c]
    exact h.word e
  rename_i n1
  rw [if_neg n1]
  split at e
  · rename_i c
    rw [if_pos c]
    exact h.word e
  rename_i n2
  rw [if_neg n2]
  split at e
  · rename_i c
    rw [if_pos c]
    exact h.word e
  rename_i n3
  rw [if_neg n3]
  split at e
  · rename_i c
    rw [if_pos c]
    unfold textE at e ⊢
    split at e
    · cases e
    · rename_i q v hv
      cases e
      rw [h.quot (by omega) hv]
      exact .inl rfl
  rename_i n4
  rw [if_neg n4]
  split at e
  · rename_i c
    rw [if_pos c]
    exact h.node (by omega) H (cl := 93) (.inl rfl) hlt e
  rename_i n5
  rw [if_neg n5]
  split at e
  · rename_i c
    rw [if_pos c]
    exact h.node (by omega) H (cl := 125) (.inr rfl) hlt e
  rename_i n6
  rw [if_neg n6]
  unfold numbE at e ⊢
  split at e
  · cases e
  · rename_i v hv
    have := num_fwd ht hv
    cases e
    rw [h.num ht hv]
    left
    simp only
    rw [cut_eq h hoS this.1 this.2]
theorem Win.val {s S : ByteArray} {o : Nat} (h : Win s S o) (hoS : o + s.size ≤ S.size) {sub SUB : Option (Nat → JR (JV × Nat))} (H : RelO s o sub SUB) (HF : ∀ f, sub = some f → Fwd s f) : Rel s o (valE s sub) (valE S SUB) := by
  intro t x u ht e
  unfold valE at e ⊢
  rw [h.blank ht]
  split at e
  · cases e
  · rename_i y v hv
    have h2 := bare_fwd HF _ y v (bl_le s t ht) hv
    cases e
    rcases h.bare hoS H _ x v (bl_le s t ht) hv with q | ⟨j, q⟩
    · rw [q]
      left
      simp only
      rw [h.blank h2.2]
    · rw [q]
      exact .inr ⟨j, rfl⟩
theorem Win.valF {s S : ByteArray} {o : Nat} (h : Win s S o) (hoS : o + s.size ≤ S.size) : ∀ (n m : Nat), Rel s o (valF s n) (valF S m)
  | 0, 0 => fun t x u ht e => by
    exact h.val hoS (sub := none) (SUB := none) trivial (fun f e => by cases e) t x u ht e
  | 0, m + 1 => fun t x u ht e => by
    exact h.val hoS (sub := none) (SUB := some fun u => Go.Proofs.YtabhlhgfacpohaaDoor.valF S m u) trivial (fun f e => by cases e) t x u ht e
  | n + 1, 0 => fun t x u ht e => by
    exact h.val hoS (sub := some fun u => Go.Proofs.YtabhlhgfacpohaaDoor.valF s n u) (SUB := none) trivial (fun f e => by cases e; exact valF_fwd s n) t x u ht e
  | n + 1, m + 1 => fun t x u ht e => by
    exact h.val hoS (sub := some fun u => Go.Proofs.YtabhlhgfacpohaaDoor.valF s n u) (SUB := some fun u => Go.Proofs.YtabhlhgfacpohaaDoor.valF S m u) ⟨h.valF hoS n m, valF_fwd s n, valF_some s n⟩ (fun f e => by cases e; exact valF_fwd s n) t x u ht e
end Go.Proofs.YtabhlhgfacpohaaDoor
