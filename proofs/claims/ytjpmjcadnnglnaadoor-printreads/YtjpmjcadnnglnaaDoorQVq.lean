/- Texts of this proof, one behind the other: what each says stands ahead of it. -/
import Derived.Test.YtjpmjcadnnglnaaDoorQVa
import Derived.Test.YtjpmjcadnnglnaaDoorQVl
import Derived.Test.YtjpmjcadnnglnaaDoorM15
/- JSON, plain: a text that stands in another one is read there as it is read by itself, or too many brackets stand around one another there; no condition. -/
namespace Go.Proofs.YtjpmjcadnnglnaaDoor
open Go.RowKit
open Go.Lib

/-- A text stands in another one, with a comma or a bracket behind it. -/
structure Win (s S : ByteArray) (o : Nat) : Prop where
  at' : ∀ i, i < s.size → lk S (o + i) = lk s i
  fin : lk S (o + s.size) = 44 ∨ lk S (o + s.size) = 93
theorem lk_out {s : ByteArray} {t : Nat} (h : s.size ≤ t) : lk s t = -1 := by
  unfold lk
  rw [List.getElem?_eq_none (by rw [size_list]; omega)]
theorem lk_in2 {s : ByteArray} {t : Nat} (h : lk s t ≠ -1) : t < s.size := by
  rcases Nat.lt_or_ge t s.size with g | g
  · exact g
  · exact absurd (lk_out g) h
theorem Win.two {s S : ByteArray} {o : Nat} (h : Win s S o) {t : Nat} (ht : t ≤ s.size) : lk S (o + t) = lk s t ∨ (lk s t = -1 ∧ (lk S (o + t) = 44 ∨ lk S (o + t) = 93)) := by
  rcases Nat.lt_or_ge t s.size with g | g
  · exact .inl (h.at' t g)
  · have : t = s.size := by omega
    subst this
    exact .inr ⟨lk_out g, h.fin⟩
theorem Win.yes {s S : ByteArray} {o : Nat} (h : Win s S o) {t : Nat} {c : Int} (hc : lk s t = c) (h1 : c ≠ -1) : lk S (o + t) = c := by
  rw [h.at' t (lk_in2 (by rw [hc]; exact h1))]
  exact hc
theorem Win.eq {s S : ByteArray} {o : Nat} (h : Win s S o) {t : Nat} (h1 : lk s t ≠ -1) : lk S (o + t) = lk s t := h.at' t (lk_in2 h1)
theorem Win.iff {s S : ByteArray} {o : Nat} (h : Win s S o) {t : Nat} (ht : t ≤ s.size) (c : Int) (h1 : c ≠ -1) (h2 : c ≠ 44) (h3 : c ≠ 93) : lk S (o + t) = c ↔ lk s t = c := by
  rcases h.two ht with e | ⟨e1, e2⟩
  · rw [e]
  · rw [e1]
    omega
theorem Win.bl {s S : ByteArray} {o : Nat} (h : Win s S o) : ∀ (n t : Nat), t + n = s.size → bl S (o + t) = o + bl s t
  | 0, t, ht => by
    rw [bl_at S, bl_at s, if_neg (by rcases h.two (t := t) (by omega) with e | ⟨e1, e2⟩; rw [e, lk_out (by omega)]; unfold blank; omega; unfold blank; omega), if_neg (by rw [lk_out (by omega)]; unfold blank; omega)]
  | n + 1, t, ht => by
    have e := h.at' t (by omega)
    rw [bl_at S, bl_at s, e]
    split
    · have := h.bl n (t + 1) (by omega)
      rw [← this]
      rfl
    · rfl
theorem Win.blank {s S : ByteArray} {o : Nat} (h : Win s S o) {t : Nat} (ht : t ≤ s.size) : Go.Proofs.YtjpmjcadnnglnaaDoor.bl S (o + t) = o + Go.Proofs.YtjpmjcadnnglnaaDoor.bl s t := h.bl (s.size - t) t (by omega)
theorem Win.need {s S : ByteArray} {o : Nat} (h : Win s S o) : ∀ (p : Bs) (t u : Nat), needE s p t = .ok u → needE S p (o + t) = .ok (o + u)
  | [], t, u, e => by
    rw [needE] at e ⊢
    cases e
    rfl
  | c :: p, t, u, e => by
    rw [needE] at e ⊢
    split at e
    · rename_i hc
      rw [if_pos (h.yes hc (by omega))]
      have := h.need p (t + 1) u e
      rw [← this]
      rfl
    · cases e
theorem dg_at (s : ByteArray) (t : Nat) : dgn (s.data.toList.drop t) = if 48 ≤ lk s t ∧ lk s t ≤ 57 then dgn (s.data.toList.drop (t + 1)) + 1 else 0 := by
  by_cases h : t < s.size
  · have e : lk s t = (s[t].toNat : Int) := by unfold lk; rw [at_opt s t h]
    rw [byte_at s t h, dgn]
    have iff := dig_iff s[t]
    by_cases hb : digB s[t] = true
    · rw [if_pos hb, if_pos (by have := iff.1 hb; omega)]
    · rw [if_neg hb, if_neg (fun x => hb (iff.2 (by omega)))]
  · rw [if_neg (by rw [lk_out (by omega)]; omega), List.drop_eq_nil_of_le (by rw [size_list]; omega)]
    rfl
theorem Win.dgn {s S : ByteArray} {o : Nat} (h : Win s S o) : ∀ (n t : Nat), t + n = s.size → dgn (S.data.toList.drop (o + t)) = dgn (s.data.toList.drop t)
  | 0, t, ht => by
    rw [dg_at S, dg_at s, if_neg (by rcases h.two (t := t) (by omega) with e | ⟨e1, e2⟩; rw [e, lk_out (by omega)]; omega; omega), if_neg (by rw [lk_out (by omega)]; omega)]
  | n + 1, t, ht => by
    have e := h.at' t (by omega)
    rw [dg_at S, dg_at s, e, show o + t + 1 = o + (t + 1) from rfl, h.dgn n (t + 1) (by omega)]
theorem Win.dgE {s S : ByteArray} {o : Nat} (h : Win s S o) {t u : Nat} (ht : t ≤ s.size) (e : dgE s t = .ok u) : dgE S (o + t) = .ok (o + u) := by
  have := h.dgn (s.size - t) t (by omega)
  unfold Go.Proofs.YtjpmjcadnnglnaaDoor.dgE at e ⊢
  rw [this]
  split at e
  · cases e
  · rename_i hz
    cases e
    rw [if_neg hz, Nat.add_assoc]
theorem Win.stp {s S : ByteArray} {o : Nat} (h : Win s S o) {t : Nat} (ht : t ≤ s.size) (c : Nat) (h2 : c ≠ 44) (h3 : c ≠ 93) : stp S (o + t) c = o + stp s t c := by
  unfold Go.Proofs.YtjpmjcadnnglnaaDoor.stp
  have := h.iff ht (c : Int) (by omega) (by omega) (by omega)
  by_cases hc : lk s t = (c : Int)
  · rw [if_pos hc, if_pos (this.2 hc), Nat.add_assoc]
  · rw [if_neg hc, if_neg (fun x => hc (this.1 x))]
theorem Win.sgn {s S : ByteArray} {o : Nat} (h : Win s S o) {t : Nat} (ht : t ≤ s.size) : sgn S (o + t) = o + sgn s t := by
  unfold Go.Proofs.YtjpmjcadnnglnaaDoor.sgn
  have := h.iff ht 43 (by omega) (by omega) (by omega)
  by_cases hc : lk s t = 43
  · rw [if_pos hc, if_pos (this.2 hc), Nat.add_assoc]
  · rw [if_neg hc, if_neg (fun x => hc (this.1 x)), h.stp ht 45 (by omega) (by omega)]
theorem Win.num {s S : ByteArray} {o : Nat} (h : Win s S o) {t u : Nat} (ht : t ≤ s.size) (e : numE s t = .ok u) : numE S (o + t) = .ok (o + u) := by
  unfold numE at e ⊢
  split at e
  · cases e
  · rename_i a h1
    have ha := part1_le ht h1
    have hs := stp_le s t 45 ht
    have e1 : part1 S (o + t) = .ok (o + a) := by
      unfold part1 at h1 ⊢
      rw [h.stp ht 45 (by omega) (by omega)]
      have := h.iff hs.2 48 (by omega) (by omega) (by omega)
      split at h1
      · rename_i hc
        cases h1
        rw [if_pos (this.2 hc), Nat.add_assoc]
      · rename_i hc
        rw [if_neg (fun x => hc (this.1 x))]
        exact h.dgE hs.2 h1
    rw [e1]
    simp only
    split at e
    · cases e
    · rename_i c h2
      have hc' := part2_le ha h2
      have e2 : part2 S (o + a) = .ok (o + c) := by
        unfold part2 at h2 ⊢
        have := h.iff ha 46 (by omega) (by omega) (by omega)
        split at h2
        · rename_i hc
          rw [if_pos (this.2 hc)]
          exact h.dgE (t := a + 1) (by have := (lk_is (c := 46) hc).1; omega) h2
        · rename_i hc
          cases h2
          rw [if_neg (fun x => hc (this.1 x))]
      rw [e2]
      simp only
      unfold part3 at e ⊢
      have i1 := h.iff hc' 101 (by omega) (by omega) (by omega)
      have i2 := h.iff hc' 69 (by omega) (by omega) (by omega)
      split at e
      · rename_i hx
        have hl := (lk_is (c := 101) hx).1
        rw [if_pos (i1.2 hx), show o + c + 1 = o + (c + 1) from rfl, h.sgn (t := c + 1) (by omega)]
        exact h.dgE (sgn_le (by omega)) e
      · rename_i hx
        rw [if_neg (fun x => hx (i1.1 x))]
        split at e
        · rename_i hy
          have hl := (lk_is (c := 69) hy).1
          rw [if_pos (i2.2 hy), show o + c + 1 = o + (c + 1) from rfl, h.sgn (t := c + 1) (by omega)]
          exact h.dgE (sgn_le (by omega)) e
        · rename_i hy
          cases e
          rw [if_neg (fun x => hy (i2.1 x))]
theorem Win.un {s S : ByteArray} {o : Nat} (h : Win s S o) : ∀ (k t n m u : Nat), unF s k t n = .ok (m, u) → unF S k (o + t) n = .ok (m, o + u)
  | 0, t, n, m, u, e => by
    rw [unF] at e ⊢
    cases e
    rfl
  | k + 1, t, n, m, u, e => by
    rw [unF] at e ⊢
    split at e
    · cases e
    · rename_i hx
      have hl := hexV_lt hx
      rw [h.at' t hl, if_neg hx]
      have := h.un k (t + 1) _ m u e
      rw [← this]
      rfl
theorem Win.isU {s S : ByteArray} {o : Nat} (h : Win s S o) {t : Nat} (ht : t ≤ s.size) : isU S (o + t) = isU s t := by
  unfold Go.Proofs.YtjpmjcadnnglnaaDoor.isU
  have i1 := h.iff ht 92 (by omega) (by omega) (by omega)
  by_cases hc : lk s t = 92
  · have hl := (lk_is (c := 92) hc).1
    have i2 := h.iff (t := t + 1) (by omega) 117 (by omega) (by omega) (by omega)
    rw [decide_eq_true hc, decide_eq_true (i1.2 hc), show o + t + 1 = o + (t + 1) from rfl]
    congr 1
    exact decide_eq_decide.2 i2
  · rw [decide_eq_false hc, decide_eq_false (fun x => hc (i1.1 x))]
    rfl
theorem Win.us {s S : ByteArray} {o : Nat} (h : Win s S o) : ∀ (k t : Nat) (us0 us : List Nat) (u : Nat), t ≤ s.size → s.size ≤ t + k → usF s k t us0 = .ok (us, u) → ∀ k', s.size ≤ t + k' → usF S k' (o + t) us0 = .ok (us, o + u)
  | 0, t, us0, us, u, ht, hk, e, k', hk' => by
    rw [usF] at e
    cases e
    have hf : Go.Proofs.YtjpmjcadnnglnaaDoor.isU S (o + t) = false := by
      rw [h.isU ht]
      unfold Go.Proofs.YtjpmjcadnnglnaaDoor.isU
      rw [lk_out (by omega)]
      rfl
    match k' with
    | 0 => rw [usF]
    | k' + 1 => rw [usF, hf]; rfl
  | k + 1, t, us0, us, u, ht, hk, e, k', hk' => by
    rw [usF] at e
    have hi := h.isU ht
    split at e
    · rename_i hu
      have h4 := isU_iff hu
      obtain ⟨k'', rfl⟩ : ∃ k'', k' = k'' + 1 := ⟨k' - 1, by omega⟩
      rw [usF, hi, if_pos hu]
      split at e
      · cases e
      · rename_i n v hv
        have hk2 := unitE_ok hv
        have : unitE S (o + t + 2) = .ok (n, o + v) := h.un 4 (t + 2) 0 n v hv
        rw [this]
        simp only
        exact h.us k v _ us u hk2.2.2 (by omega) e k'' (by omega)
    · rename_i hu
      cases e
      match k' with
      | 0 => rw [usF]
      | k' + 1 => rw [usF, hi, if_neg hu]
theorem Win.esc {s S : ByteArray} {o : Nat} (h : Win s S o) (hoS : s.size ≤ S.size) {t u : Nat} {m : Bs} (h92 : lk s t = 92) (e : escE s t = .ok (m, u)) : escE S (o + t) = .ok (m, o + u) := by
  have hl := (lk_is (c := 92) h92).1
  unfold escE at e ⊢
  rw [h.isU (by omega)]
  split at e
  · rename_i hu
    rw [if_pos hu]
    unfold usE at e ⊢
    split at e
    · cases e
    · rename_i us v hv
      rw [h.us s.size t [] us v (by omega) (by omega) hv S.size (by omega)]
      cases e
      rfl
  · rename_i hu
    rw [if_neg hu]
    split at e
    · rename_i c hc
      cases e
      have hne : lk s (t + 1) ≠ -1 := by
        intro x
        rw [x] at hc
        unfold letB at hc
        rw [if_pos rfl] at hc
        cases hc
      rw [show o + t + 1 = o + (t + 1) from rfl, h.eq hne, hc]
      rfl
    · cases e
theorem Win.qd {s S : ByteArray} {o : Nat} (h : Win s S o) (hoS : s.size ≤ S.size) : ∀ (k t : Nat) (out q : Bs) (u : Nat), qdF s k t out = .ok (q, u) → ∀ k', k ≤ k' → qdF S k' (o + t) out = .ok (q, o + u)
  | 0, t, out, q, u, e, k', hk => by
    rw [qdF] at e
    cases e
  | k + 1, t, out, q, u, e, k', hk => by
    obtain ⟨k'', rfl⟩ : ∃ k'', k' = k'' + 1 := ⟨k' - 1, by omega⟩
    rw [qdF] at e
    have hne : lk s t ≠ -1 := by
      intro x
      rw [x, if_neg (by omega), if_pos (by omega)] at e
      cases e
    rw [qdF, h.eq hne]
    split at e
    · rename_i hc
      cases e
      rw [if_pos hc]
      rfl
    · rename_i n1
      rw [if_neg n1]
      split at e
      · cases e
      · rename_i n2
        rw [if_neg n2]
        split at e
        · rename_i hc
          rw [if_pos hc]
          split at e
          · cases e
          · rename_i m v hv
            rw [h.esc hoS hc hv]
            exact h.qd hoS k v _ q u e k'' (by omega)
        · rename_i hc
          rw [if_neg hc]
          exact h.qd hoS k (t + 1) _ q u e k'' (by omega)
theorem Win.quot {s S : ByteArray} {o : Nat} (h : Win s S o) (hoS : s.size ≤ S.size) {t u : Nat} {q : Bs} (e : quotE s t = .ok (q, u)) : quotE S (o + t) = .ok (q, o + u) := by
  unfold quotE at e ⊢
  split at e
  · cases e
  · rename_i v hv
    rw [h.need _ _ _ hv]
    exact h.qd hoS _ v _ q u e _ (by omega)
end Go.Proofs.YtjpmjcadnnglnaaDoor

/- JSON, plain: a value that stands in another text is read there as it is read by itself, or too many brackets stand around one another there; no condition. -/
namespace Go.Proofs.YtjpmjcadnnglnaaDoor
open Go.RowKit
open Go.Lib

theorem tl_end2 {s : ByteArray} {one : Nat → JR (ByteArray × JV × Nat)} {f u : Nat} (h : lk s u ≠ 44) : tlF s one f u = .ok ([], u) := by
  match f with
  | 0 => rfl
  | f + 1 => rw [tlF, if_neg h]
/-- What is read, or too many brackets. -/
def Or21 {α : Type} (r : JR α) (x : α) : Prop := r = .ok x ∨ ∃ k, r = .error (21, k)
def Rel (s : ByteArray) (o : Nat) (f F : Nat → JR (JV × Nat)) : Prop := ∀ t x u, t ≤ s.size → f t = .ok (x, u) → Or21 (F (o + t)) (x, o + u)
def Rel3 (s : ByteArray) (o : Nat) (f F : Nat → JR (ByteArray × JV × Nat)) : Prop := ∀ t k x u, t ≤ s.size → f t = .ok (k, x, u) → Or21 (F (o + t)) (k, x, o + u)
/-- What is read isn't nothing. -/
def Some' (s : ByteArray) (f : Nat → JR (JV × Nat)) : Prop := ∀ t x u, t ≤ s.size → f t = .ok (x, u) → t < s.size
def Some3 (s : ByteArray) (f : Nat → JR (ByteArray × JV × Nat)) : Prop := ∀ t k x u, t ≤ s.size → f t = .ok (k, x, u) → t < s.size
theorem dgE_end {s : ByteArray} {t u : Nat} (e : dgE s t = .ok u) : t < s.size := by
  unfold dgE at e
  split at e
  · cases e
  · rename_i hz
    rcases Nat.lt_or_ge t s.size with g | g
    · exact g
    · rw [List.drop_eq_nil_of_le (by rw [size_list]; omega)] at hz
      exact absurd rfl hz
theorem bare_some (s : ByteArray) (sub : Option (Nat → JR (JV × Nat))) : Some' s (bareE s sub) := by
  intro t x u ht e
  rcases Nat.lt_or_ge t s.size with g | g
  · exact g
  · exfalso
    have hl := lk_out g
    unfold bareE at e
    rw [hl, if_neg (by omega), if_neg (by omega), if_neg (by omega), if_neg (by omega), if_neg (by omega), if_neg (by omega)] at e
    unfold numbE at e
    split at e
    · cases e
    · rename_i v hv
      unfold numE at hv
      split at hv
      · cases hv
      · rename_i a h1
        unfold part1 at h1
        rw [show stp s t 45 = t from if_neg (by rw [hl]; omega)] at h1
        rw [hl, if_neg (by omega)] at h1
        have := dgE_end h1
        omega
theorem val_some (s : ByteArray) (sub : Option (Nat → JR (JV × Nat))) : Some' s (valE s sub) := by
  intro t x u ht e
  unfold valE at e
  split at e
  · cases e
  · rename_i y v hv
    have := bare_some s sub _ y v (bl_le s t ht) hv
    have := bl_ge s t
    omega
theorem valF_some (s : ByteArray) (n : Nat) : Some' s (valF s n) := by
  intro t x u ht e
  match n with
  | 0 => rw [valF] at e; exact val_some s _ t x u ht e
  | n + 1 => rw [valF] at e; exact val_some s _ t x u ht e
theorem need_some {s : ByteArray} {c : UInt8} {p : Bs} {t u : Nat} (e : needE s (c :: p) t = .ok u) : t < s.size := by
  rw [needE] at e
  split at e
  · rename_i h
    exact lk_lt' h
  · cases e
theorem quot_some {s : ByteArray} {t u : Nat} {o : Bs} (e : quotE s t = .ok (o, u)) : t < s.size := by
  unfold quotE at e
  split at e
  · cases e
  · rename_i v hv
    exact need_some hv
theorem one_some {s : ByteArray} {kd : Int} {sub : Nat → JR (JV × Nat)} (H : Some' s sub) : Some3 s (oneE s kd sub) := by
  intro t k x u ht h
  unfold oneE at h
  split at h
  · unfold keyE at h
    split at h
    · cases h
    · rename_i o a ha
      have := quot_some ha
      have := bl_ge s t
      omega
  · unfold lstE at h
    split at h
    · cases h
    · rename_i y z hz
      exact H t y z ht hz
theorem Win.one {s S : ByteArray} {o : Nat} (h : Win s S o) (hoS : s.size ≤ S.size) {kd : Int} {f F : Nat → JR (JV × Nat)} (H : Rel s o f F) (_HF : Fwd s f) : Rel3 s o (oneE s kd f) (oneE S kd F) := by
  intro t k x u ht e
  unfold oneE at e ⊢
  split at e
  · rename_i hk
    rw [if_pos hk]
    unfold keyE at e ⊢
    rw [h.blank ht]
    have h2 := bl_le s t ht
    split at e
    · cases e
    · rename_i q a ha
      have h3 := quot_fwd h2 ha
      rw [h.quot hoS ha]
      simp only
      rw [h.blank h3.2]
      split at e
      · cases e
      · rename_i c hc
        have h6 := need_ok s [58] _ c (bl_le s a h3.2) hc
        rw [h.need _ _ _ hc]
        simp only
        split at e
        · cases e
        · rename_i y z hz
          cases e
          rcases H c _ _ h6.2 hz with g | ⟨j, g⟩
          · rw [g]
            exact .inl rfl
          · rw [g]
            exact .inr ⟨j, rfl⟩
  · rename_i hk
    rw [if_neg hk]
    unfold lstE at e ⊢
    split at e
    · cases e
    · rename_i y z hz
      cases e
      rcases H t _ _ ht hz with g | ⟨j, g⟩
      · rw [g]
        exact .inl rfl
      · rw [g]
        exact .inr ⟨j, rfl⟩
theorem Or21.pre {r : JR (List (ByteArray × JV) × Nat)} {l : List (ByteArray × JV)} {u : Nat} (h : Or21 r (l, u)) (a : List (ByteArray × JV)) : Or21 (pre a r) (a ++ l, u) := by
  rcases h with e | ⟨k, e⟩
  · rw [e]
    exact .inl rfl
  · rw [e]
    exact .inr ⟨k, rfl⟩
theorem Win.tl {s S : ByteArray} {o : Nat} (h : Win s S o) {one ONE : Nat → JR (ByteArray × JV × Nat)} (H : Rel3 s o one ONE) (HF : Fwd3 s one) {cl : Int} (hcl : cl = 93 ∨ cl = 125) : ∀ (f u : Nat) (l : List (ByteArray × JV)) (v : Nat), u ≤ s.size → tlF s one f u = .ok (l, v) → lk s v = cl → ∀ f', f ≤ f' → Or21 (tlF S ONE f' (o + u)) (l, o + v)
  | 0, u, l, v, hu, e, hv, f', hf => by
    rw [tlF] at e
    cases e
    have : lk S (o + u) = cl := h.yes hv (by omega)
    exact .inl (tl_end2 (by rw [this]; omega))
  | f + 1, u, l, v, hu, e, hv, f', hf => by
    obtain ⟨f'', rfl⟩ : ∃ f'', f' = f'' + 1 := ⟨f' - 1, by omega⟩
    rw [tlF] at e
    split at e
    · rename_i h44
      have hul := (lk_is (c := 44) h44).1
      rw [tlF, if_pos (h.yes h44 (by omega))]
      split at e
      · cases e
      · rename_i k x z hz
        have g := HF (u + 1) k x z (by omega) hz
        cases hr : tlF s one f z with
        | error e' => rw [hr] at e; cases e
        | ok p =>
          obtain ⟨l', v'⟩ := p
          rw [hr] at e
          cases e
          rcases H (u + 1) k x z (by omega) hz with q | ⟨j, q⟩
          · have q' : ONE (o + u + 1) = .ok (k, x, o + z) := q
            rw [q']
            exact (h.tl H HF hcl f z l' v g.2 hr hv f'' (by omega)).pre [(k, x)]
          · have q' : ONE (o + u + 1) = .error (21, j) := q
            rw [q']
            exact .inr ⟨j, rfl⟩
    · rename_i h44
      cases e
      have : lk S (o + u) = cl := h.yes hv (by omega)
      exact .inl (tl_end2 (by rw [this]; omega))
theorem Win.row {s S : ByteArray} {o : Nat} (h : Win s S o) (hoS : s.size ≤ S.size) {one ONE : Nat → JR (ByteArray × JV × Nat)} (H : Rel3 s o one ONE) (HF : Fwd3 s one) (HS : Some3 s one) {cl : Nat} (hcl : cl = 93 ∨ cl = 125) {t u : Nat} {l : List (ByteArray × JV)} (ht : t < s.size) (e : rowE s cl one t = .ok (l, u)) : Or21 (rowE S cl ONE (o + t)) (l, o + u) := by
  have hb := bl_le s (t + 1) ht
  unfold rowE at e ⊢
  rw [show o + t + 1 = o + (t + 1) from rfl, h.blank (t := t + 1) ht]
  split at e
  · rename_i hc
    cases e
    rw [if_pos (h.yes hc (by omega))]
    exact .inl rfl
  · rename_i hc
    split at e
    · cases e
    · rename_i k x z hz
      have hlt := HS _ k x z hb hz
      rw [h.at' _ hlt, if_neg hc]
      have g := HF _ k x z hb hz
      obtain ⟨v, hv, hvc, rfl⟩ := end_fwd e
      cases hr : tlF s one s.size z with
      | error e' => rw [hr] at hv; cases hv
      | ok p =>
        obtain ⟨l', v'⟩ := p
        rw [hr] at hv
        cases hv
        rcases H _ k x z hb hz with q | ⟨j, q⟩
        · rw [q]
          simp only
          rcases (h.tl H HF (cl := cl) (by omega) s.size z l' v g.2 hr hvc S.size hoS).pre [(k, x)] with q2 | ⟨j, q2⟩
          · rw [q2]
            left
            unfold endE
            simp only
            rw [if_pos (h.yes hvc (by omega))]
            rfl
          · rw [q2]
            exact .inr ⟨j, rfl⟩
        · rw [q]
          exact .inr ⟨j, rfl⟩
def RelO (s : ByteArray) (o : Nat) : Option (Nat → JR (JV × Nat)) → Option (Nat → JR (JV × Nat)) → Prop
  | _, none => True
  | none, some _ => True
  | some f, some F => Rel s o f F ∧ Fwd s f ∧ Some' s f
theorem Win.node {s S : ByteArray} {o : Nat} (h : Win s S o) (hoS : s.size ≤ S.size) {sub SUB : Option (Nat → JR (JV × Nat))} (H : RelO s o sub SUB) {kd : Int} {cl : Nat} (hcl : cl = 93 ∨ cl = 125) {t u : Nat} {x : JV} (ht : t < s.size) (e : nodeE s kd cl sub t = .ok (x, u)) : Or21 (nodeE S kd cl SUB (o + t)) (x, o + u) := by
  match sub, SUB, H with
  | none, _, _ => cases e
  | some f, none, _ => exact .inr ⟨_, rfl⟩
  | some f, some F, H =>
    unfold nodeE at e ⊢
    simp only at e ⊢
    split at e
    · cases e
    · rename_i l v hv
      cases e
      rcases h.row hoS (h.one hoS (kd := kd) H.1 H.2.1) (one_fwd H.2.1) (one_some H.2.2) hcl ht hv with q | ⟨j, q⟩
      · rw [q]
        exact .inl rfl
      · rw [q]
        exact .inr ⟨j, rfl⟩
theorem cut_eq {s S : ByteArray} {o : Nat} (h : Win s S o) (hoS : o + s.size ≤ S.size) {t u : Nat} (_h1 : t ≤ u) (h2 : u ≤ s.size) : S.extract (o + t) (o + u) = s.extract t u := by
  apply ByteArray.ext
  apply Array.ext_getElem?
  intro i
  rw [← Array.getElem?_toList, ← Array.getElem?_toList]
  rw [ByteArray.data_extract, ByteArray.data_extract]
  simp only [Array.toList_extract, List.extract_eq_take_drop, List.getElem?_take, List.getElem?_drop]
  rw [show o + u - (o + t) = u - t by omega]
  split
  · have e := h.at' (t + i) (by omega)
    have hS : o + (t + i) < S.size := by omega
    have hs : t + i < s.size := by omega
    unfold lk at e
    rw [at_opt S _ hS, at_opt s _ hs] at e
    simp only at e
    rw [show o + t + i = o + (t + i) by omega, at_opt S _ hS, at_opt s _ hs]
    congr 1
    apply UInt8.toNat_inj.1
    omega
  · rfl
theorem Win.word {s S : ByteArray} {o : Nat} (h : Win s S o) {p : Bs} {kd : Int} {t u : Nat} {x : JV} (e : wordE s p kd t = .ok (x, u)) : Or21 (wordE S p kd (o + t)) (x, o + u) := by
  unfold wordE at e ⊢
  split at e
  · cases e
  · rename_i v hv
    cases e
    rw [h.need _ _ _ hv]
    exact .inl rfl
theorem Win.bare {s S : ByteArray} {o : Nat} (h : Win s S o) (hoS : o + s.size ≤ S.size) {sub SUB : Option (Nat → JR (JV × Nat))} (H : RelO s o sub SUB) : Rel s o (bareE s sub) (bareE S SUB) := by
  intro t x u ht e
  have hlt := bare_some s sub t x u ht e
  have hl := h.at' t hlt
  unfold bareE at e ⊢
  rw [hl]
  split at e
  · rename_i c
    rw [if_pos c]
    exact h.word e
  rename_i n1
  rw [if_neg n1]
  split at e
  · rename_i c
    rw [if_pos c]
    exact h.word e
  rename_i n2
  rw [if_neg n2]
  split at e
  · rename_i c
    rw [if_pos c]
    exact h.word e
  rename_i n3
  rw [if_neg n3]
  split at e
  · rename_i c
    rw [if_pos c]
    unfold textE at e ⊢
    split at e
    · cases e
    · rename_i q v hv
      cases e
      rw [h.quot (by omega) hv]
      exact .inl rfl
  rename_i n4
  rw [if_neg n4]
  split at e
  · rename_i c
    rw [if_pos c]
    exact h.node (by omega) H (cl := 93) (.inl rfl) hlt e
  rename_i n5
  rw [if_neg n5]
  split at e
  · rename_i c
    rw [if_pos c]
    exact h.node (by omega) H (cl := 125) (.inr rfl) hlt e
  rename_i n6
  rw [if_neg n6]
  unfold numbE at e ⊢
  split at e
  · cases e
  · rename_i v hv
    have := num_fwd ht hv
    cases e
    rw [h.num ht hv]
    left
    simp only
    rw [cut_eq h hoS this.1 this.2]
theorem Win.val {s S : ByteArray} {o : Nat} (h : Win s S o) (hoS : o + s.size ≤ S.size) {sub SUB : Option (Nat → JR (JV × Nat))} (H : RelO s o sub SUB) (HF : ∀ f, sub = some f → Fwd s f) : Rel s o (valE s sub) (valE S SUB) := by
  intro t x u ht e
  unfold valE at e ⊢
  rw [h.blank ht]
  split at e
  · cases e
  · rename_i y v hv
    have h2 := bare_fwd HF _ y v (bl_le s t ht) hv
    cases e
    rcases h.bare hoS H _ x v (bl_le s t ht) hv with q | ⟨j, q⟩
    · rw [q]
      left
      simp only
      rw [h.blank h2.2]
    · rw [q]
      exact .inr ⟨j, rfl⟩
theorem Win.valF {s S : ByteArray} {o : Nat} (h : Win s S o) (hoS : o + s.size ≤ S.size) : ∀ (n m : Nat), Rel s o (valF s n) (valF S m)
  | 0, 0 => fun t x u ht e => by
    exact h.val hoS (sub := none) (SUB := none) trivial (fun f e => by cases e) t x u ht e
  | 0, m + 1 => fun t x u ht e => by
    exact h.val hoS (sub := none) (SUB := some fun u => Go.Proofs.YtjpmjcadnnglnaaDoor.valF S m u) trivial (fun f e => by cases e) t x u ht e
  | n + 1, 0 => fun t x u ht e => by
    exact h.val hoS (sub := some fun u => Go.Proofs.YtjpmjcadnnglnaaDoor.valF s n u) (SUB := none) trivial (fun f e => by cases e; exact valF_fwd s n) t x u ht e
  | n + 1, m + 1 => fun t x u ht e => by
    exact h.val hoS (sub := some fun u => Go.Proofs.YtjpmjcadnnglnaaDoor.valF s n u) (SUB := some fun u => Go.Proofs.YtjpmjcadnnglnaaDoor.valF S m u) ⟨h.valF hoS n m, valF_fwd s n, valF_some s n⟩ (fun f e => by cases e; exact valF_fwd s n) t x u ht e
end Go.Proofs.YtjpmjcadnnglnaaDoor

/- JSON, plain: values put together in brackets are read as a list of them, or too many brackets stand around one another; no condition. -/
namespace Go.Proofs.YtjpmjcadnnglnaaDoor
open Go.RowKit
open Go.Lib

def bB (bk : Bool) : Bs := if bk = true then [32, 10] else []
def restB (bk : Bool) (ws : List ByteArray) : Bs := ws.flatMap (fun w => 44 :: (bB bk ++ w.data.toList)) ++ [93]
def lstB (bk : Bool) : List ByteArray → Bs
  | [] => [91, 93]
  | w :: ws => 91 :: (bB bk ++ (w.data.toList ++ restB bk ws))
theorem at_skip {S : ByteArray} {t : Nat} : ∀ (a : Bs) {R : Bs}, At S t (a ++ R) → At S (t + a.length) R := by
  intro a
  induction a generalizing t with
  | nil => intro R h; exact h
  | cons c a ih =>
    intro R h
    have := ih (at_lk (m := a ++ R) h).2
    rw [List.length_cons, show t + (a.length + 1) = t + 1 + a.length by omega]
    exact this
theorem win_at {w S : ByteArray} {o : Nat} {c : UInt8} {R : Bs} (h : At S o (w.data.toList ++ c :: R)) (hc : c = 44 ∨ c = 93) : Win w S o ∧ At S (o + w.size) (c :: R) ∧ o + w.size ≤ S.size := by
  have h2 := at_skip w.data.toList h
  rw [size_list] at h2
  have h3 := at_lk h2
  refine ⟨⟨fun i hi => ?_, ?_⟩, h2, ?_⟩
  · have : S.data.toList[o + i]? = w.data.toList[i]? := by
      have e := congrArg (fun l => l[i]?) h
      simp only [List.getElem?_drop] at e
      rw [e, List.getElem?_append_left (by rw [size_list]; exact hi)]
    unfold lk
    rw [this]
  · rw [h3.1]
    rcases hc with rfl | rfl
    · exact .inl rfl
    · exact .inr rfl
  · have := lk_lt' h3.1
    omega
theorem bl_skip {S : ByteArray} {t : Nat} (h : blank (lk S t)) : bl S t = bl S (t + 1) := by
  rw [bl_at, if_pos h]
theorem bl_no (S : ByteArray) (t : Nat) : ¬ blank (lk S (bl S t)) := by
  suffices h : ∀ n t, S.size ≤ t + n → ¬ blank (lk S (bl S t)) from h S.size t (by omega)
  intro n
  induction n with
  | zero =>
    intro t ht
    have : lk S t = -1 := lk_out (by omega)
    rw [bl_at, if_neg (by rw [this]; unfold blank; decide), this]
    unfold blank
    decide
  | succ n ih =>
    intro t ht
    rw [bl_at]
    split
    · exact ih (t + 1) (by omega)
    · assumption
theorem valE_bl {S : ByteArray} {sub : Option (Nat → JR (JV × Nat))} {t u : Nat} (h : bl S t = bl S u) : valE S sub t = valE S sub u := by
  unfold valE
  rw [h]
theorem valF_bl {S : ByteArray} {n t u : Nat} (h : bl S t = bl S u) : valF S n t = valF S n u := by
  match n with
  | 0 => exact valE_bl h
  | n + 1 => exact valE_bl h
theorem bl_bB {S : ByteArray} {t : Nat} {bk : Bool} {R : Bs} (h : At S t (bB bk ++ R)) : bl S t = bl S (t + (bB bk).length) ∧ At S (t + (bB bk).length) R := by
  refine ⟨?_, at_skip _ h⟩
  cases bk with
  | false => rfl
  | true =>
    have h1 := at_lk (c := 32) (m := 10 :: R) h
    have h2 := at_lk (c := 10) (m := R) h1.2
    rw [bl_skip (by rw [h1.1]; exact .inl rfl), bl_skip (t := t + 1) (by rw [h2.1]; exact .inr (.inr (.inl rfl)))]
    rfl
theorem whole_val {w : ByteArray} {x : JV} (h : wholeE w = .ok x) : valF w 32 0 = .ok (x, w.size) := by
  unfold wholeE at h
  cases hR : valF w 32 0 with
  | error e => rw [hR] at h; cases h
  | ok p =>
    obtain ⟨y, u⟩ := p
    rw [hR] at h
    unfold endsE at h
    simp only at h
    split at h
    · rename_i hu
      cases h
      rw [hu]
    · cases h
theorem item_at {w S : ByteArray} {x : JV} {t : Nat} {bk : Bool} {c : UInt8} {R : Bs} (n : Nat) (hw : wholeE w = .ok x) (h : At S t (bB bk ++ (w.data.toList ++ c :: R))) (hc : c = 44 ∨ c = 93) : Or21 (valF S n t) (x, t + (bB bk).length + w.size) ∧ At S (t + (bB bk).length + w.size) (c :: R) := by
  obtain ⟨h1, h2⟩ := bl_bB h
  obtain ⟨W, h3, h4⟩ := win_at h2 hc
  rw [valF_bl h1]
  exact ⟨W.valF h4 32 n 0 x w.size (Nat.zero_le _) (whole_val hw), h3⟩
theorem restB_cons (bk : Bool) (w : ByteArray) (ws : List ByteArray) : restB bk (w :: ws) = 44 :: (bB bk ++ (w.data.toList ++ restB bk ws)) := by
  unfold restB
  rw [List.flatMap_cons]
  simp
theorem restB_head (bk : Bool) (ws : List ByteArray) : ∃ c R, restB bk ws = c :: R ∧ (c = 44 ∨ c = 93) := by
  match ws with
  | [] => exact ⟨93, [], rfl, .inr rfl⟩
  | w :: ws => exact ⟨44, _, restB_cons bk w ws, .inl rfl⟩
def emp (x : JV) : ByteArray × JV := (⟨#[]⟩, x)
theorem one_lst (S : ByteArray) (sub : Nat → JR (JV × Nat)) : oneE S 5 sub = lstE sub := if_neg (by decide)
theorem tl_items (S : ByteArray) (bk : Bool) (n : Nat) : ∀ (ws : List ByteArray) (xs : List JV) (f u : Nat), ws.map wholeE = xs.map Except.ok → ws.length ≤ f → At S u (restB bk ws) → ∃ v, Or21 (tlF S (lstE (valF S n)) f u) (xs.map emp, v) ∧ At S v [93]
  | [], xs, f, u, hw, _, h => by
    match xs, hw with
    | [], _ =>
      have h1 := at_lk (c := 93) (m := []) h
      exact ⟨u, .inl (tl_end2 (by rw [h1.1]; decide)), h⟩
  | w :: ws, xs, f, u, hw, hf, h => by
    match xs, hw with
    | x :: xs, hw =>
      rw [List.map_cons, List.map_cons] at hw
      obtain ⟨hx, hws⟩ := List.cons.inj hw
      rw [List.length_cons] at hf
      obtain ⟨f', rfl⟩ : ∃ f', f = f' + 1 := ⟨f - 1, by omega⟩
      rw [restB_cons] at h
      have h1 := at_lk h
      obtain ⟨c, R, hR, hc⟩ := restB_head bk ws
      have h2 := h1.2
      rw [hR] at h2
      obtain ⟨g1, g2⟩ := item_at n hx h2 hc
      have h44 : lk S u = 44 := h1.1
      rw [tlF, if_pos h44]
      unfold lstE at *
      rcases g1 with e | ⟨k, e⟩
      · rw [← hR] at g2
        obtain ⟨v, q1, q2⟩ := tl_items S bk n ws xs f' _ hws (by omega) g2
        refine ⟨v, ?_, q2⟩
        rw [e]
        simp only
        exact q1.pre [emp x]
      · rw [← hR] at g2
        obtain ⟨v, q1, q2⟩ := tl_items S bk n ws xs f' _ hws (by omega) g2
        refine ⟨v, .inr ⟨k, ?_⟩, q2⟩
        rw [e]
theorem num_no {w : ByteArray} {t : Nat} (h : lk w t = 93) : ∃ k, numE w t = .error k := by
  have h1 : part1 w t = .error t := by
    unfold part1
    rw [show stp w t 45 = t from if_neg (by rw [h]; decide), if_neg (by rw [h]; decide)]
    unfold dgE
    rw [show dgn (w.data.toList.drop t) = 0 from by rw [dg_at, if_neg (by rw [h]; omega)]]
    rfl
  refine ⟨t, ?_⟩
  unfold numE
  rw [h1]
theorem at_end {S : ByteArray} {v : Nat} {c : UInt8} (h : At S v [c]) : v + 1 = S.size := by
  have h1 := at_lk h
  have := lk_lt' h1.1
  have e : (S.data.toList.drop v).length = 1 := by rw [show S.data.toList.drop v = [c] from h]; rfl
  rw [List.length_drop, size_list] at e
  omega
/-- Values put together. -/
theorem lst_whole (S : ByteArray) (bk : Bool) (ws : List ByteArray) (xs : List JV) (hw : ws.map wholeE = xs.map Except.ok) (hS : S.data.toList = lstB bk ws) (hl : ws.length ≤ S.size) : wholeE S = .ok (.node 5 ⟨#[]⟩ [] xs) ∨ ∃ k, wholeE S = .error (21, k) := by
  have h0 : At S 0 (lstB bk ws) := hS
  have key : Or21 (rowE S 93 (oneE S 5 (valF S 31)) 0) (xs.map emp, S.size) ∧ lk S 0 = 91 := by
    rw [one_lst]
    unfold rowE
    match ws, xs, hw with
    | [], [], _ =>
      have h1 := at_lk (c := 91) (m := [93]) h0
      have h2 := at_lk (c := 93) (m := []) h1.2
      have h3 := at_end (c := 93) h1.2
      refine ⟨.inl ?_, h1.1⟩
      rw [show bl S (0 + 1) = 1 from by rw [bl_at, if_neg (by rw [h2.1]; unfold blank; decide)], if_pos (show lk S 1 = 93 from h2.1), ← h3]
      rfl
    | w :: ws, x :: xs, hw =>
      rw [List.map_cons, List.map_cons] at hw
      obtain ⟨hx, hws⟩ := List.cons.inj hw
      have h1 := at_lk (c := 91) h0
      obtain ⟨c, R, hR, hc⟩ := restB_head bk ws
      have h2 := h1.2
      rw [hR] at h2
      have hwv := valF_some w 32 0 x w.size (Nat.zero_le _) (whole_val hx)
      obtain ⟨hb1, hb2⟩ := bl_bB h2
      obtain ⟨W, h3, h4⟩ := win_at hb2 hc
      have hvx := whole_val hx
      have hblw : bl w 0 < w.size := by
        have : valE w (some fun u => valF w 31 u) 0 = .ok (x, w.size) := hvx
        unfold valE at this
        split at this
        · cases this
        · rename_i y v hv
          exact bare_some w _ _ y v (bl_le w 0 (Nat.zero_le _)) hv
      have hne : lk S (bl S (0 + 1)) ≠ 93 := by
        rw [hb1]
        have hbw := W.blank (t := 0) (Nat.zero_le _)
        rw [Nat.add_zero] at hbw
        rw [hbw, W.at' _ hblw]
        intro e93
        have : valE w (some fun u => valF w 31 u) 0 = .ok (x, w.size) := hvx
        unfold valE bareE at this
        rw [e93, if_neg (by omega), if_neg (by omega), if_neg (by omega), if_neg (by omega), if_neg (by omega), if_neg (by omega)] at this
        unfold numbE at this
        obtain ⟨k, hk⟩ := num_no e93
        rw [hk] at this
        cases this
      refine ⟨?_, h1.1⟩
      rw [if_neg hne]
      have hbb : bl S (bl S (0 + 1)) = bl S (0 + 1) := by
        rw [bl_at S (bl S (0 + 1)), if_neg (bl_no S (0 + 1))]
      obtain ⟨g1, g2⟩ := item_at 31 hx h2 hc
      rw [valF_bl (n := 31) (t := 0 + 1) (u := bl S (0 + 1)) hbb.symm] at g1
      unfold lstE
      rcases g1 with e | ⟨k, e⟩
      · rw [← hR] at g2
        rw [e]
        simp only
        obtain ⟨v, q1, q2⟩ := tl_items S bk 31 ws xs S.size _ hws (by rw [List.length_cons] at hl; omega) g2
        have h93 := at_lk q2
        have hsz := at_end q2
        unfold lstE at q1
        rcases q1.pre [emp x] with e2 | ⟨k, e2⟩
        · left
          show endE S 93 (pre [emp x] _) = _
          rw [e2]
          unfold endE
          simp only
          rw [if_pos (show lk S v = 93 from h93.1), hsz]
          rfl
        · right
          refine ⟨k, ?_⟩
          show endE S 93 (pre [emp x] _) = _
          rw [e2]
          rfl
      · rw [e]
        exact .inr ⟨k, rfl⟩
  have hb0 : bl S 0 = 0 := by rw [bl_at, if_neg (by rw [key.2]; unfold blank; decide)]
  have hbe : bl S S.size = S.size := by rw [bl_at, if_neg (by rw [lk_out (Nat.le_refl _)]; unfold blank; decide)]
  have hm : (xs.map emp).map Prod.snd = xs := by
    rw [List.map_map]
    exact List.map_id xs
  have hv : Or21 (valF S 32 0) (.node 5 ⟨#[]⟩ [] xs, S.size) := by
    show Or21 (valE S (some fun u => valF S 31 u) 0) _
    unfold valE bareE nodeE
    rw [hb0, key.2, if_neg (by omega), if_neg (by omega), if_neg (by omega), if_neg (by omega), if_pos rfl]
    simp only
    rcases key.1 with e | ⟨k, e⟩
    · rw [e]
      left
      simp only
      rw [hbe, hm]
      rfl
    · rw [e]
      exact .inr ⟨k, rfl⟩
  unfold wholeE
  rcases hv with e | ⟨k, e⟩
  · rw [e]
    left
    exact if_pos rfl
  · rw [e]
    exact .inr ⟨k, rfl⟩
end Go.Proofs.YtjpmjcadnnglnaaDoor
