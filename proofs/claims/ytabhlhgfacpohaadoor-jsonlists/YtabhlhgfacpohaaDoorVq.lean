/- JSON, plain: a text that stands in another one is read there as it is read by itself, or too many brackets stand around one another there; no condition. -/
import Derived.Test.YtabhlhgfacpohaaDoorVa
namespace Go.Proofs.YtabhlhgfacpohaaDoor
open Go.RowKit
open Go.Lib

/-- A text stands in another one, with a comma or a bracket behind it. -/
structure Win (s S : ByteArray) (o : Nat) : Prop where
  at' : ∀ i, i < s.size → lk S (o + i) = lk s i
  fin : lk S (o + s.size) = 44 ∨ lk S (o + s.size) = 93
theorem lk_out {s : ByteArray} {t : Nat} (h : s.size ≤ t) : lk s t = -1 := by
  unfold lk
  rw [List.getElem?_eq_none (by rw [size_list]; omega)]
theorem lk_in2 {s : ByteArray} {t : Nat} (h : lk s t ≠ -1) : t < s.size := by
  rcases Nat.lt_or_ge t s.size with g | g
  · exact g
  · exact absurd (lk_out g) h
theorem Win.two {s S : ByteArray} {o : Nat} (h : Win s S o) {t : Nat} (ht : t ≤ s.size) : lk S (o + t) = lk s t ∨ (lk s t = -1 ∧ (lk S (o + t) = 44 ∨ lk S (o + t) = 93)) := by
  rcases Nat.lt_or_ge t s.size with g | g
  · exact .inl (h.at' t g)
  · have : t = s.size := by omega
    subst this
    exact .inr ⟨lk_out g, h.fin⟩
theorem Win.yes {s S : ByteArray} {o : Nat} (h : Win s S o) {t : Nat} {c : Int} (hc : lk s t = c) (h1 : c ≠ -1) : lk S (o + t) = c := by
  rw [h.at' t (lk_in2 (by rw [hc]; exact h1))]
  exact hc
theorem Win.eq {s S : ByteArray} {o : Nat} (h : Win s S o) {t : Nat} (h1 : lk s t ≠ -1) : lk S (o + t) = lk s t := h.at' t (lk_in2 h1)
theorem Win.iff {s S : ByteArray} {o : Nat} (h : Win s S o) {t : Nat} (ht : t ≤ s.size) (c : Int) (h1 : c ≠ -1) (h2 : c ≠ 44) (h3 : c ≠ 93) : lk S (o + t) = c ↔ lk s t = c := by
  rcases h.two ht with e | ⟨e1, e2⟩
  · rw [e]
  · rw [e1]
    omega
theorem Win.bl {s S : ByteArray} {o : Nat} (h : Win s S o) : ∀ (n t : Nat), t + n = s.size → bl S (o + t) = o + bl s t
  | 0, t, ht => by
    rw [bl_at S, bl_at s, if_neg (by rcases h.two (t := t) (by omega) with e | ⟨e1, e2⟩; rw [e, lk_out (by omega)]; unfold blank; omega; unfold blank; omega), if_neg (by rw [lk_out (by omega)]; unfold blank; omega)]
  | n + 1, t, ht => by
    have e := h.at' t (by omega)
    rw [bl_at S, bl_at s, e]
    split
    · have := h.bl n (t + 1) (by omega)
      rw [← this]
      rfl
    · rfl
theorem Win.blank {s S : ByteArray} {o : Nat} (h : Win s S o) {t : Nat} (ht : t ≤ s.size) : Go.Proofs.YtabhlhgfacpohaaDoor.bl S (o + t) = o + Go.Proofs.YtabhlhgfacpohaaDoor.bl s t := h.bl (s.size - t) t (by omega)
theorem Win.need {s S : ByteArray} {o : Nat} (h : Win s S o) : ∀ (p : Bs) (t u : Nat), needE s p t = .ok u → needE S p (o + t) = .ok (o + u)
  | [], t, u, e => by
    rw [needE] at e ⊢
    cases e
    rfl
  | c :: p, t, u, e => by
    rw [needE] at e ⊢
    split at e
    · rename_i hc
      rw [if_pos (h.yes hc (by omega))]
      have := h.need p (t + 1) u e
      rw [← this]
      rfl
    · cases e
theorem dg_at (s : ByteArray) (t : Nat) : dgn (s.data.toList.drop t) = if 48 ≤ lk s t ∧ lk s t ≤ 57 then dgn (s.data.toList.drop (t + 1)) + 1 else 0 := by
  by_cases h : t < s.size
  · have e : lk s t = (s[t].toNat : Int) := by unfold lk; rw [at_opt s t h]
    rw [byte_at s t h, dgn]
    have iff := dig_iff s[t]
    by_cases hb : digB s[t] = true
    · rw [if_pos hb, if_pos (by have := iff.1 hb; omega)]
    · rw [if_neg hb, if_neg (fun x => hb (iff.2 (by omega)))]
  · rw [if_neg (by rw [lk_out (by omega)]; omega), List.drop_eq_nil_of_le (by rw [size_list]; omega)]
    rfl
theorem Win.dgn {s S : ByteArray} {o : Nat} (h : Win s S o) : ∀ (n t : Nat), t + n = s.size → dgn (S.data.toList.drop (o + t)) = dgn (s.data.toList.drop t)
  | 0, t, ht => by
    rw [dg_at S, dg_at s, if_neg (by rcases h.two (t := t) (by omega) with e | ⟨e1, e2⟩; rw [e, lk_out (by omega)]; omega; omega), if_neg (by rw [lk_out (by omega)]; omega)]
  | n + 1, t, ht => by
    have e := h.at' t (by omega)
    rw [dg_at S, dg_at s, e, show o + t + 1 = o + (t + 1) from rfl, h.dgn n (t + 1) (by omega)]
theorem Win.dgE {s S : ByteArray} {o : Nat} (h : Win s S o) {t u : Nat} (ht : t ≤ s.size) (e : dgE s t = .ok u) : dgE S (o + t) = .ok (o + u) := by
  have := h.dgn (s.size - t) t (by omega)
  unfold Go.Proofs.YtabhlhgfacpohaaDoor.dgE at e ⊢
  rw [this]
  split at e
  · cases e
  · rename_i hz
    cases e
    rw [if_neg hz, Nat.add_assoc]
theorem Win.stp {s S : ByteArray} {o : Nat} (h : Win s S o) {t : Nat} (ht : t ≤ s.size) (c : Nat) (h2 : c ≠ 44) (h3 : c ≠ 93) : stp S (o + t) c = o + stp s t c := by
  unfold Go.Proofs.YtabhlhgfacpohaaDoor.stp
  have := h.iff ht (c : Int) (by omega) (by omega) (by omega)
  by_cases hc : lk s t = (c : Int)
  · rw [if_pos hc, if_pos (this.2 hc), Nat.add_assoc]
  · rw [if_neg hc, if_neg (fun x => hc (this.1 x))]
theorem Win.sgn {s S : ByteArray} {o : Nat} (h : Win s S o) {t : Nat} (ht : t ≤ s.size) : sgn S (o + t) = o + sgn s t := by
  unfold Go.Proofs.YtabhlhgfacpohaaDoor.sgn
  have := h.iff ht 43 (by omega) (by omega) (by omega)
  by_cases hc : lk s t = 43
  · rw [if_pos hc, if_pos (this.2 hc), Nat.add_assoc]
  · rw [if_neg hc, if_neg (fun x => hc (this.1 x)), h.stp ht 45 (by omega) (by omega)]
theorem Win.num {s S : ByteArray} {o : Nat} (h : Win s S o) {t u : Nat} (ht : t ≤ s.size) (e : numE s t = .ok u) : numE S (o + t) = .ok (o + u) := by
  unfold numE at e ⊢
  split at e
  · cases e
  · rename_i a h1
    have ha := part1_le ht h1
    have hs := stp_le s t 45 ht
    have e1 : part1 S (o + t) = .ok (o + a) := by
      unfold part1 at h1 ⊢
      rw [h.stp ht 45 (by omega) (by omega)]
      have := h.iff hs.2 48 (by omega) (by omega) (by omega)
      split at h1
      · rename_i hc
        cases h1
        rw [if_pos (this.2 hc), Nat.add_assoc]
      · rename_i hc
        rw [if_neg (fun x => hc (this.1 x))]
        exact h.dgE hs.2 h1
    rw [e1]
    simp only
    split at e
    · cases e
    · rename_i c h2
      have hc' := part2_le ha h2
      have e2 : part2 S (o + a) = .ok (o + c) := by
        unfold part2 at h2 ⊢
        have := h.iff ha 46 (by omega) (by omega) (by omega)
        split at h2
        · rename_i hc
          rw [if_pos (this.2 hc)]
          exact h.dgE (t := a + 1) (by have := (lk_is (c := 46) hc).1; omega) h2
        · rename_i hc
          cases h2
          rw [if_neg (fun x => hc (this.1 x))]
      rw [e2]
      simp only
      unfold part3 at e ⊢
      have i1 := h.iff hc' 101 (by omega) (by omega) (by omega)
      have i2 := h.iff hc' 69 (by omega) (by omega) (by omega)
      split at e
      · rename_i hx
        have hl := (lk_is (c := 101) hx).1
        rw [if_pos (i1.2 hx), show o + c + 1 = o + (c + 1) from rfl, h.sgn (t := c + 1) (by omega)]
        exact h.dgE (sgn_le (by omega)) e
      · rename_i hx
        rw [if_neg (fun x => hx (i1.1 x))]
        split at e
        · rename_i hy
          have hl := (lk_is (c := 69) hy).1
          rw [if_pos (i2.2 hy), show o + c + 1 = o + (c + 1) from rfl, h.sgn (t := c + 1) (by omega)]
          exact h.dgE (sgn_le (by omega)) e
        · rename_i hy
          cases e
          rw [if_neg (fun x => hy (i2.1 x))]
theorem Win.un {s S : ByteArray} {o : Nat} (h : Win s S o) : ∀ (k t n m u : Nat), unF s k t n = .ok (m, u) → unF S k (o + t) n = .ok (m, o + u)
  | 0, t, n, m, u, e => by
    rw [unF] at e ⊢
    cases e
    rfl
  | k + 1, t, n, m, u, e => by
    rw [unF] at e ⊢
    split at e
    · cases e
    · rename_i hx
      have hl := hexV_lt hx
      rw [h.at' t hl, if_neg hx]
      have := h.un k (t + 1) _ m u e
      rw [← this]
      rfl
theorem Win.isU {s S : ByteArray} {o : Nat} (h : Win s S o) {t : Nat} (ht : t ≤ s.size) : isU S (o + t) = isU s t := by
  unfold Go.Proofs.YtabhlhgfacpohaaDoor.isU
  have i1 := h.iff ht 92 (by omega) (by omega) (by omega)
  by_cases hc : lk s t = 92
  · have hl := (lk_is (c := 92) hc).1
    have i2 := h.iff (t := t + 1) (by omega) 117 (by omega) (by omega) (by omega)
    rw [decide_eq_true hc, decide_eq_true (i1.2 hc), show o + t + 1 = o + (t + 1) from rfl]
    congr 1
    exact decide_eq_decide.2 i2
  · rw [decide_eq_false hc, decide_eq_false (fun x => hc (i1.1 x))]
    rfl
theorem Win.us {s S : ByteArray} {o : Nat} (h : Win s S o) : ∀ (k t : Nat) (us0 us : List Nat) (u : Nat), t ≤ s.size → s.size ≤ t + k → usF s k t us0 = .ok (us, u) → ∀ k', s.size ≤ t + k' → usF S k' (o + t) us0 = .ok (us, o + u)
  | 0, t, us0, us, u, ht, hk, e, k', hk' => by
    rw [usF] at e
    cases e
    have hf : Go.Proofs.YtabhlhgfacpohaaDoor.isU S (o + t) = false := by
      rw [h.isU ht]
      unfold Go.Proofs.YtabhlhgfacpohaaDoor.isU
      rw [lk_out (by omega)]
      rfl
    match k' with
    | 0 => rw [usF]
    | k' + 1 => rw [usF, hf]; rfl
  | k + 1, t, us0, us, u, ht, hk, e, k', hk' => by
    rw [usF] at e
    have hi := h.isU ht
    split at e
    · rename_i hu
      have h4 := isU_iff hu
      obtain ⟨k'', rfl⟩ : ∃ k'', k' = k'' + 1 := ⟨k' - 1, by omega⟩
      rw [usF, hi, if_pos hu]
      split at e
      · cases e
      · rename_i n v hv
        have hk2 := unitE_ok hv
        have : unitE S (o + t + 2) = .ok (n, o + v) := h.un 4 (t + 2) 0 n v hv
        rw [this]
        simp only
        exact h.us k v _ us u hk2.2.2 (by omega) e k'' (by omega)
    · rename_i hu
      cases e
      match k' with
      | 0 => rw [usF]
      | k' + 1 => rw [usF, hi, if_neg hu]
theorem Win.esc {s S : ByteArray} {o : Nat} (h : Win s S o) (hoS : s.size ≤ S.size) {t u : Nat} {m : Bs} (h92 : lk s t = 92) (e : escE s t = .ok (m, u)) : escE S (o + t) = .ok (m, o + u) := by
  have hl := (lk_is (c := 92) h92).1
  unfold escE at e ⊢
  rw [h.isU (by omega)]
  split at e
  · rename_i hu
    rw [if_pos hu]
    unfold usE at e ⊢
    split at e
    · cases e
    · rename_i us v hv
      rw [h.us s.size t [] us v (by omega) (by omega) hv S.size (by omega)]
      cases e
      rfl
  · rename_i hu
    rw [if_neg hu]
    split at e
    · rename_i c hc
      cases e
      have hne : lk s (t + 1) ≠ -1 := by
        intro x
        rw [x] at hc
        unfold letB at hc
        rw [if_pos rfl] at hc
        cases hc
      rw [show o + t + 1 = o + (t + 1) from rfl, h.eq hne, hc]
      rfl
    · cases e
theorem Win.qd {s S : ByteArray} {o : Nat} (h : Win s S o) (hoS : s.size ≤ S.size) : ∀ (k t : Nat) (out q : Bs) (u : Nat), qdF s k t out = .ok (q, u) → ∀ k', k ≤ k' → qdF S k' (o + t) out = .ok (q, o + u)
  | 0, t, out, q, u, e, k', hk => by
    rw [qdF] at e
    cases e
  | k + 1, t, out, q, u, e, k', hk => by
    obtain ⟨k'', rfl⟩ : ∃ k'', k' = k'' + 1 := ⟨k' - 1, by omega⟩
    rw [qdF] at e
    have hne : lk s t ≠ -1 := by
      intro x
      rw [x, if_neg (by omega), if_pos (by omega)] at e
      cases e
    rw [qdF, h.eq hne]
    split at e
    · rename_i hc
      cases e
      rw [if_pos hc]
      rfl
    · rename_i n1
      rw [if_neg n1]
      split at e
      · cases e
      · rename_i n2
        rw [if_neg n2]
        split at e
        · rename_i hc
          rw [if_pos hc]
          split at e
          · cases e
          · rename_i m v hv
            rw [h.esc hoS hc hv]
            exact h.qd hoS k v _ q u e k'' (by omega)
        · rename_i hc
          rw [if_neg hc]
          exact h.qd hoS k (t + 1) _ q u e k'' (by omega)
theorem Win.quot {s S : ByteArray} {o : Nat} (h : Win s S o) (hoS : s.size ≤ S.size) {t u : Nat} {q : Bs} (e : quotE s t = .ok (q, u)) : quotE S (o + t) = .ok (q, o + u) := by
  unfold quotE at e ⊢
  split at e
  · cases e
  · rename_i v hv
    rw [h.need _ _ _ hv]
    exact h.qd hoS _ v _ q u e _ (by omega)
end Go.Proofs.YtabhlhgfacpohaaDoor
