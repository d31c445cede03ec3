/- Texts of this proof, one behind the other: what each says stands ahead of it. -/
import Derived.Test.YtohcngiiijokkaaDoorM25
import Derived.Test.YtohcngiiijokkaaDoorM27
/- What is unpacked by a greater bound, ahead of more bytes, and at another place; parts of two files one behind the other: plain facts; no condition beside those told. -/
namespace Go.Proofs.YtohcngiiijokkaaDoor
namespace Inf

theorem ag_up {fd : Nat → Nat} {ld : Nat} {s : ByteArray} {m m' sym t : Nat} {out : List Nat} {e t2 : Nat} {out2 : List Nat} (h : ag fd ld s m sym t out = (e, t2, out2)) (he : e ≠ 2) (hm : m ≤ m') : ag fd ld s m' sym t out = (e, t2, out2) := by
  unfold ag at h ⊢
  by_cases c1 : 285 < sym
  · rw [if_pos c1] at h ⊢; exact h
  rw [if_neg c1] at h ⊢
  by_cases c2 : 8 * s.size < t + lb sym
  · rw [if_pos c2] at h ⊢; exact h
  rw [if_neg c2] at h ⊢
  obtain ⟨er, d, t1, hn⟩ : ∃ er d t1, nx fd ld s (t + lb sym) = (er, d, t1) := ⟨_, _, _, rfl⟩
  simp only [hn] at h ⊢
  by_cases c3 : er ≠ 0
  · rw [if_pos c3] at h ⊢; exact h
  rw [if_neg c3] at h ⊢
  by_cases c4 : 29 < d
  · rw [if_pos c4] at h ⊢; exact h
  rw [if_neg c4] at h ⊢
  by_cases c5 : 8 * s.size < t1 + db d
  · rw [if_pos c5] at h ⊢; exact h
  rw [if_neg c5] at h ⊢
  by_cases c6 : out.length < dl d + Bt.rval s t1 (db d)
  · rw [if_pos c6] at h ⊢; exact h
  rw [if_neg c6] at h ⊢
  by_cases c7 : m < out.length + (lenN sym + Bt.rval s t (lb sym))
  · rw [if_pos c7] at h
    simp only [Prod.mk.injEq] at h
    exact absurd h.1.symm he
  rw [if_neg c7] at h
  rw [if_neg (by omega)]
  exact h
theorem st_up {s : ByteArray} {m m' t : Nat} {out : List Nat} {e t2 : Nat} {out2 : List Nat} (h : st s m t out = (e, t2, out2)) (he : e ≠ 2) (hm : m ≤ m') : st s m' t out = (e, t2, out2) := by
  obtain ⟨q, hq⟩ : ∃ q, (t + 7) / 8 = q := ⟨_, rfl⟩
  obtain ⟨n, hn⟩ : ∃ n, Bt.byteN s q + 256 * Bt.byteN s (q + 1) = n := ⟨_, rfl⟩
  unfold st at h ⊢
  simp only [hq, hn] at h ⊢
  by_cases c1 : s.size < q + 2
  · rw [if_pos c1] at h ⊢; exact h
  rw [if_neg c1] at h ⊢
  by_cases c2 : s.size < q + 4
  · rw [if_pos c2] at h ⊢; exact h
  rw [if_neg c2] at h ⊢
  by_cases c3 : Bt.byteN s (q + 2) + 256 * Bt.byteN s (q + 3) ≠ 65535 - n
  · rw [if_pos c3] at h ⊢; exact h
  rw [if_neg c3] at h ⊢
  by_cases c4 : m < out.length + n
  · rw [if_pos c4] at h
    simp only [Prod.mk.injEq] at h
    exact absurd h.1.symm he
  rw [if_neg c4] at h
  rw [if_neg (by omega)]
  exact h
theorem sy_up {fl : Nat → Nat} {ll : Nat} {fd : Nat → Nat} {ld : Nat} {s : ByteArray} {m m' t : Nat} {out : List Nat} {e t' : Nat} {o : List Nat} (h : Sy fl ll fd ld s m t out e t' o) (hm : m ≤ m') : e ≠ 2 → Sy fl ll fd ld s m' t out e t' o := by
  induction h with
  | err t out e i t1 n he => intro _; exact .err t out e i t1 n he
  | fin t out t1 n => intro _; exact .fin t out t1 n
  | full => intro h0; exact absurd rfl h0
  | lit t out i t1 n hi hl e t' out' r ih => intro h0; exact .lit t out i t1 n hi (by omega) e t' out' (ih h0)
  | agErr t out i t1 n hi e t2 out2 a he => intro h0; exact .agErr t out i t1 n hi e t2 out2 (ag_up a h0 hm) he
  | ag t out i t1 n hi t2 out2 a e t' out' r ih => intro h0; exact .ag t out i t1 n hi t2 out2 (ag_up a (by decide) hm) e t' out' (ih h0)
theorem bk_up {s : ByteArray} {m m' k t : Nat} {out : List Nat} {e t' : Nat} {o : List Nat} (h : Bk s m k t out e t' o) (hm : m ≤ m') (he : e ≠ 2) : Bk s m' k t out e t' o := by
  cases h with
  | stored _ _ _ _ _ h => exact .stored t out e t' o (st_up h he hm)
  | fixed _ _ _ _ _ h => exact .fixed t out e t' o (sy_up h hm he)
  | head _ _ _ _ told h he => exact .head t out e t' told h he
  | dyn _ _ t1 told h _ _ _ r => exact .dyn t out t1 told h e t' o (sy_up r hm he)
  | bad => exact .bad t out
theorem un_up {s : ByteArray} {m m' t : Nat} {out : List Nat} {e t' : Nat} {o : List Nat} (h : Un s m t out e t' o) (hm : m ≤ m') : e ≠ 2 → Un s m' t out e t' o := by
  induction h with
  | cut1 t out h => intro _; exact .cut1 t out h
  | cut2 t out h h1 => intro _; exact .cut2 t out h h1
  | err t out hf e t' out' b he => intro h0; exact .err t out hf e t' out' (bk_up b hm h0) he
  | last t out hf h1 t' out' b => intro _; exact .last t out hf h1 t' out' (bk_up b hm (by decide))
  | more t out hf h1 t1 out1 b e t' out' r ih => intro h0; exact .more t out hf h1 t1 out1 (bk_up b hm (by decide)) e t' out' (ih h0)
theorem un_bd {s : ByteArray} {m t : Nat} {out : List Nat} {e t' : Nat} {o : List Nat} (h : Un s m t out e t' o) : Bd s m t out → Bd s m t' o := by
  induction h with
  | cut1 t out h => exact id
  | cut2 t out h h1 => intro b; exact b.later (by omega) h
  | err t out hf e t' out' b he => intro k; exact bk_bd b (k.later (by omega) hf)
  | last t out hf h1 t' out' b => intro k; exact bk_bd b (k.later (by omega) hf)
  | more t out hf h1 t1 out1 b e t' out' r ih => intro k; exact ih (bk_bd b (k.later (by omega) hf))
end Inf
namespace Gz

theorem says_up {d : ByteArray} {f m m' : Nat} {S : ByteArray} {N C A : Nat} (h : Says d f m S N C A) (hC : C ≠ 2) (hm : m ≤ m') : Says d f m' S N C A := by
  obtain ⟨er, t', out', hun, ht, hr⟩ := h
  refine ⟨er, t', out', Inf.un_up hun hm ?_, ht, hr⟩
  rcases hr with ⟨h0, _⟩ | ⟨_, _, _, h3, _⟩
  · omega
  · omega
theorem says_more {d : ByteArray} {f m : Nat} {S : ByteArray} {N : Nat} (more : ByteArray) (h : Says d f m S N 0 0) : Says (d ++ more) f m S N 0 0 := by
  obtain ⟨er, t', out', hun, ht, hr⟩ := h
  rcases hr with ⟨h0, hr⟩ | ⟨h0, _, _, hC, _⟩
  · subst h0
    exact ⟨0, t', out', (pre_append d more).un hun (Inf.bd_zero _ _) (by decide), by rw [ByteArray.size_append]; omega, .inl ⟨rfl, hr⟩⟩
  · omega
theorem says_zero {d : ByteArray} {f m : Nat} {S : ByteArray} {N A : Nat} (h : Says d f m S N 0 A) : A = 0 := by
  obtain ⟨er, t', out', hun, ht, hr⟩ := h
  rcases hr with ⟨_, _, _, _, h4⟩ | ⟨h0, _, _, hC, _⟩
  · exact h4
  · omega
theorem says_shift {d : ByteArray} {f m : Nat} {S : ByteArray} {N A : Nat} (o : Nat) (h : Says d f m S N 0 A) : Says d (o + f) m S (o + N) 0 0 := by
  obtain ⟨er, t', out', hun, ht, hr⟩ := h
  refine ⟨er, t', out', hun, ht, ?_⟩
  rcases hr with ⟨h0, h1, h2, h3, h4⟩ | ⟨h0, _, _, hC, _⟩
  · exact .inl ⟨h0, h1, by omega, rfl, rfl⟩
  · omega
theorem says_shiftNo {d : ByteArray} {f m : Nat} {S : ByteArray} {N C A : Nat} (o : Nat) (h : Says d f m S N C A) (hC : C ≠ 0) : Says d (o + f) m S N C (o + A) := by
  obtain ⟨er, t', out', hun, ht, hr⟩ := h
  refine ⟨er, t', out', hun, ht, ?_⟩
  rcases hr with ⟨h0, h1, h2, h3, h4⟩ | ⟨h0, h1, h2, h3, h4⟩
  · omega
  · exact .inr ⟨h0, h1, h2, h3, by omega⟩
/-- What is unpacked is no longer than the bound, and ends within the bytes. -/
theorem says_in {s : ByteArray} {p m : Nat} {S : ByteArray} {N C A : Nat} (hp : p ≤ s.size) (h : Says (s.extract p s.size) p m S N C A) : S.size ≤ m ∧ (C = 0 → p ≤ N ∧ N ≤ s.size) := by
  obtain ⟨er, t', out', hun, ht, hr⟩ := h
  have hsz : (s.extract p s.size).size = s.size - p := by rw [ByteArray.size_extract]; omega
  rcases hr with ⟨h0, h1, h2, h3, h4⟩ | ⟨h0, h1, h2, h3, h4⟩
  · have hb := Inf.un_bd hun (Inf.bd_zero _ _)
    refine ⟨by rw [h1, size_strOf]; exact hb.most, fun _ => by omega⟩
  · subst h1
    exact ⟨by simp, fun h => by omega⟩

theorem Win.pack {s t : ByteArray} {o p m m' : Nat} (h : Win s t o) (hp : p ≤ s.size) (hm : m ≤ m') {S : ByteArray} {e : Nat} (k : packR s p m (.ok (S, e))) : packR t (o + p) m' (.ok (S, o + e)) := by
  have hs := h.size
  obtain ⟨S1, N, C, A, hsy, hm1, hN, hr⟩ := k
  split at hr
  · cases hr
  · rename_i hC
    have hC0 : C = 0 := by omega
    subst hC0
    obtain ⟨g1, g2⟩ := hN rfl
    split at hr
    · cases hr
    · split at hr
      · cases hr
      · split at hr
        · cases hr
        · rename_i h8 h4 h44
          cases hr
          have hA := says_zero hsy
          subst hA
          refine ⟨S, o + N, 0, 0, ?_, by omega, fun _ => by omega, ?_⟩
          · rw [h.rest p hp]
            exact says_more _ (says_shift o (says_up hsy (by decide) hm))
          · rw [if_neg (by decide), if_neg (by omega), h.num 4 N (by omega), if_neg h4, Nat.add_assoc o N 4, h.num 4 (N + 4) (by omega), if_neg h44, Nat.add_assoc]
theorem Win.packNo {s t : ByteArray} {o p m m' : Nat} (h : Win s t o) (he : o + s.size = t.size) (_hp : p ≤ s.size) (hm : m ≤ m') {c a : Nat} (hc : c ≠ 2) (k : packR s p m (.error (c, a))) : packR t (o + p) m' (.error (c, o + a)) := by
  obtain ⟨S1, N, C, A, hsy, hm1, hN, hr⟩ := k
  have hx : t.extract (o + p) t.size = s.extract p s.size := by rw [← he]; exact h.extract p s.size (Nat.le_refl _)
  split at hr
  · rename_i hC
    cases hr
    refine ⟨S1, N, c, o + a, ?_, by omega, fun h => absurd h hC, by rw [if_pos hC]⟩
    rw [hx]
    exact says_shiftNo o (says_up hsy hc hm) hC
  · rename_i hC
    have hC0 : C = 0 := by omega
    subst hC0
    obtain ⟨g1, g2⟩ := hN rfl
    refine ⟨S1, o + N, 0, 0, ?_, by omega, fun _ => by omega, ?_⟩
    · rw [hx]
      exact says_shift o (says_up hsy (by decide) hm)
    · rw [if_neg (by decide)]
      split at hr
      · cases hr
        rw [if_pos (by omega)]
      · rename_i h8
        rw [if_neg (by omega), h.num 4 N (by omega)]
        split at hr
        · cases hr
          rw [if_pos (by assumption)]
        · rw [if_neg (by assumption), Nat.add_assoc o N 4, h.num 4 (N + 4) (by omega)]
          split at hr
          · cases hr
            rw [if_pos (by assumption)]
          · cases hr
theorem Win.part {s t : ByteArray} {o p m m' : Nat} (h : Win s t o) (hm : m ≤ m') {x : Part} {e : Nat} (k : partR s p m (.ok (x, e))) : partR t (o + p) m' (.ok (x, o + e)) := by
  unfold partR at k ⊢
  split at k
  · cases k
  · rename_i f hf
    have k0 := head_in hf
    rw [h.head hf]
    simp only
    split at k
    · cases k
    · rename_i x1 n1 c1 p1 ht
      have k1 := texts_in ht k0.1
      rw [Nat.add_assoc, h.texts k0.1 ht]
      simp only
      split at k
      · cases k
      · rename_i p2 hs
        have k2 := sumAt_in hs k1.2
        rw [h.sumAt k1.2 hs]
        simp only
        obtain ⟨q, hq, hr⟩ := k
        split at hr
        · cases hr
        · rename_i S e1
          cases hr
          refine ⟨_, h.pack k2.2 hm hq, ?_⟩
          simp only
          rw [h.partOf k0.1]
theorem Win.partNo {s t : ByteArray} {o p m m' : Nat} (h : Win s t o) (he : o + s.size = t.size) (hp : p ≤ s.size) (hm : m ≤ m') {c a : Nat} (hc : c ≠ 2) (k : partR s p m (.error (c, a))) : partR t (o + p) m' (.error (c, o + a)) := by
  unfold partR at k ⊢
  split at k
  · rename_i hf
    cases k
    rw [h.headNo he hp hf]
  · rename_i f hf
    have k0 := head_in hf
    rw [h.head hf]
    simp only
    split at k
    · rename_i ht
      cases k
      rw [Nat.add_assoc, h.textsNo he k0.1 ht]
    · rename_i x1 n1 c1 p1 ht
      have k1 := texts_in ht k0.1
      rw [Nat.add_assoc, h.texts k0.1 ht]
      simp only
      split at k
      · rename_i hs
        cases k
        rw [h.sumNo he k1.2 hs]
      · rename_i p2 hs
        have k2 := sumAt_in hs k1.2
        rw [h.sumAt k1.2 hs]
        simp only
        obtain ⟨q, hq, hr⟩ := k
        split at hr
        · cases hr
          exact ⟨_, h.packNo he k2.2 hm hc hq, rfl⟩
        · cases hr
def sizes : List Part → Nat
  | [] => 0
  | x :: l => x.data.size + sizes l
/-- All parts of the first file, then what follows. -/
theorem rd_first {s t : ByteArray} (h : Win s t 0) {p most n : Nat} {r : Except Bad (List Part)} (k : Rd s p most n r) : ∀ {l}, r = .ok l → ∀ {most'}, most ≤ most' → p ≤ s.size → (l.length + n < 1024 ∨ s.size = t.size) → sizes l ≤ most ∧ ∀ {r2}, (l.length + n ≠ 0 → Rd t s.size (most' - sizes l) (l.length + n) r2) → Rd t p most' n (addTo l r2) := by
  induction k with
  | fin p most n h0 hp =>
    intro l hl most' hm hps hn
    cases hl
    refine ⟨by simp [sizes], fun {r2} hr => ?_⟩
    rw [addTo_nil]
    obtain rfl : p = s.size := by omega
    have := hr (by simpa using h0)
    simpa [sizes] using this
  | many => intro l hl; cases hl
  | bad => intro l hl; cases hl
  | later => intro l hl; cases hl
  | more p most n hg hn x e k l r ih =>
    intro l2 hl most' hm hps hlen
    cases hl
    have hin := part_in k
    obtain ⟨i1, i2⟩ := ih rfl (most' := most' - x.data.size) (by omega) (by omega) (by
      simp only [List.length_cons] at hlen
      omega)
    refine ⟨by simp only [sizes]; omega, fun {r2} hr => ?_⟩
    have kk := h.part hm k
    rw [Nat.zero_add, Nat.zero_add] at kk
    have hz := h.size
    have hrest : Rd t e (most' - x.data.size) (n + 1) (addTo l r2) := i2 (fun hne => by
      have := hr (by simp)
      simp only [sizes, List.length_cons] at this
      rw [show l.length + (n + 1) = l.length + 1 + n by omega, Nat.sub_sub]
      exact this)
    cases hr2 : addTo l r2 with
    | error b =>
      rw [hr2] at hrest
      have e1 : addTo (x :: l) r2 = .error b := by
        cases r2 with
        | error b2 => exact hr2
        | ok l2 => cases hr2
      rw [e1]
      exact .later p most' n (by omega) hn x e kk b hrest
    | ok l3 =>
      rw [hr2] at hrest
      have e1 : addTo (x :: l) r2 = .ok (x :: l3) := by
        cases r2 with
        | error b2 => cases hr2
        | ok l2 => cases hr2; rfl
      rw [e1]
      exact .more p most' n (by omega) hn x e kk l3 hrest
/-- What follows: the parts of the second file, or too many, or what is wrong with it. -/
theorem rd_second {s t : ByteArray} {o : Nat} (h : Win s t o) (he : o + s.size = t.size) {p most n : Nat} {r : Except Bad (List Part)} (k : Rd s p most n r) : ∀ {most' n'}, most ≤ most' → p ≤ s.size → n ≤ n' → n' ≤ 1024 → (n' ≠ 0) → (n = 0 → p < s.size) →
    (∀ l, r = .ok l → (l.length + n' ≤ 1024 → Rd t (o + p) most' n' (.ok l)) ∧ (1024 < l.length + n' → ∃ a, Rd t (o + p) most' n' (.error (16, a)))) ∧
    (∀ c a, r = .error (c, a) → c ≠ 2 → c ≠ 0 → ∃ c2 a2, c2 ≠ 0 ∧ Rd t (o + p) most' n' (.error (c2, a2))) := by
  induction k with
  | fin p most n h0 hp =>
    intro most' n' hm hps hn hn' hn0 hz
    refine ⟨fun l hl => ?_, fun c a hc => by cases hc⟩
    cases hl
    refine ⟨fun _ => .fin _ _ _ hn0 (by omega), fun h => ?_⟩
    simp only [List.length_nil] at h
    omega
  | many p most n hp hn =>
    intro most' n' hm hps hnn hn' hn0 hz
    refine ⟨fun l hl => (by cases hl), fun c a hc _ _ => ⟨16, o + p, by decide, .many _ _ _ (by omega) (by omega)⟩⟩
  | bad p most n hg hn b k =>
    intro most' n' hm hps hnn hn' hn0 hz
    refine ⟨fun l hl => (by cases hl), fun c a hc h2 h0 => ?_⟩
    cases hc
    by_cases hmany : n' = 1024
    · exact ⟨16, o + p, by decide, .many _ _ _ (by omega) hmany⟩
    · exact ⟨c, o + a, h0, .bad _ _ _ (.inr (by omega)) (by omega) _ (h.partNo he hps hm h2 k)⟩
  | more p most n hg hn x e k l r ih =>
    intro most' n' hm hps hnn hn' hn0 hz
    have hin := part_in k
    refine ⟨fun l2 hl => ?_, fun c a hc => by cases hc⟩
    cases hl
    by_cases hmany : n' = 1024
    · refine ⟨fun h => ?_, fun _ => ⟨o + p, .many _ _ _ (by omega) hmany⟩⟩
      simp only [List.length_cons] at h
      omega
    · have hi := (ih (most' := most' - x.data.size) (n' := n' + 1) (by omega) (by omega) (by omega) (by omega) (by omega) (by omega)).1 l rfl
      have kk := h.part hm k
      simp only [List.length_cons]
      refine ⟨fun hle => .more _ _ _ (.inr (by omega)) (by omega) x _ kk l (hi.1 (by omega)), fun hgt => ?_⟩
      obtain ⟨a, ha⟩ := hi.2 (by omega)
      exact ⟨a, .later _ _ _ (.inr (by omega)) (by omega) x _ kk _ ha⟩
  | later p most n hg hn x e k b r ih =>
    intro most' n' hm hps hnn hn' hn0 hz
    have hin := part_in k
    refine ⟨fun l hl => (by cases hl), fun c a hc h2 h0 => ?_⟩
    cases hc
    by_cases hmany : n' = 1024
    · exact ⟨16, o + p, by decide, .many _ _ _ (by omega) hmany⟩
    · obtain ⟨c2, a2, hc2, hr2⟩ := (ih (most' := most' - x.data.size) (n' := n' + 1) (by omega) (by omega) (by omega) (by omega) (by omega) (by omega)).2 c a rfl h2 h0
      exact ⟨c2, a2, hc2, .later _ _ _ (.inr (by omega)) (by omega) x _ (h.part hm k) _ hr2⟩
end Gz
end Go.Proofs.YtohcngiiijokkaaDoor

/- A reader of parts: packed; conditions: those told. -/
namespace Go.Proofs.YtohcngiiijokkaaDoor
open Go.RowKit

/-- A text and a place further on, or a fault. -/
def TPost (w : World) (b : Nat) (s : ByteArray) : Except Gz.Bad (ByteArray × Nat) → Ending → World → Prop
  | .error x, e, w' => e = .returned (.tuple #[.string ⟨#[]⟩, .agg #[.int .i64 (x.1 : Nat), .int .i64 (x.2 : Nat)]]) ∧ Touch (fun k => k = b) w w'
  | .ok x, e, w' => e = .returned (.tuple #[.string x.1, .agg #[.int .i64 0, .int .i64 0]]) ∧ GStep w w' b s x.2
theorem says_small {d : ByteArray} {f m : Nat} {S : ByteArray} {N C A : Nat} (h : Says d f m S N C A) : S.size ≤ 400000 * d.size := by
  obtain ⟨er, t', out', hun, ht, hr⟩ := h
  rcases hr with ⟨_, h1, _⟩ | ⟨_, h1, _⟩
  · have hb := (Inf.un_bd hun (Inf.bd_zero _ _)).bits
    rw [h1, size_strOf]
    omega
  · rw [h1]
    simp
set_option maxRecDepth 100000 in
set_option maxHeartbeats 8000000 in
theorem packed_any (b : Nat) (s : ByteArray) (t most : Nat) (w : World) (r : Gr w b s t) (hq : Quart w) (hb0 : b ≠ 0) (hs : s.size ≤ 140737488) (ht : t ≤ s.size) (hm : most ≤ 9223372036854775807) :
    Calls Tryd.prog 19 #[.pointer (some ⟨b, 0, none⟩), .int .i64 (most : Nat)] w fun e w' => ∃ x, Gz.packR s t most x ∧ TPost w b s x e w' := by
  have KU := hid (fun w => Unpack_says s t most w (by omega) ht hm (.inr (by omega)))
  have T0 := hid ((Touch.refl (fun _ => False) w).alloc (.cells #[.int .i64 0, .int .i64 0] 26))
  have r0 := r.new T0.out id
  have FB0 := hid (two_new (w := w) (.int .i64 0) (.int .i64 0) 26)
  have HB := hid r.lt
  have Q0 := hid (hq.new T0.out id)
  have c0 := r0.c0
  have c1 := r0.c1
  have R0 := hid r0
  clear r r0 hq
  go_enter Tryd.func19, Tryd.ntmps19
  go_upto_region 1 with fail
  generalize w.alloc (.cells #[.int .i64 0, .int .i64 0] 26) = w0 at *
  obtain ⟨q, hq⟩ : ∃ q, q = w.heap.size := ⟨_, rfl⟩
  rw [← hq] at FB0 ⊢
  have HQ := hid (show w.heap.size ≤ q ∧ b < q from ⟨by omega, by have := HB.out; omega⟩)
  clear hq HB
  have RA := hid (R0.out.new ((Touch.refl (fun _ => False) w0).alloc (.cells #[.int .i64 0, .int .i64 0] 26)) id)
  have c0a := RA.out.c0
  have c1a := RA.out.c1
  have HW0 := hid (show q < w0.heap.size from lt_of_block FB0.out)
  go_cut [6, 7, 8] (fun v6 v7 v8 wd => ∃ (S : ByteArray) (N C A q8 : Nat), v6 = .string S ∧ v7 = .int .i64 (N : Nat) ∧ v8 = .pointer (some ⟨q8, 0, none⟩) ∧ Says (s.extract t s.size) t most S N C A ∧ wd.heap[q8]? = some (.cells #[.int .i64 (C : Nat), .int .i64 (A : Nat)] 26 (0, 0)) ∧ q < q8 ∧ Touch (fun _ => False) w0 wd)
  case first =>
    go_region_with (go_at_call 29; refine (KU.out _).mono ?_; rintro e w2 ⟨S, N, C, A, rfl, hsy, tc⟩; have HSY := hid hsy; have TC := hid tc; (try (have jb : w2.heap[w0.heap.size]? = some (.cells #[.int .i64 0, .int .i64 0] 26 (0, 0)) := (tc.block _ (by simp) id).trans (by show (w0.heap.push _)[_]? = _; simp); have JB := hid jb; have j0 := cell_two0 jb; have j1 := cell_two1 jb; have jf0 := free_two (i := 0) jb; have jf1 := free_two (i := 1) jb; clear jb)); clear hsy tc)
    all_goals
      go_wp2_with fail
      go_meet
      case rel => first
        | exact ⟨S, N, C, A, _, rfl, rfl, rfl, HSY.out, two_new _ _ _, Nat.lt_of_lt_of_le HW0.out TC.out.size, (((Touch.refl (fun _ => False) w0).drew.trans TC.out (fun _ _ e => e)).alloc _)⟩
        | exact ⟨S, N, C, A, w0.heap.size, rfl, rfl, rfl, HSY.out, fset JB.out _ _, HW0.out, ftouch (((Touch.refl (fun _ => False) w0).alloc _).drew.trans TC.out (fun _ _ e => e)) (Nat.le_refl _) _ _⟩
  obtain ⟨S, N, C, A, q8, rfl, rfl, rfl, hsy, hb8, hq8, tc⟩ := hcut
  have HIN := hid (Gz.says_in ht hsy)
  have HSY := hid hsy
  have T1 := hid (T0.out.trans tc (fun _ _ e => e))
  have R1 := hid (R0.out.new tc id)
  have Q1 := hid (Q0.out.new tc id)
  have FB1 := hid ((tc.block q (lt_of_block FB0.out) id).trans FB0.out)
  have H8 := hid hq8
  have k0 := cell_two0 hb8
  have k1 := cell_two1 hb8
  have B8 := hid hb8
  clear hsy tc hb8 hq8 T0 R0 Q0 FB0 RA c0 c1 c0a c1a KU HW0
  by_cases hC : C = 0
  · subst hC
    have r1 := R1.out
    have c1 := r1.c1
    have f1 := r1.f1
    obtain ⟨hN1, hN2⟩ := HIN.out.2 rfl
    have GS := hid (r1.set (Touch.refl (fun _ => False) wc) N)
    have hqb : q ≠ b := by have := HQ.out; omega
    have FB2 := hid (show (wc.setCell ⟨b, 1, none⟩ (.int .i64 (N : Nat))).heap[q]? = some (.cells #[.int .i64 0, .int .i64 0] 26 (0, 0)) from (Below.heap_setCell wc _ _ _ hqb).trans FB1.out)
    have T2 := hid ((T1.out.one b).trans GS.out.touch (fun _ _ e => e))
    have Q2 := hid (Q1.out.new GS.out.touch (fun e => hb0 e.symm))
    have HNN := hid (show t ≤ N ∧ N ≤ s.size from ⟨hN1, hN2⟩)
    have HQB := hid hqb
    clear r1 hqb hN1 hN2 T1 R1 Q1 FB1 B8
    go_wp2_with fail
    generalize wc.setCell ⟨b, 1, none⟩ (.int .i64 (N : Nat)) = w2 at *
    by_cases h8 : s.size < N + 8
    · refine (gtake_no b s N 8 w2 GS.out.gr (by omega) (by omega) HNN.out.2 h8).mono ?_
      rintro e w3 ⟨rfl, t3⟩
      have T3 := hid (T2.out.trans t3 (fun _ _ e => e.elim))
      have R3 := hid (GS.out.gr.new t3 id)
      have FB3 := hid ((t3.block q (lt_of_block FB2.out) id).trans FB2.out)
      clear t3 T2 FB2 Q2 k0 k1 c1 f1
      go_wp2_with fail
      refine (fault_any b s N 3 w3 R3.out).mono ?_
      rintro e w4 ⟨rfl, t4⟩
      have T4 := hid (T3.out.trans t4 (fun _ _ e => e.elim))
      have fb := (t4.block q (lt_of_block FB3.out) id).trans FB3.out
      clear t4 T3 R3 FB3
      have g0 := cell_two0 fb
      have g1 := cell_two1 fb
      have gf0 := free_two (i := 0) fb
      have gf1 := free_two (i := 1) fb
      have FB := hid fb
      clear fb
      go_wp2
      refine bodyPost_ret (results_tc rfl _ _ q 26 _ (0, 0) _ rfl (fset FB.out _ _) Tryd.underlying26 rfl (by kernel_rfl)) rfl ?_
      exact ⟨.error (3, N), ⟨S, N, 0, A, HSY.out, HIN.out.1, fun _ => HNN.out, by rw [if_neg (by decide), if_pos h8]⟩, rfl, ftouch T4.out HQ.out.1 _ _⟩
    · have hx8 : (s.extract N (N + 8)).size = 8 := by rw [ByteArray.size_extract]; omega
      have e1 : (s.extract N (N + 8)).extract 0 4 = s.extract N (N + 4) := by
        rw [ByteArray.extract_extract]
        congr 1
        omega
      have e2 : (s.extract N (N + 8)).extract 4 8 = s.extract (N + 4) (N + 8) := by
        rw [ByteArray.extract_extract]
        congr 1
        omega
      have KN1 := hid (fun w => number_cut s N 4 (by omega) (by decide) w)
      have KN2 := hid (fun w => number_cut s (N + 4) 4 (by omega) (by decide) w)
      rw [show N + 4 + 4 = N + 8 by omega] at KN2
      rw [← e1] at KN1
      rw [← e2] at KN2
      have KT := hid (fun w r => gtake_yes b s N 8 w r (by omega) (by omega))
      have hSz : S.size ≤ 140737488355328 := by
        have h1 := says_small HSY.out
        rw [ByteArray.size_extract] at h1
        omega
      have KS := hid (fun w hq => sum_any S hSz w hq)
      obtain ⟨n1, hn1⟩ : ∃ n, n = Gz.num s N 4 := ⟨_, rfl⟩
      obtain ⟨n2, hn2⟩ : ∃ n, n = Gz.num s (N + 4) 4 := ⟨_, rfl⟩
      obtain ⟨m1, hm1⟩ : ∃ n, n = Gz.sum S := ⟨_, rfl⟩
      have HPK := hid (show ∀ x, x = (if n1 ≠ m1 then Except.error (10, N) else if n2 ≠ S.size then .error (11, N + 4) else .ok (S, N + 8)) → Gz.packR s t most x from fun x hx => ⟨S, N, 0, A, HSY.out, HIN.out.1, fun _ => HNN.out, by rw [if_neg (by decide), if_neg h8, hx, hn1, hn2, hm1]⟩)
      simp only [← hn1] at KN1
      simp only [← hn2] at KN2
      simp only [← hm1] at KS
      generalize s.extract N (N + 8) = x8 at *
      clear e1 e2 hn1 hn2 hm1 k0 k1 c1 f1
      refine (KT.out w2 GS.out.gr).mono ?_
      rintro e w3 ⟨rfl, g3⟩
      have T3 := hid (T2.out.trans g3.touch (fun _ _ e => e))
      have R3 := hid g3.gr
      have FB3 := hid ((g3.touch.block q (lt_of_block FB2.out) HQB.out).trans FB2.out)
      have Q3 := hid (Q2.out.new g3.touch (fun e => hb0 e.symm))
      clear g3 T2 FB2 Q2 GS KT
      go_wp2_with fail
      refine (KN1.out w3).mono ?_
      rintro e w4 ⟨rfl, rfl⟩
      clear KN1
      go_wp2_with fail
      refine (KS.out w3 Q3.out).mono ?_
      rintro e w4 ⟨rfl, rfl⟩
      clear KS
      have fb := FB3.out
      have g0 := cell_two0 fb
      have g1 := cell_two1 fb
      have gf0 := free_two (i := 0) fb
      have gf1 := free_two (i := 1) fb
      clear fb
      by_cases h10 : n1 ≠ m1
      · have hI : ((n1 : Int) == (m1 : Int)) = false := by simp; omega
        have H10 := hid h10
        clear h10
        go_wp2
        refine bodyPost_ret (results_tc rfl _ _ q 26 _ (0, 0) _ rfl (fset FB3.out _ _) Tryd.underlying26 rfl (by kernel_rfl)) rfl ?_
        exact ⟨.error (10, N), HPK.out _ (by rw [if_pos H10.out]), rfl, ftouch T3.out HQ.out.1 _ _⟩
      · have hI : ((n1 : Int) == (m1 : Int)) = true := by simp; omega
        have H10 := hid h10
        clear h10
        go_wp2_with fail
        refine (KN2.out w3).mono ?_
        rintro e w4 ⟨rfl, rfl⟩
        clear KN2
        by_cases h11 : n2 ≠ S.size
        · have hI2 : ((n2 : Int) == (S.size : Int)) = false := by simp; omega
          have H11 := hid h11
          clear h11
          go_wp2
          refine bodyPost_ret (results_tc rfl _ _ q 26 _ (0, 0) _ rfl (fset FB3.out _ _) Tryd.underlying26 rfl (by kernel_rfl)) rfl ?_
          exact ⟨.error (11, N + 4), HPK.out _ (by rw [if_neg H10.out, if_pos H11.out]), rfl, ftouch T3.out HQ.out.1 _ _⟩
        · have hI2 : ((n2 : Int) == (S.size : Int)) = true := by simp; omega
          have H11 := hid h11
          clear h11
          go_wp2
          refine bodyPost_ret (results_tc rfl _ _ q 26 _ (0, 0) _ rfl (fset FB3.out _ _) Tryd.underlying26 rfl (by kernel_rfl)) rfl ?_
          exact ⟨.ok (S, N + 8), HPK.out _ (by rw [if_neg H10.out, if_neg H11.out]), rfl, ⟨R3.out.fset (Ne.symm HQB.out) _ _, ftouch T3.out HQ.out.1 _ _⟩⟩
  · have hCI : ((C : Int) == 0) = false := by simp; omega
    have HC := hid hC
    have fb := FB1.out
    have g0 := cell_two0 fb
    have g1 := cell_two1 fb
    have gf0 := free_two (i := 0) fb
    have gf1 := free_two (i := 1) fb
    clear fb hC
    go_wp2
    go_region
    all_goals go_wp2
    all_goals
      refine bodyPost_ret (results_tc rfl _ _ q 26 #[.int .i64 (C : Nat), .int .i64 (A : Nat)] (0, 0) _ rfl (fset (w' := wc) FB1.out _ _) Tryd.underlying26 rfl (by kernel_rfl)) rfl ?_
      exact ⟨.error (C, A), ⟨S, N, C, A, HSY.out, HIN.out.1, HIN.out.2, by rw [if_pos HC.out]⟩, rfl, (ftouch (T1.out.one b) HQ.out.1 _ _).drew⟩
end Go.Proofs.YtohcngiiijokkaaDoor
