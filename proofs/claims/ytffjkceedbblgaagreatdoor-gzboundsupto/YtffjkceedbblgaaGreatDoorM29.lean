/- Texts of this proof, one behind the other: what each says stands ahead of it. -/
import Derived.Test.YtffjkceedbblgaaGreatDoorM27
import Derived.Test.YtffjkceedbblgaaGreatDoorM28
/- Plain facts: what is unpacked hangs on the bound only in that it is too low or not; no condition beside those told. -/
namespace Go.Proofs.YtffjkceedbblgaaGreatDoor
namespace Inf

/-- By another bound: the same, or too long. -/
theorem ag_bound {fd : Nat → Nat} {ld : Nat} {s : ByteArray} {m sym t : Nat} {out : List Nat} {t2 : Nat} {out2 : List Nat} (h : ag fd ld s m sym t out = (0, t2, out2)) : out.length ≤ out2.length ∧ ∀ m', (out2.length ≤ m' → ag fd ld s m' sym t out = (0, t2, out2)) ∧ (m' < out2.length → ag fd ld s m' sym t out = (2, t2, out)) := by
  unfold ag at h
  by_cases c1 : 285 < sym
  · rw [if_pos c1] at h; simp at h
  rw [if_neg c1] at h
  by_cases c2 : 8 * s.size < t + lb sym
  · rw [if_pos c2] at h; simp at h
  rw [if_neg c2] at h
  obtain ⟨er, d, t1, hn⟩ : ∃ er d t1, nx fd ld s (t + lb sym) = (er, d, t1) := ⟨_, _, _, rfl⟩
  simp only [hn] at h
  by_cases c3 : er ≠ 0
  · rw [if_pos c3] at h
    simp only [Prod.mk.injEq] at h
    exact absurd h.1 c3
  rw [if_neg c3] at h
  by_cases c4 : 29 < d
  · rw [if_pos c4] at h; simp at h
  rw [if_neg c4] at h
  by_cases c5 : 8 * s.size < t1 + db d
  · rw [if_pos c5] at h; simp at h
  rw [if_neg c5] at h
  by_cases c6 : out.length < dl d + Bt.rval s t1 (db d)
  · rw [if_pos c6] at h; simp at h
  rw [if_neg c6] at h
  by_cases c7 : m < out.length + (lenN sym + Bt.rval s t (lb sym))
  · rw [if_pos c7] at h; simp at h
  rw [if_neg c7] at h
  simp only [Prod.mk.injEq, true_and] at h
  obtain ⟨rfl, rfl⟩ := h
  have hl := length_again (dl d + Bt.rval s t1 (db d)) (lenN sym + Bt.rval s t (lb sym)) out
  refine ⟨by omega, fun m' => ⟨fun hm => ?_, fun hm => ?_⟩⟩
  · unfold ag
    simp only [hn]
    rw [if_neg c1, if_neg c2, if_neg c3, if_neg c4, if_neg c5, if_neg c6, if_neg (by omega)]
  · unfold ag
    simp only [hn]
    rw [if_neg c1, if_neg c2, if_neg c3, if_neg c4, if_neg c5, if_neg c6, if_pos (by omega)]

theorem st_bound {s : ByteArray} {m t : Nat} {out : List Nat} {t2 : Nat} {out2 : List Nat} (h : st s m t out = (0, t2, out2)) : out.length ≤ out2.length ∧ ∀ m', (out2.length ≤ m' → st s m' t out = (0, t2, out2)) ∧ (m' < out2.length → ∃ t3, st s m' t out = (2, t3, out)) := by
  obtain ⟨q, hq⟩ : ∃ q, (t + 7) / 8 = q := ⟨_, rfl⟩
  obtain ⟨n, hn⟩ : ∃ n, Bt.byteN s q + 256 * Bt.byteN s (q + 1) = n := ⟨_, rfl⟩
  unfold st at h
  simp only [hq, hn] at h
  by_cases c1 : s.size < q + 2
  · rw [if_pos c1] at h; simp at h
  rw [if_neg c1] at h
  by_cases c2 : s.size < q + 4
  · rw [if_pos c2] at h; simp at h
  rw [if_neg c2] at h
  by_cases c3 : Bt.byteN s (q + 2) + 256 * Bt.byteN s (q + 3) ≠ 65535 - n
  · rw [if_pos c3] at h; simp at h
  rw [if_neg c3] at h
  by_cases c4 : m < out.length + n
  · rw [if_pos c4] at h; simp at h
  rw [if_neg c4] at h
  by_cases c5 : s.size < q + 4 + n
  · rw [if_pos c5] at h; simp at h
  rw [if_neg c5] at h
  simp only [Prod.mk.injEq, true_and] at h
  obtain ⟨rfl, rfl⟩ := h
  refine ⟨by simp, fun m' => ⟨fun hm => ?_, fun hm => ⟨8 * (q + 4), ?_⟩⟩⟩
  · simp at hm
    unfold st
    simp only [hq, hn]
    rw [if_neg c1, if_neg c2, if_neg c3, if_neg (by omega), if_neg c5]
  · simp at hm
    unfold st
    simp only [hq, hn]
    rw [if_neg c1, if_neg c2, if_neg c3, if_pos (by omega)]

theorem sy_bound {fl : Nat → Nat} {ll : Nat} {fd : Nat → Nat} {ld : Nat} {s : ByteArray} {m t : Nat} {out : List Nat} {e t' : Nat} {o : List Nat} (h : Sy fl ll fd ld s m t out e t' o) : e = 0 → out.length ≤ o.length ∧ ∀ m', (o.length ≤ m' → Sy fl ll fd ld s m' t out 0 t' o) ∧ (out.length ≤ m' → m' < o.length → ∃ t3 o3, Sy fl ll fd ld s m' t out 2 t3 o3) := by
  induction h with
  | err t out e i t1 n he => intro h0; exact absurd h0 he
  | fin t out t1 n => intro _; exact ⟨Nat.le_refl _, fun m' => ⟨fun _ => .fin t out t1 n, fun h1 h2 => by omega⟩⟩
  | full => intro h0; exact absurd h0 (by decide)
  | lit t out i t1 n hi hm e t' out' r ih =>
    intro h0
    obtain ⟨h1, h2⟩ := ih h0
    simp at h1
    subst h0
    refine ⟨by omega, fun m' => ⟨fun hm' => .lit t out i t1 n hi (by omega) 0 t' out' ((h2 m').1 hm'), fun ha hb => ?_⟩⟩
    by_cases hc : m' ≤ out.length
    · exact ⟨t1, out, .full t out i t1 n hi hc⟩
    · obtain ⟨t3, o3, h3⟩ := (h2 m').2 (by simp; omega) hb
      exact ⟨t3, o3, .lit t out i t1 n hi (by omega) 2 t3 o3 h3⟩
  | agErr t out i t1 n hi e t2 out2 a he => intro h0; exact absurd h0 he
  | ag t out i t1 n hi t2 out2 a e t' out' r ih =>
    intro h0
    obtain ⟨h1, h2⟩ := ih h0
    obtain ⟨g1, g2⟩ := ag_bound a
    subst h0
    refine ⟨by omega, fun m' => ⟨fun hm' => .ag t out i t1 n hi t2 out2 ((g2 m').1 (by omega)) 0 t' out' ((h2 m').1 hm'), fun ha hb => ?_⟩⟩
    by_cases hc : m' < out2.length
    · exact ⟨t2, out, .agErr t out i t1 n hi 2 t2 out ((g2 m').2 hc) (by decide)⟩
    · obtain ⟨t3, o3, h3⟩ := (h2 m').2 (by omega) hb
      exact ⟨t3, o3, .ag t out i t1 n hi t2 out2 ((g2 m').1 (by omega)) 2 t3 o3 h3⟩

theorem bk_bound {s : ByteArray} {m k t : Nat} {out : List Nat} {e t' : Nat} {o : List Nat} (h : Bk s m k t out e t' o) (h0 : e = 0) : out.length ≤ o.length ∧ ∀ m', (o.length ≤ m' → Bk s m' k t out 0 t' o) ∧ (out.length ≤ m' → m' < o.length → ∃ t3 o3, Bk s m' k t out 2 t3 o3) := by
  cases h with
  | stored _ _ _ _ _ h =>
    subst h0
    obtain ⟨h1, h2⟩ := st_bound h
    exact ⟨h1, fun m' => ⟨fun hm => .stored t out 0 t' o ((h2 m').1 hm), fun _ hb => by
      obtain ⟨t3, h3⟩ := (h2 m').2 hb
      exact ⟨t3, out, .stored t out 2 t3 out h3⟩⟩⟩
  | fixed _ _ _ _ _ h =>
    obtain ⟨h1, h2⟩ := sy_bound h h0
    exact ⟨h1, fun m' => ⟨fun hm => .fixed t out 0 t' o ((h2 m').1 hm), fun ha hb => by
      obtain ⟨t3, o3, h3⟩ := (h2 m').2 ha hb
      exact ⟨t3, o3, .fixed t out 2 t3 o3 h3⟩⟩⟩
  | head _ _ _ _ told h he => exact absurd h0 he
  | dyn _ _ t1 told h _ _ _ r =>
    obtain ⟨h1, h2⟩ := sy_bound r h0
    exact ⟨h1, fun m' => ⟨fun hm => .dyn t out t1 told h 0 t' o ((h2 m').1 hm), fun ha hb => by
      obtain ⟨t3, o3, h3⟩ := (h2 m').2 ha hb
      exact ⟨t3, o3, .dyn t out t1 told h 2 t3 o3 h3⟩⟩⟩
  | bad => exact absurd h0 (by decide)

theorem un_bound {s : ByteArray} {m t : Nat} {out : List Nat} {e t' : Nat} {o : List Nat} (h : Un s m t out e t' o) : e = 0 → out.length ≤ o.length ∧ ∀ m', (o.length ≤ m' → Un s m' t out 0 t' o) ∧ (out.length ≤ m' → m' < o.length → ∃ t3 o3, Un s m' t out 2 t3 o3) := by
  induction h with
  | cut1 => intro h0; exact absurd h0 (by decide)
  | cut2 => intro h0; exact absurd h0 (by decide)
  | err t out hf e t' out' b he => intro h0; exact absurd h0 he
  | last t out hf h1 t' out' b =>
    intro _
    obtain ⟨g1, g2⟩ := bk_bound b rfl
    exact ⟨g1, fun m' => ⟨fun hm => .last t out hf h1 t' out' ((g2 m').1 hm), fun ha hb => by
      obtain ⟨t3, o3, h3⟩ := (g2 m').2 ha hb
      exact ⟨t3, o3, .err t out hf 2 t3 o3 h3 (by decide)⟩⟩⟩
  | more t out hf h1 t1 out1 b e t' out' r ih =>
    intro h0
    obtain ⟨i1, i2⟩ := ih h0
    obtain ⟨g1, g2⟩ := bk_bound b rfl
    refine ⟨by omega, fun m' => ⟨fun hm => .more t out hf h1 t1 out1 ((g2 m').1 (by omega)) 0 t' out' ((i2 m').1 hm), fun ha hb => ?_⟩⟩
    by_cases hc : m' < out1.length
    · obtain ⟨t3, o3, h3⟩ := (g2 m').2 ha hc
      exact ⟨t3, o3, .err t out hf 2 t3 o3 h3 (by decide)⟩
    · obtain ⟨t3, o3, h3⟩ := (i2 m').2 (by omega) hb
      exact ⟨t3, o3, .more t out hf h1 t1 out1 ((g2 m').1 (by omega)) 2 t3 o3 h3⟩
end Inf

/-- Bytes behind what there is. -/
theorem pre_append (p q : ByteArray) : Inf.Pre p (p ++ q) := by
  refine ⟨by simp, fun j hj => ?_⟩
  rw [← byte_get p j hj, ← byte_get (p ++ q) j (by simp; omega), ByteArray.getElem_append_left hj]

theorem extract_mid (a d m : ByteArray) : (a ++ d ++ m).extract a.size (a ++ d ++ m).size = d ++ m := by
  rw [ByteArray.append_assoc]
  generalize d ++ m = x
  apply ByteArray.ext
  rw [ByteArray.data_extract, ByteArray.data_append, ByteArray.size_append]
  apply Array.ext'
  rw [Array.toList_extract, Array.toList_append]
  show List.extract (a.data.toList ++ x.data.toList) a.data.size (a.data.size + x.data.size) = _
  rw [List.extract_eq_take_drop, ← Array.length_toList (xs := a.data), List.drop_left, ← Array.length_toList (xs := x.data)]
  simp
  exact List.take_of_length_le (by show x.data.toList.length ≤ x.data.size; rw [Array.length_toList]; exact Nat.le_refl _)

/-- Behind other bytes, and ahead of more: the same. -/
theorem more_says {d more : ByteArray} {f m : Nat} {S : ByteArray} {N : Nat} {S2 : ByteArray} {N2 C2 A2 : Nat} (h : Says d 0 m S N 0 0) (h2 : Says (d ++ more) f m S2 N2 C2 A2) : S2 = S ∧ N2 = f + N ∧ C2 = 0 ∧ A2 = 0 ∧ N ≤ d.size := by
  obtain ⟨er, t', out', hun, ht', hr⟩ := h
  obtain ⟨er2, t2, out2, hun2, ht2, hr2⟩ := h2
  rcases hr with ⟨h0, hS, hN, _, _⟩ | ⟨h0, _, _, hC, _⟩
  · subst h0
    have hx := (pre_append d more).un hun (Inf.bd_zero _ _) (by decide)
    obtain ⟨rfl, rfl, rfl⟩ := hx.det hun2
    rcases hr2 with ⟨_, gS, gN, gC, gA⟩ | ⟨g0, _⟩
    · exact ⟨by rw [gS, hS], by omega, gC, gA, by omega⟩
    · exact absurd rfl g0
  · omega

/-- A bound that is just enough; one that is too low. -/
theorem bound_says {d : ByteArray} {m : Nat} {S : ByteArray} {N : Nat} (h : Says d 0 m S N 0 0) : (∀ S2 N2 C2 A2, Says d 0 S.size S2 N2 C2 A2 → S2 = S ∧ N2 = N ∧ C2 = 0 ∧ A2 = 0) ∧ (0 < S.size → ∀ S2 N2 C2 A2, Says d 0 (S.size - 1) S2 N2 C2 A2 → C2 = 2) := by
  obtain ⟨er, t', out', hun, ht', hr⟩ := h
  rcases hr with ⟨h0, hS, hN, _, _⟩ | ⟨h0, _, _, hC, _⟩
  · subst h0
    obtain ⟨g1, g2⟩ := Inf.un_bound hun rfl
    have hsz : S.size = out'.length := by rw [hS, size_strOf]
    refine ⟨fun S2 N2 C2 A2 h2 => ?_, fun hpos S2 N2 C2 A2 h2 => ?_⟩
    · obtain ⟨er2, t2, out2, hun2, ht2, hr2⟩ := h2
      rw [hsz] at hun2
      obtain ⟨rfl, rfl, rfl⟩ := ((g2 out'.length).1 (Nat.le_refl _)).det hun2
      rcases hr2 with ⟨_, gS, gN, gC, gA⟩ | ⟨g0, _⟩
      · exact ⟨by rw [gS, hS], by omega, gC, gA⟩
      · exact absurd rfl g0
    · obtain ⟨er2, t2, out2, hun2, ht2, hr2⟩ := h2
      rw [hsz] at hun2
      obtain ⟨t3, o3, h3⟩ := (g2 (out'.length - 1)).2 (by simp) (by omega)
      obtain ⟨rfl, rfl, rfl⟩ := h3.det hun2
      rcases hr2 with ⟨g0, _⟩ | ⟨_, _, _, gC, _⟩
      · exact absurd g0 (by decide)
      · exact gC
  · omega
end Go.Proofs.YtffjkceedbblgaaGreatDoor

/- What is unpacked by a greater bound, ahead of more bytes, and at another place; parts of two files one behind the other: plain facts; no condition beside those told. -/
namespace Go.Proofs.YtffjkceedbblgaaGreatDoor
namespace Inf

theorem ag_up {fd : Nat → Nat} {ld : Nat} {s : ByteArray} {m m' sym t : Nat} {out : List Nat} {e t2 : Nat} {out2 : List Nat} (h : ag fd ld s m sym t out = (e, t2, out2)) (he : e ≠ 2) (hm : m ≤ m') : ag fd ld s m' sym t out = (e, t2, out2) := by
  unfold ag at h ⊢
  by_cases c1 : 285 < sym
  · rw [if_pos c1] at h ⊢; exact h
  rw [if_neg c1] at h ⊢
  by_cases c2 : 8 * s.size < t + lb sym
  · rw [if_pos c2] at h ⊢; exact h
  rw [if_neg c2] at h ⊢
  obtain ⟨er, d, t1, hn⟩ : ∃ er d t1, nx fd ld s (t + lb sym) = (er, d, t1) := ⟨_, _, _, rfl⟩
  simp only [hn] at h ⊢
  by_cases c3 : er ≠ 0
  · rw [if_pos c3] at h ⊢; exact h
  rw [if_neg c3] at h ⊢
  by_cases c4 : 29 < d
  · rw [if_pos c4] at h ⊢; exact h
  rw [if_neg c4] at h ⊢
  by_cases c5 : 8 * s.size < t1 + db d
  · rw [if_pos c5] at h ⊢; exact h
  rw [if_neg c5] at h ⊢
  by_cases c6 : out.length < dl d + Bt.rval s t1 (db d)
  · rw [if_pos c6] at h ⊢; exact h
  rw [if_neg c6] at h ⊢
  by_cases c7 : m < out.length + (lenN sym + Bt.rval s t (lb sym))
  · rw [if_pos c7] at h
    simp only [Prod.mk.injEq] at h
    exact absurd h.1.symm he
  rw [if_neg c7] at h
  rw [if_neg (by omega)]
  exact h
theorem st_up {s : ByteArray} {m m' t : Nat} {out : List Nat} {e t2 : Nat} {out2 : List Nat} (h : st s m t out = (e, t2, out2)) (he : e ≠ 2) (hm : m ≤ m') : st s m' t out = (e, t2, out2) := by
  obtain ⟨q, hq⟩ : ∃ q, (t + 7) / 8 = q := ⟨_, rfl⟩
  obtain ⟨n, hn⟩ : ∃ n, Bt.byteN s q + 256 * Bt.byteN s (q + 1) = n := ⟨_, rfl⟩
  unfold st at h ⊢
  simp only [hq, hn] at h ⊢
  by_cases c1 : s.size < q + 2
  · rw [if_pos c1] at h ⊢; exact h
  rw [if_neg c1] at h ⊢
  by_cases c2 : s.size < q + 4
  · rw [if_pos c2] at h ⊢; exact h
  rw [if_neg c2] at h ⊢
  by_cases c3 : Bt.byteN s (q + 2) + 256 * Bt.byteN s (q + 3) ≠ 65535 - n
  · rw [if_pos c3] at h ⊢; exact h
  rw [if_neg c3] at h ⊢
  by_cases c4 : m < out.length + n
  · rw [if_pos c4] at h
    simp only [Prod.mk.injEq] at h
    exact absurd h.1.symm he
  rw [if_neg c4] at h
  rw [if_neg (by omega)]
  exact h
theorem sy_up {fl : Nat → Nat} {ll : Nat} {fd : Nat → Nat} {ld : Nat} {s : ByteArray} {m m' t : Nat} {out : List Nat} {e t' : Nat} {o : List Nat} (h : Sy fl ll fd ld s m t out e t' o) (hm : m ≤ m') : e ≠ 2 → Sy fl ll fd ld s m' t out e t' o := by
  induction h with
  | err t out e i t1 n he => intro _; exact .err t out e i t1 n he
  | fin t out t1 n => intro _; exact .fin t out t1 n
  | full => intro h0; exact absurd rfl h0
  | lit t out i t1 n hi hl e t' out' r ih => intro h0; exact .lit t out i t1 n hi (by omega) e t' out' (ih h0)
  | agErr t out i t1 n hi e t2 out2 a he => intro h0; exact .agErr t out i t1 n hi e t2 out2 (ag_up a h0 hm) he
  | ag t out i t1 n hi t2 out2 a e t' out' r ih => intro h0; exact .ag t out i t1 n hi t2 out2 (ag_up a (by decide) hm) e t' out' (ih h0)
theorem bk_up {s : ByteArray} {m m' k t : Nat} {out : List Nat} {e t' : Nat} {o : List Nat} (h : Bk s m k t out e t' o) (hm : m ≤ m') (he : e ≠ 2) : Bk s m' k t out e t' o := by
  cases h with
  | stored _ _ _ _ _ h => exact .stored t out e t' o (st_up h he hm)
  | fixed _ _ _ _ _ h => exact .fixed t out e t' o (sy_up h hm he)
  | head _ _ _ _ told h he => exact .head t out e t' told h he
  | dyn _ _ t1 told h _ _ _ r => exact .dyn t out t1 told h e t' o (sy_up r hm he)
  | bad => exact .bad t out
theorem un_up {s : ByteArray} {m m' t : Nat} {out : List Nat} {e t' : Nat} {o : List Nat} (h : Un s m t out e t' o) (hm : m ≤ m') : e ≠ 2 → Un s m' t out e t' o := by
  induction h with
  | cut1 t out h => intro _; exact .cut1 t out h
  | cut2 t out h h1 => intro _; exact .cut2 t out h h1
  | err t out hf e t' out' b he => intro h0; exact .err t out hf e t' out' (bk_up b hm h0) he
  | last t out hf h1 t' out' b => intro _; exact .last t out hf h1 t' out' (bk_up b hm (by decide))
  | more t out hf h1 t1 out1 b e t' out' r ih => intro h0; exact .more t out hf h1 t1 out1 (bk_up b hm (by decide)) e t' out' (ih h0)
theorem un_bd {s : ByteArray} {m t : Nat} {out : List Nat} {e t' : Nat} {o : List Nat} (h : Un s m t out e t' o) : Bd s m t out → Bd s m t' o := by
  induction h with
  | cut1 t out h => exact id
  | cut2 t out h h1 => intro b; exact b.later (by omega) h
  | err t out hf e t' out' b he => intro k; exact bk_bd b (k.later (by omega) hf)
  | last t out hf h1 t' out' b => intro k; exact bk_bd b (k.later (by omega) hf)
  | more t out hf h1 t1 out1 b e t' out' r ih => intro k; exact ih (bk_bd b (k.later (by omega) hf))
end Inf
namespace Gz

theorem says_up {d : ByteArray} {f m m' : Nat} {S : ByteArray} {N C A : Nat} (h : Says d f m S N C A) (hC : C ≠ 2) (hm : m ≤ m') : Says d f m' S N C A := by
  obtain ⟨er, t', out', hun, ht, hr⟩ := h
  refine ⟨er, t', out', Inf.un_up hun hm ?_, ht, hr⟩
  rcases hr with ⟨h0, _⟩ | ⟨_, _, _, h3, _⟩
  · omega
  · omega
theorem says_more {d : ByteArray} {f m : Nat} {S : ByteArray} {N : Nat} (more : ByteArray) (h : Says d f m S N 0 0) : Says (d ++ more) f m S N 0 0 := by
  obtain ⟨er, t', out', hun, ht, hr⟩ := h
  rcases hr with ⟨h0, hr⟩ | ⟨h0, _, _, hC, _⟩
  · subst h0
    exact ⟨0, t', out', (pre_append d more).un hun (Inf.bd_zero _ _) (by decide), by rw [ByteArray.size_append]; omega, .inl ⟨rfl, hr⟩⟩
  · omega
theorem says_zero {d : ByteArray} {f m : Nat} {S : ByteArray} {N A : Nat} (h : Says d f m S N 0 A) : A = 0 := by
  obtain ⟨er, t', out', hun, ht, hr⟩ := h
  rcases hr with ⟨_, _, _, _, h4⟩ | ⟨h0, _, _, hC, _⟩
  · exact h4
  · omega
theorem says_shift {d : ByteArray} {f m : Nat} {S : ByteArray} {N A : Nat} (o : Nat) (h : Says d f m S N 0 A) : Says d (o + f) m S (o + N) 0 0 := by
  obtain ⟨er, t', out', hun, ht, hr⟩ := h
  refine ⟨er, t', out', hun, ht, ?_⟩
  rcases hr with ⟨h0, h1, h2, h3, h4⟩ | ⟨h0, _, _, hC, _⟩
  · exact .inl ⟨h0, h1, by omega, rfl, rfl⟩
  · omega
theorem says_shiftNo {d : ByteArray} {f m : Nat} {S : ByteArray} {N C A : Nat} (o : Nat) (h : Says d f m S N C A) (hC : C ≠ 0) : Says d (o + f) m S N C (o + A) := by
  obtain ⟨er, t', out', hun, ht, hr⟩ := h
  refine ⟨er, t', out', hun, ht, ?_⟩
  rcases hr with ⟨h0, h1, h2, h3, h4⟩ | ⟨h0, h1, h2, h3, h4⟩
  · omega
  · exact .inr ⟨h0, h1, h2, h3, by omega⟩
/-- What is unpacked is no longer than the bound, and ends within the bytes. -/
theorem says_in {s : ByteArray} {p m : Nat} {S : ByteArray} {N C A : Nat} (hp : p ≤ s.size) (h : Says (s.extract p s.size) p m S N C A) : S.size ≤ m ∧ (C = 0 → p ≤ N ∧ N ≤ s.size) := by
  obtain ⟨er, t', out', hun, ht, hr⟩ := h
  have hsz : (s.extract p s.size).size = s.size - p := by rw [ByteArray.size_extract]; omega
  rcases hr with ⟨h0, h1, h2, h3, h4⟩ | ⟨h0, h1, h2, h3, h4⟩
  · have hb := Inf.un_bd hun (Inf.bd_zero _ _)
    refine ⟨by rw [h1, size_strOf]; exact hb.most, fun _ => by omega⟩
  · subst h1
    exact ⟨by simp, fun h => by omega⟩

theorem Win.pack {s t : ByteArray} {o p m m' : Nat} (h : Win s t o) (hp : p ≤ s.size) (hm : m ≤ m') {S : ByteArray} {e : Nat} (k : packR s p m (.ok (S, e))) : packR t (o + p) m' (.ok (S, o + e)) := by
  have hs := h.size
  obtain ⟨S1, N, C, A, hsy, hm1, hN, hr⟩ := k
  split at hr
  · cases hr
  · rename_i hC
    have hC0 : C = 0 := by omega
    subst hC0
    obtain ⟨g1, g2⟩ := hN rfl
    split at hr
    · cases hr
    · split at hr
      · cases hr
      · split at hr
        · cases hr
        · rename_i h8 h4 h44
          cases hr
          have hA := says_zero hsy
          subst hA
          refine ⟨S, o + N, 0, 0, ?_, by omega, fun _ => by omega, ?_⟩
          · rw [h.rest p hp]
            exact says_more _ (says_shift o (says_up hsy (by decide) hm))
          · rw [if_neg (by decide), if_neg (by omega), h.num 4 N (by omega), if_neg h4, Nat.add_assoc o N 4, h.num 4 (N + 4) (by omega), if_neg h44, Nat.add_assoc]
theorem Win.packNo {s t : ByteArray} {o p m m' : Nat} (h : Win s t o) (he : o + s.size = t.size) (_hp : p ≤ s.size) (hm : m ≤ m') {c a : Nat} (hc : c ≠ 2) (k : packR s p m (.error (c, a))) : packR t (o + p) m' (.error (c, o + a)) := by
  obtain ⟨S1, N, C, A, hsy, hm1, hN, hr⟩ := k
  have hx : t.extract (o + p) t.size = s.extract p s.size := by rw [← he]; exact h.extract p s.size (Nat.le_refl _)
  split at hr
  · rename_i hC
    cases hr
    refine ⟨S1, N, c, o + a, ?_, by omega, fun h => absurd h hC, by rw [if_pos hC]⟩
    rw [hx]
    exact says_shiftNo o (says_up hsy hc hm) hC
  · rename_i hC
    have hC0 : C = 0 := by omega
    subst hC0
    obtain ⟨g1, g2⟩ := hN rfl
    refine ⟨S1, o + N, 0, 0, ?_, by omega, fun _ => by omega, ?_⟩
    · rw [hx]
      exact says_shift o (says_up hsy (by decide) hm)
    · rw [if_neg (by decide)]
      split at hr
      · cases hr
        rw [if_pos (by omega)]
      · rename_i h8
        rw [if_neg (by omega), h.num 4 N (by omega)]
        split at hr
        · cases hr
          rw [if_pos (by assumption)]
        · rw [if_neg (by assumption), Nat.add_assoc o N 4, h.num 4 (N + 4) (by omega)]
          split at hr
          · cases hr
            rw [if_pos (by assumption)]
          · cases hr
theorem Win.part {s t : ByteArray} {o p m m' : Nat} (h : Win s t o) (hm : m ≤ m') {x : Part} {e : Nat} (k : partR s p m (.ok (x, e))) : partR t (o + p) m' (.ok (x, o + e)) := by
  unfold partR at k ⊢
  split at k
  · cases k
  · rename_i f hf
    have k0 := head_in hf
    rw [h.head hf]
    simp only
    split at k
    · cases k
    · rename_i x1 n1 c1 p1 ht
      have k1 := texts_in ht k0.1
      rw [Nat.add_assoc, h.texts k0.1 ht]
      simp only
      split at k
      · cases k
      · rename_i p2 hs
        have k2 := sumAt_in hs k1.2
        rw [h.sumAt k1.2 hs]
        simp only
        obtain ⟨q, hq, hr⟩ := k
        split at hr
        · cases hr
        · rename_i S e1
          cases hr
          refine ⟨_, h.pack k2.2 hm hq, ?_⟩
          simp only
          rw [h.partOf k0.1]
theorem Win.partNo {s t : ByteArray} {o p m m' : Nat} (h : Win s t o) (he : o + s.size = t.size) (hp : p ≤ s.size) (hm : m ≤ m') {c a : Nat} (hc : c ≠ 2) (k : partR s p m (.error (c, a))) : partR t (o + p) m' (.error (c, o + a)) := by
  unfold partR at k ⊢
  split at k
  · rename_i hf
    cases k
    rw [h.headNo he hp hf]
  · rename_i f hf
    have k0 := head_in hf
    rw [h.head hf]
    simp only
    split at k
    · rename_i ht
      cases k
      rw [Nat.add_assoc, h.textsNo he k0.1 ht]
    · rename_i x1 n1 c1 p1 ht
      have k1 := texts_in ht k0.1
      rw [Nat.add_assoc, h.texts k0.1 ht]
      simp only
      split at k
      · rename_i hs
        cases k
        rw [h.sumNo he k1.2 hs]
      · rename_i p2 hs
        have k2 := sumAt_in hs k1.2
        rw [h.sumAt k1.2 hs]
        simp only
        obtain ⟨q, hq, hr⟩ := k
        split at hr
        · cases hr
          exact ⟨_, h.packNo he k2.2 hm hc hq, rfl⟩
        · cases hr
def sizes : List Part → Nat
  | [] => 0
  | x :: l => x.data.size + sizes l
/-- All parts of the first file, then what follows. -/
theorem rd_first {s t : ByteArray} (h : Win s t 0) {p most n : Nat} {r : Except Bad (List Part)} (k : Rd s p most n r) : ∀ {l}, r = .ok l → ∀ {most'}, most ≤ most' → p ≤ s.size → (l.length + n < 1024 ∨ s.size = t.size) → sizes l ≤ most ∧ ∀ {r2}, (l.length + n ≠ 0 → Rd t s.size (most' - sizes l) (l.length + n) r2) → Rd t p most' n (addTo l r2) := by
  induction k with
  | fin p most n h0 hp =>
    intro l hl most' hm hps hn
    cases hl
    refine ⟨by simp [sizes], fun {r2} hr => ?_⟩
    rw [addTo_nil]
    obtain rfl : p = s.size := by omega
    have := hr (by simpa using h0)
    simpa [sizes] using this
  | many => intro l hl; cases hl
  | bad => intro l hl; cases hl
  | later => intro l hl; cases hl
  | more p most n hg hn x e k l r ih =>
    intro l2 hl most' hm hps hlen
    cases hl
    have hin := part_in k
    obtain ⟨i1, i2⟩ := ih rfl (most' := most' - x.data.size) (by omega) (by omega) (by
      simp only [List.length_cons] at hlen
      omega)
    refine ⟨by simp only [sizes]; omega, fun {r2} hr => ?_⟩
    have kk := h.part hm k
    rw [Nat.zero_add, Nat.zero_add] at kk
    have hz := h.size
    have hrest : Rd t e (most' - x.data.size) (n + 1) (addTo l r2) := i2 (fun hne => by
      have := hr (by simp)
      simp only [sizes, List.length_cons] at this
      rw [show l.length + (n + 1) = l.length + 1 + n by omega, Nat.sub_sub]
      exact this)
    cases hr2 : addTo l r2 with
    | error b =>
      rw [hr2] at hrest
      have e1 : addTo (x :: l) r2 = .error b := by
        cases r2 with
        | error b2 => exact hr2
        | ok l2 => cases hr2
      rw [e1]
      exact .later p most' n (by omega) hn x e kk b hrest
    | ok l3 =>
      rw [hr2] at hrest
      have e1 : addTo (x :: l) r2 = .ok (x :: l3) := by
        cases r2 with
        | error b2 => cases hr2
        | ok l2 => cases hr2; rfl
      rw [e1]
      exact .more p most' n (by omega) hn x e kk l3 hrest
/-- What follows: the parts of the second file, or too many, or what is wrong with it. -/
theorem rd_second {s t : ByteArray} {o : Nat} (h : Win s t o) (he : o + s.size = t.size) {p most n : Nat} {r : Except Bad (List Part)} (k : Rd s p most n r) : ∀ {most' n'}, most ≤ most' → p ≤ s.size → n ≤ n' → n' ≤ 1024 → (n' ≠ 0) → (n = 0 → p < s.size) →
    (∀ l, r = .ok l → (l.length + n' ≤ 1024 → Rd t (o + p) most' n' (.ok l)) ∧ (1024 < l.length + n' → ∃ a, Rd t (o + p) most' n' (.error (16, a)))) ∧
    (∀ c a, r = .error (c, a) → c ≠ 2 → c ≠ 0 → ∃ c2 a2, c2 ≠ 0 ∧ Rd t (o + p) most' n' (.error (c2, a2))) := by
  induction k with
  | fin p most n h0 hp =>
    intro most' n' hm hps hn hn' hn0 hz
    refine ⟨fun l hl => ?_, fun c a hc => by cases hc⟩
    cases hl
    refine ⟨fun _ => .fin _ _ _ hn0 (by omega), fun h => ?_⟩
    simp only [List.length_nil] at h
    omega
  | many p most n hp hn =>
    intro most' n' hm hps hnn hn' hn0 hz
    refine ⟨fun l hl => (by cases hl), fun c a hc _ _ => ⟨16, o + p, by decide, .many _ _ _ (by omega) (by omega)⟩⟩
  | bad p most n hg hn b k =>
    intro most' n' hm hps hnn hn' hn0 hz
    refine ⟨fun l hl => (by cases hl), fun c a hc h2 h0 => ?_⟩
    cases hc
    by_cases hmany : n' = 1024
    · exact ⟨16, o + p, by decide, .many _ _ _ (by omega) hmany⟩
    · exact ⟨c, o + a, h0, .bad _ _ _ (.inr (by omega)) (by omega) _ (h.partNo he hps hm h2 k)⟩
  | more p most n hg hn x e k l r ih =>
    intro most' n' hm hps hnn hn' hn0 hz
    have hin := part_in k
    refine ⟨fun l2 hl => ?_, fun c a hc => by cases hc⟩
    cases hl
    by_cases hmany : n' = 1024
    · refine ⟨fun h => ?_, fun _ => ⟨o + p, .many _ _ _ (by omega) hmany⟩⟩
      simp only [List.length_cons] at h
      omega
    · have hi := (ih (most' := most' - x.data.size) (n' := n' + 1) (by omega) (by omega) (by omega) (by omega) (by omega) (by omega)).1 l rfl
      have kk := h.part hm k
      simp only [List.length_cons]
      refine ⟨fun hle => .more _ _ _ (.inr (by omega)) (by omega) x _ kk l (hi.1 (by omega)), fun hgt => ?_⟩
      obtain ⟨a, ha⟩ := hi.2 (by omega)
      exact ⟨a, .later _ _ _ (.inr (by omega)) (by omega) x _ kk _ ha⟩
  | later p most n hg hn x e k b r ih =>
    intro most' n' hm hps hnn hn' hn0 hz
    have hin := part_in k
    refine ⟨fun l hl => (by cases hl), fun c a hc h2 h0 => ?_⟩
    cases hc
    by_cases hmany : n' = 1024
    · exact ⟨16, o + p, by decide, .many _ _ _ (by omega) hmany⟩
    · obtain ⟨c2, a2, hc2, hr2⟩ := (ih (most' := most' - x.data.size) (n' := n' + 1) (by omega) (by omega) (by omega) (by omega) (by omega) (by omega)).2 c a rfl h2 h0
      exact ⟨c2, a2, hc2, .later _ _ _ (.inr (by omega)) (by omega) x _ (h.part hm k) _ hr2⟩
end Gz
end Go.Proofs.YtffjkceedbblgaaGreatDoor
