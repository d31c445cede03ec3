/- Texts of this proof, one behind the other: what each says stands ahead of it. -/
import Derived.Test.YtffjkceedbblgaaGreatDoorM26
/- Plain facts: what bytes unpack to, where no end is met, is what they unpack to with more bytes behind them; no condition beside those told. -/
namespace Go.Proofs.YtffjkceedbblgaaGreatDoor
namespace Inf

/-- p is how s begins. -/
structure Pre (p s : ByteArray) : Prop where
  size : p.size ≤ s.size
  byte : ∀ j, j < p.size → Bt.byteN p j = Bt.byteN s j

theorem Pre.rval {p s : ByteArray} (h : Pre p s) (t n : Nat) (hf : t + n ≤ 8 * p.size) : Bt.rval p t n = Bt.rval s t n := by
  unfold Bt.rval
  congr 1
  apply List.map_congr_left
  intro i hi
  have hi' : i < n := by simpa using hi
  unfold Bt.bitAt
  rw [h.byte _ (by omega)]

theorem Pre.nx {p s : ByteArray} (h : Pre p s) {f : Nat → Nat} {len t e i t1 : Nat} (hT : Tbl f len) (ht : t ≤ 8 * p.size) (hn : Inf.nx f len p t = (e, i, t1)) (he : e ≠ 3) : Inf.nx f len s t = (e, i, t1) := by
  have hsz := h.size
  have like : ∀ j k, t + k ≤ 8 * p.size → (Like p t (pathOf f len j) k ↔ Like s t (pathOf f len j) k) := by
    intro j k hk
    unfold Like
    rw [h.rval t k hk]
  rcases nx_cases f len p t with ⟨j, hj, hfu, hnj⟩ | ⟨_, _, hnj⟩ | ⟨hno, hnb, hnj⟩
  · rw [hnj] at hn
    rw [← hn]
    obtain ⟨h1, h2, h3⟩ := hfu
    exact nx_sym hT hj ⟨h1, by omega, (like j _ h2).1 h3⟩
  · rw [hnj] at hn
    simp only [Prod.mk.injEq] at hn
    exact absurd hn.1.symm he
  · rw [hnj] at hn
    rw [← hn]
    have key : ∀ j, j < len → ∀ k, f j ≠ 0 → k ≤ f j → (t + f j ≤ 8 * s.size ∧ k = f j ∨ 8 * s.size < t + f j ∧ k = 8 * s.size - t) → ¬ Like s t (pathOf f len j) k := by
      intro j hj k h0 hk hc hl
      by_cases hfit : t + f j ≤ 8 * p.size
      · have hk2 : k = f j := by omega
        subst hk2
        exact hno j hj ⟨h0, hfit, (like j _ hfit).2 hl⟩
      · refine hnb j hj ⟨h0, by omega, (like j _ (by omega)).2 (hl.less (by omega))⟩
    refine nx_bad (fun j hj hfu => key j hj (f j) hfu.1 (Nat.le_refl _) (.inl ⟨hfu.2.1, rfl⟩) hfu.2.2) (fun j hj hb => ?_)
    have := hb.2.1
    exact key j hj (8 * s.size - t) hb.1 (by omega) (.inr ⟨hb.2.1, rfl⟩) hb.2.2

theorem Pre.ag {p s : ByteArray} (h : Pre p s) {fd : Nat → Nat} {ld most sym t : Nat} {out : List Nat} {e t2 : Nat} {out2 : List Nat} (hT : Tbl fd ld) (_ht : t ≤ 8 * p.size) (ha : Inf.ag fd ld p most sym t out = (e, t2, out2)) (he : e ≠ 3) : Inf.ag fd ld s most sym t out = (e, t2, out2) := by
  have hsz := h.size
  unfold Inf.ag at ha ⊢
  by_cases c1 : 285 < sym
  · rw [if_pos c1] at ha ⊢
    exact ha
  rw [if_neg c1] at ha ⊢
  by_cases c2 : 8 * p.size < t + lb sym
  · rw [if_pos c2] at ha
    simp only [Prod.mk.injEq] at ha
    exact absurd ha.1.symm he
  rw [if_neg c2] at ha
  rw [if_neg (by omega)]
  obtain ⟨er, d, t1, hn⟩ : ∃ er d t1, Inf.nx fd ld p (t + lb sym) = (er, d, t1) := ⟨_, _, _, rfl⟩
  have hf := nx_fits hn (by omega)
  simp only [hn] at ha
  by_cases c3 : er ≠ 0
  · rw [if_pos c3] at ha
    have hn2 := h.nx hT (by omega) hn (by
      intro e3
      simp only [Prod.mk.injEq] at ha
      omega)
    simp only [hn2]
    rw [if_pos c3]
    exact ha
  rw [if_neg c3] at ha
  have hn2 := h.nx hT (by omega) hn (by omega)
  simp only [hn2]
  rw [if_neg c3]
  by_cases c4 : 29 < d
  · rw [if_pos c4] at ha ⊢
    exact ha
  rw [if_neg c4] at ha ⊢
  by_cases c5 : 8 * p.size < t1 + db d
  · rw [if_pos c5] at ha
    simp only [Prod.mk.injEq] at ha
    exact absurd ha.1.symm he
  rw [if_neg c5] at ha
  rw [if_neg (by omega), ← h.rval t1 (db d) (by omega), ← h.rval t (lb sym) (by omega)]
  exact ha

theorem Pre.st {p s : ByteArray} (h : Pre p s) {most t : Nat} {out : List Nat} {e t2 : Nat} {out2 : List Nat} (ha : Inf.st p most t out = (e, t2, out2)) (he : e ≠ 3) : Inf.st s most t out = (e, t2, out2) := by
  have hsz := h.size
  obtain ⟨q, hq⟩ : ∃ q, (t + 7) / 8 = q := ⟨_, rfl⟩
  unfold Inf.st at ha ⊢
  simp only [hq] at ha ⊢
  by_cases c1 : p.size < q + 2
  · rw [if_pos c1] at ha
    simp only [Prod.mk.injEq] at ha
    exact absurd ha.1.symm he
  rw [if_neg c1] at ha
  by_cases c2 : p.size < q + 4
  · rw [if_pos c2] at ha
    simp only [Prod.mk.injEq] at ha
    exact absurd ha.1.symm he
  rw [if_neg c2] at ha
  rw [if_neg (by omega), if_neg (by omega), ← h.byte q (by omega), ← h.byte (q + 1) (by omega), ← h.byte (q + 2) (by omega), ← h.byte (q + 3) (by omega)]
  obtain ⟨n, hn⟩ : ∃ n, Bt.byteN p q + 256 * Bt.byteN p (q + 1) = n := ⟨_, rfl⟩
  simp only [hn] at ha ⊢
  by_cases c3 : Bt.byteN p (q + 2) + 256 * Bt.byteN p (q + 3) ≠ 65535 - n
  · rw [if_pos c3] at ha ⊢
    exact ha
  rw [if_neg c3] at ha ⊢
  by_cases c4 : most < out.length + n
  · rw [if_pos c4] at ha ⊢
    exact ha
  rw [if_neg c4] at ha ⊢
  by_cases c5 : p.size < q + 4 + n
  · rw [if_pos c5] at ha
    simp only [Prod.mk.injEq] at ha
    exact absurd ha.1.symm he
  rw [if_neg c5] at ha
  rw [if_neg (by omega), ← ha]
  congr 3
  apply List.map_congr_left
  intro i hi
  have hi' : i < n := by simpa using hi
  rw [h.byte _ (by omega)]

theorem Pre.sy {p s : ByteArray} (h : Pre p s) {fl : Nat → Nat} {ll : Nat} {fd : Nat → Nat} {ld most t : Nat} {out : List Nat} {e t' : Nat} {o' : List Nat} (hTl : Tbl fl ll) (hTd : Tbl fd ld) (hy : Sy fl ll fd ld p most t out e t' o') : Bd p most t out → e ≠ 3 → Sy fl ll fd ld s most t out e t' o' := by
  induction hy with
  | err t out e i t1 n he => intro hb h3; exact .err t out e i t1 (h.nx hTl hb.fits n h3) he
  | fin t out t1 n => intro hb _; exact .fin t out t1 (h.nx hTl hb.fits n (by decide))
  | full t out i t1 n hi hm => intro hb _; exact .full t out i t1 (h.nx hTl hb.fits n (by decide)) hi hm
  | lit t out i t1 n hi hm e t' out' r ih =>
    intro hb h3
    have hf := nx_fits n hb.fits
    have hlt := hf.2.2.1 rfl
    have hbits := hb.bits
    refine .lit t out i t1 (h.nx hTl hb.fits n (by decide)) hi hm e t' out' (ih ⟨by rw [List.length_append]; simp; omega, by rw [List.length_append]; simp; omega, fun x hx => ?_, hf.1⟩ h3)
    rcases List.mem_append.1 hx with hx | hx
    · exact hb.small x hx
    · simp only [List.mem_singleton] at hx
      omega
  | agErr t out i t1 n hi e t2 out2 a he =>
    intro hb h3
    have hf := nx_fits n hb.fits
    exact .agErr t out i t1 (h.nx hTl hb.fits n (by decide)) hi e t2 out2 (h.ag hTd hf.1 a h3) he
  | ag t out i t1 n hi t2 out2 a e t' out' r ih =>
    intro hb h3
    have hf := nx_fits n hb.fits
    have hk := ag_keeps a (by omega) (hb.later hf.2.1 hf.1)
    exact .ag t out i t1 (h.nx hTl hb.fits n (by decide)) hi t2 out2 (h.ag hTd hf.1 a (by decide)) e t' out' (ih hk.1 h3)

theorem Pre.le {p s : ByteArray} (h : Pre p s) {f : Nat → Nat} {wanted t : Nat} {told : List Nat} {e t' : Nat} {told' : List Nat} (hT : Tbl f 19) (hy : Le f 19 p wanted t told e t' told') : t ≤ 8 * p.size → e ≠ 3 → Le f 19 s wanted t told e t' told' := by
  have hsz := h.size
  induction hy with
  | fin t told hw => intro _ _; exact .fin t told hw
  | err t told hw e i t1 n he => intro ht h3; exact .err t told hw e i t1 (h.nx hT ht n h3) he
  | none t told hw t1 n h0 => intro ht _; exact .none t told hw t1 (h.nx hT ht n (by decide)) h0
  | cut t told hw i t1 n h0 h1 => intro _ h3; exact absurd rfl h3
  | many t told hw i t1 n h0 h1 h2 => intro ht _; exact .many t told hw i t1 (h.nx hT ht n (by decide)) h0 (by omega) (by rw [← h.rval t1 (moreBits i) h1]; exact h2)
  | step t told hw i t1 n h0 h1 h2 e t' told' r ih =>
    intro ht h3
    have e1 := h.rval t1 (moreBits i) h1
    refine .step t told hw i t1 (h.nx hT ht n (by decide)) h0 (by omega) (by rw [← e1]; exact h2) e t' told' ?_
    rw [← e1]
    exact ih h1 h3

theorem Pre.lens3 {p s : ByteArray} (h : Pre p s) {t n : Nat} (hf : t + 3 * n ≤ 8 * p.size) : Inf.lens3 p t n = Inf.lens3 s t n := by
  funext i
  unfold Inf.lens3
  by_cases c : i < 19 ∧ posL.getD i 0 < n
  · rw [if_pos c, if_pos c, h.rval _ 3 (by omega)]
  · rw [if_neg c, if_neg c]

theorem Pre.head {p s : ByteArray} (h : Pre p s) {t : Nat} (hn : ∀ t', dyHead p t ≠ some (3, t')) : dyHead s t = dyHead p t ∧ ((∃ e t', dyHead p t = some (e, t')) ∨ (dyF s t = dyF p t ∧ dyL s t = dyL p t ∧ dyD s t = dyD p t ∧ dyT s t = dyT p t ∧ dyHead p t = none ∧ Tbl (dyF p t) 19)) := by
  have hsz := h.size
  by_cases c1 : 8 * p.size < t + 5
  · exact absurd (show dyHead p t = some (3, t) by unfold dyHead; rw [if_pos c1]) (hn _)
  by_cases c2 : 8 * p.size < t + 10
  · exact absurd (show dyHead p t = some (3, t + 5) by unfold dyHead; rw [if_neg c1, if_pos c2]) (hn _)
  by_cases c3 : 8 * p.size < t + 14
  · exact absurd (show dyHead p t = some (3, t + 10) by unfold dyHead; rw [if_neg c1, if_neg c2, if_pos c3]) (hn _)
  have e1 := h.rval t 5 (by omega)
  have e2 := h.rval (t + 5) 5 (by omega)
  have e3 := h.rval (t + 10) 4 (by omega)
  by_cases c4 : 29 < Bt.rval p t 5 ∨ 29 < Bt.rval p (t + 5) 5
  · have a1 : dyHead p t = some (5, t + 14) := by unfold dyHead; rw [if_neg c1, if_neg c2, if_neg c3, if_pos c4]
    have a2 : dyHead s t = some (5, t + 14) := by unfold dyHead; rw [if_neg (by omega), if_neg (by omega), if_neg (by omega), if_pos (by rw [← e1, ← e2]; exact c4)]
    exact ⟨by rw [a1, a2], .inl ⟨_, _, a1⟩⟩
  by_cases c5 : 8 * p.size < t + 14 + 3 * (Bt.rval p (t + 10) 4 + 4)
  · exact absurd (show dyHead p t = some (3, t + 14 + 3 * ((8 * p.size - (t + 14)) / 3)) by unfold dyHead; rw [if_neg c1, if_neg c2, if_neg c3, if_neg c4, if_pos c5]) (hn _)
  have e4 : Inf.lens3 p (t + 14) (Bt.rval p (t + 10) 4 + 4) = Inf.lens3 s (t + 14) (Bt.rval s (t + 10) 4 + 4) := by
    rw [h.lens3 (by omega), e3]
  by_cases c6 : errOf (Inf.lens3 p (t + 14) (Bt.rval p (t + 10) 4 + 4)) 19 ≠ 0
  · have a1 : dyHead p t = some (errOf (Inf.lens3 p (t + 14) (Bt.rval p (t + 10) 4 + 4)) 19, t + 14 + 3 * (Bt.rval p (t + 10) 4 + 4)) := by unfold dyHead; rw [if_neg c1, if_neg c2, if_neg c3, if_neg c4, if_neg c5, if_pos c6]
    have a2 : dyHead s t = some (errOf (Inf.lens3 p (t + 14) (Bt.rval p (t + 10) 4 + 4)) 19, t + 14 + 3 * (Bt.rval p (t + 10) 4 + 4)) := by
      unfold dyHead
      rw [if_neg (by omega), if_neg (by omega), if_neg (by omega), if_neg (by rw [← e1, ← e2]; exact c4), if_neg (by rw [← e3]; omega), if_pos (by rw [← e4]; exact c6), ← e4, e3]
    exact ⟨by rw [a1, a2], .inl ⟨_, _, a1⟩⟩
  · have a1 : dyHead p t = none := by unfold dyHead; rw [if_neg c1, if_neg c2, if_neg c3, if_neg c4, if_neg c5, if_neg c6]
    have a2 : dyHead s t = none := by unfold dyHead; rw [if_neg (by omega), if_neg (by omega), if_neg (by omega), if_neg (by rw [← e1, ← e2]; exact c4), if_neg (by rw [← e3]; omega), if_neg (by rw [← e4]; exact c6)]
    refine ⟨by rw [a1, a2], .inr ⟨?_, ?_, ?_, ?_, a1, ⟨fun i => lens3_le p _ _ i, ?_, by decide⟩⟩⟩
    · unfold dyF; rw [e4]
    · unfold dyL; rw [e1]
    · unfold dyD; rw [e2]
    · unfold dyT; rw [e3]
    · unfold dyF; omega

theorem Pre.dy {p s : ByteArray} (h : Pre p s) {t e t' : Nat} {told : List Nat} (hy : Dy p t e t' told) (he : e ≠ 3) : Dy s t e t' told ∧ (e = 0 → dyL s t = dyL p t ∧ dyD s t = dyD p t) := by
  cases hy with
  | head _ _ hh =>
    obtain ⟨h1, _⟩ := h.head (t := t) (fun t2 h2 => by rw [hh] at h2; simp at h2; exact he h2.1)
    exact ⟨.head e t' (h1.trans hh), fun h0 => absurd h0 (head_place hh).1⟩
  | lens hh _ _ told2 r hne =>
    obtain ⟨h1, h2⟩ := h.head (t := t) (fun t2 h2 => by rw [hh] at h2; simp at h2)
    rcases h2 with ⟨_, _, h3⟩ | ⟨q1, q2, q3, q4, _, q6⟩
    · rw [hh] at h3
      simp at h3
    · exact ⟨.lens (h1.trans hh) e t' told2 (by rw [q1, q2, q3, q4]; exact h.le q6 r (head_fits hh) he) hne, fun h0 => absurd h0 hne⟩
  | done hh _ _ r =>
    obtain ⟨h1, h2⟩ := h.head (t := t) (fun t2 h2 => by rw [hh] at h2; simp at h2)
    rcases h2 with ⟨_, _, h3⟩ | ⟨q1, q2, q3, q4, _, q6⟩
    · rw [hh] at h3
      simp at h3
    · have := Dy.done (h1.trans hh) t' told (by rw [q1, q2, q3, q4]; exact h.le q6 r (head_fits hh) (by decide))
      rw [q2, q3] at this
      exact ⟨this, fun _ => ⟨q2, q3⟩⟩

theorem Pre.bk {p s : ByteArray} (h : Pre p s) {most k t : Nat} {out : List Nat} {e t' : Nat} {o : List Nat} (hy : Bk p most k t out e t' o) (hb : Bd p most t out) (he : e ≠ 3) : Bk s most k t out e t' o := by
  cases hy with
  | stored _ _ _ _ _ hh => exact .stored t out e t' o (h.st hh he)
  | fixed _ _ _ _ _ hh => exact .fixed t out e t' o (h.sy tbl_fixL tbl_fixD hh hb he)
  | head _ _ _ _ told hh hne => exact .head t out e t' told (h.dy hh he).1 hne
  | dyn _ _ t1 told hh _ _ _ r =>
    obtain ⟨h1, h2⟩ := h.dy hh (by decide)
    obtain ⟨q2, q3⟩ := h2 rfl
    have hT := dy_tables hh
    have hp := dy_place hh
    have hen := dy_end hh hb.fits
    refine .dyn t out t1 told h1 e t' o ?_
    rw [q2, q3]
    exact h.sy hT.1 hT.2 r (hb.later hp hen) he
  | bad => exact .bad t out

theorem sy_bd {fl : Nat → Nat} {ll : Nat} {fd : Nat → Nat} {ld : Nat} {s : ByteArray} {most t : Nat} {out : List Nat} {e t' : Nat} {o' : List Nat} (h : Sy fl ll fd ld s most t out e t' o') : Bd s most t out → Bd s most t' o' := by
  induction h with
  | err => exact id
  | fin t out t1 n => intro hb; have := nx_fits n hb.fits; exact hb.later this.2.1 this.1
  | full t out i t1 n hi h => intro hb; have := nx_fits n hb.fits; exact hb.later this.2.1 this.1
  | lit t out i t1 n hi h e t' out' r ih =>
    intro hb
    have hf := nx_fits n hb.fits
    have hlt := hf.2.2.1 rfl
    have hbits := hb.bits
    refine ih ⟨by rw [List.length_append]; simp; omega, by rw [List.length_append]; simp; omega, fun x hx => ?_, hf.1⟩
    rcases List.mem_append.1 hx with hx | hx
    · exact hb.small x hx
    · simp only [List.mem_singleton] at hx
      omega
  | agErr t out i t1 n hi e t2 out2 a he =>
    intro hb
    have hf := nx_fits n hb.fits
    exact (ag_keeps a (by omega) (hb.later hf.2.1 hf.1)).1
  | ag t out i t1 n hi t2 out2 a e t' out' r ih =>
    intro hb
    have hf := nx_fits n hb.fits
    exact ih (ag_keeps a (by omega) (hb.later hf.2.1 hf.1)).1

theorem bk_bd {s : ByteArray} {most k t : Nat} {out : List Nat} {e t' : Nat} {o : List Nat} (h : Bk s most k t out e t' o) (hb : Bd s most t out) : Bd s most t' o := by
  cases h with
  | stored _ _ _ _ _ h => exact (st_keeps h hb).1
  | fixed _ _ _ _ _ h => exact sy_bd h hb
  | head _ _ _ _ told h he => exact hb.later (dy_place h) (dy_end h hb.fits)
  | dyn _ _ t1 told h _ _ _ r => exact sy_bd r (hb.later (dy_place h) (dy_end h hb.fits))
  | bad => exact hb

theorem Pre.un {p s : ByteArray} (h : Pre p s) {most t : Nat} {out : List Nat} {e t' : Nat} {o : List Nat} (hy : Un p most t out e t' o) : Bd p most t out → e ≠ 3 → Un s most t out e t' o := by
  have hsz := h.size
  induction hy with
  | cut1 => intro _ h3; exact absurd rfl h3
  | cut2 => intro _ h3; exact absurd rfl h3
  | err t out hf e t' out' b he =>
    intro hb h3
    refine .err t out (by omega) e t' out' ?_ he
    rw [← h.rval (t + 1) 2 (by omega)]
    exact h.bk b (hb.later (by omega) (by omega)) h3
  | last t out hf h1 t' out' b =>
    intro hb h3
    refine .last t out (by omega) (by rw [← h.rval t 1 (by omega)]; exact h1) t' out' ?_
    rw [← h.rval (t + 1) 2 (by omega)]
    exact h.bk b (hb.later (by omega) (by omega)) (by decide)
  | more t out hf h1 t1 out1 b e t' out' r ih =>
    intro hb h3
    have hb3 := hb.later (t' := t + 3) (by omega) (by omega)
    refine .more t out (by omega) (by rw [← h.rval t 1 (by omega)]; exact h1) t1 out1 ?_ e t' out' (ih (bk_bd b hb3) h3)
    rw [← h.rval (t + 1) 2 (by omega)]
    exact h.bk b hb3 (by decide)

theorem bd_zero (s : ByteArray) (most : Nat) : Bd s most 0 [] := ⟨by simp, by simp, by simp, by omega⟩
end Inf
end Go.Proofs.YtffjkceedbblgaaGreatDoor

/- Unpack from a place that there is, by a bound that there is: its four answers; conditions: what is unpacked fits into memory. -/
namespace Go.Proofs.YtffjkceedbblgaaGreatDoor
open Go.RowKit

/-- Text, end, error and place. -/
def Says (s : ByteArray) (f m : Nat) (S : ByteArray) (N C A : Nat) : Prop :=
  ∃ er t' out', Inf.Un s m 0 [] er t' out' ∧ t' ≤ 8 * s.size ∧ (er = 0 ∧ S = strOf out' ∧ N = f + (t' + 7) / 8 ∧ C = 0 ∧ A = 0 ∨ er ≠ 0 ∧ S = ByteArray.empty ∧ N = 0 ∧ C = er ∧ A = f + t' / 8)

theorem Unpack_says (data : ByteArray) (f m : Nat) (w : World) (hd : data.size ≤ 140737488351232) (hf : f ≤ data.size) (hm1 : m ≤ 9223372036854775807) (hc : m ≤ 70368744177664 ∨ 400000 * data.size ≤ 70368744177664) :
    Calls Tryz.prog 54 #[.string data, .int .i64 (f : Nat), .int .i64 (m : Nat)] w fun e w' => ∃ S N C A, e = .returned (.tuple #[.string S, .int .i64 (N : Nat), .agg #[.int .i64 (C : Nat), .int .i64 (A : Nat)]]) ∧ Says (data.extract f data.size) f m S N C A ∧ Touch (fun _ => False) w w' := by
  refine (Unpack_any data f m w hd (by omega) (by omega)).mono ?_
  rintro e w' ⟨hres, tc⟩
  rcases hres with ⟨h, _⟩ | ⟨f', m', h1, h2, _, er, t', out', hun, ht', hres⟩
  · omega
  · obtain rfl : f = f' := by omega
    obtain rfl : m = m' := by omega
    have hsz : (data.extract f data.size).size = data.size - f := by rw [ByteArray.size_extract]; omega
    rcases hres with ⟨h0, rfl⟩ | ⟨h0, rfl⟩
    · exact ⟨_, _, 0, 0, rfl, ⟨er, t', out', hun, by omega, .inl ⟨h0, rfl, rfl, rfl, rfl⟩⟩, tc⟩
    · exact ⟨_, 0, er, _, rfl, ⟨er, t', out', hun, by omega, .inr ⟨h0, rfl, rfl, rfl, rfl⟩⟩, tc⟩

theorem extract_all (s : ByteArray) : s.extract 0 s.size = s := by
  apply ByteArray.ext
  rw [ByteArray.data_extract]
  exact Array.extract_size

theorem pre_extract (s : ByteArray) (k : Nat) : Inf.Pre (s.extract 0 k) s := by
  refine ⟨by rw [ByteArray.size_extract]; omega, fun j hj => ?_⟩
  rw [ByteArray.size_extract] at hj
  rw [← byte_get (s.extract 0 k) j (by rw [ByteArray.size_extract]; omega), ← byte_get s j (by omega), ByteArray.getElem_extract]
  simp

/-- What is cut off is missed, or told as it was. -/
theorem cut_says {s : ByteArray} {k m : Nat} {S : ByteArray} {N C A : Nat} {S2 : ByteArray} {N2 C2 A2 : Nat} (h : Says s 0 m S N C A) (h2 : Says (s.extract 0 k) 0 m S2 N2 C2 A2) :
    (C2 = 0 ∧ A2 = 0 ∧ C = 0 ∧ A = 0 ∧ S = S2 ∧ N = N2) ∨ (C2 = 3 ∧ S2 = ByteArray.empty) ∨ (C2 ≠ 0 ∧ C2 ≠ 3 ∧ S2 = ByteArray.empty ∧ C = C2 ∧ A = A2) := by
  obtain ⟨er, t', out', hun, ht', hr⟩ := h
  obtain ⟨er2, t2, out2, hun2, ht2, hr2⟩ := h2
  by_cases h3 : er2 = 3
  · rcases hr2 with ⟨h0, _⟩ | ⟨_, hS, _, hC, _⟩
    · omega
    · exact .inr (.inl ⟨by omega, hS⟩)
  · have hx := (pre_extract s k).un hun2 (Inf.bd_zero _ _) h3
    obtain ⟨rfl, rfl, rfl⟩ := hun.det hx
    rcases hr2 with ⟨h0, hS, hN, hC, hA⟩ | ⟨h0, hS, hN, hC, hA⟩
    · rcases hr with ⟨_, gS, gN, gC, gA⟩ | ⟨g0, _⟩
      · exact .inl ⟨hC, hA, gC, gA, by rw [gS, hS], by rw [gN, hN]⟩
      · exact absurd h0 g0
    · rcases hr with ⟨g0, _⟩ | ⟨_, gS, gN, gC, gA⟩
      · exact absurd g0 h0
      · exact .inr (.inr ⟨by omega, by omega, hS, by omega, by omega⟩)
end Go.Proofs.YtffjkceedbblgaaGreatDoor
