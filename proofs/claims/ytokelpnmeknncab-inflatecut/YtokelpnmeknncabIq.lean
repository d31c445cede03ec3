/- Plain facts: what is unpacked stays within its bounds; no condition beside those told. -/
import Derived.Test.YtokelpnmeknncabAh
namespace Go.Proofs.Ytokelpnmeknncab
namespace Inf

/-- What is unpacked so far is within the bound, and no more than its bits can tell. -/
structure Bd (s : ByteArray) (most t : Nat) (out : List Nat) : Prop where
  most : out.length ≤ most
  bits : out.length ≤ 50000 * t
  small : ∀ x ∈ out, x < 256
  fits : t ≤ 8 * s.size

theorem Bd.later {s : ByteArray} {most t t' : Nat} {out : List Nat} (h : Bd s most t out) (ht : t ≤ t') (hf : t' ≤ 8 * s.size) : Bd s most t' out := ⟨h.most, by have := h.bits; omega, h.small, hf⟩

/-- It fits into memory. -/
theorem Bd.room {s : ByteArray} {most t : Nat} {out : List Nat} (h : Bd s most t out) (hc : most ≤ 70368744177664 ∨ 400000 * s.size ≤ 70368744177664) : out.length ≤ 70368744177664 := by
  have h1 := h.most
  have h2 := h.bits
  have h3 := h.fits
  omega

theorem ag_keeps {fd : Nat → Nat} {ld : Nat} {s : ByteArray} {most sym t : Nat} {out : List Nat} {e t2 : Nat} {out2 : List Nat} (h : ag fd ld s most sym t out = (e, t2, out2)) (hs : 257 ≤ sym) (hb : Bd s most t out) : Bd s most t2 out2 ∧ t ≤ t2 := by
  unfold ag at h
  by_cases c1 : 285 < sym
  · rw [if_pos c1] at h
    simp only [Prod.mk.injEq] at h
    obtain ⟨rfl, rfl, rfl⟩ := h
    exact ⟨hb, Nat.le_refl _⟩
  rw [if_neg c1] at h
  by_cases c2 : 8 * s.size < t + lb sym
  · rw [if_pos c2] at h
    simp only [Prod.mk.injEq] at h
    obtain ⟨rfl, rfl, rfl⟩ := h
    exact ⟨hb, Nat.le_refl _⟩
  rw [if_neg c2] at h
  obtain ⟨er, d, t1, hn⟩ : ∃ er d t1, nx fd ld s (t + lb sym) = (er, d, t1) := ⟨_, _, _, rfl⟩
  simp only [hn] at h
  have hf := nx_fits hn (by omega)
  by_cases c3 : er ≠ 0
  · rw [if_pos c3] at h
    simp only [Prod.mk.injEq] at h
    obtain ⟨rfl, rfl, rfl⟩ := h
    exact ⟨hb.later (by omega) (by omega), by omega⟩
  rw [if_neg c3] at h
  have hf1 := hf.2.2.1 (by omega)
  by_cases c4 : 29 < d
  · rw [if_pos c4] at h
    simp only [Prod.mk.injEq] at h
    obtain ⟨rfl, rfl, rfl⟩ := h
    exact ⟨hb.later (by omega) (by omega), by omega⟩
  rw [if_neg c4] at h
  by_cases c5 : 8 * s.size < t1 + db d
  · rw [if_pos c5] at h
    simp only [Prod.mk.injEq] at h
    obtain ⟨rfl, rfl, rfl⟩ := h
    exact ⟨hb.later (by omega) (by omega), by omega⟩
  rw [if_neg c5] at h
  by_cases c6 : out.length < dl d + Bt.rval s t1 (db d)
  · rw [if_pos c6] at h
    simp only [Prod.mk.injEq] at h
    obtain ⟨rfl, rfl, rfl⟩ := h
    exact ⟨hb.later (by omega) (by omega), by omega⟩
  rw [if_neg c6] at h
  by_cases c7 : most < out.length + (lenN sym + Bt.rval s t (lb sym))
  · rw [if_pos c7] at h
    simp only [Prod.mk.injEq] at h
    obtain ⟨rfl, rfl, rfl⟩ := h
    exact ⟨hb.later (by omega) (by omega), by omega⟩
  rw [if_neg c7] at h
  simp only [Prod.mk.injEq] at h
  obtain ⟨rfl, rfl, rfl⟩ := h
  have hl := length_again (dl d + Bt.rval s t1 (db d)) (lenN sym + Bt.rval s t (lb sym)) out
  have h1 := lenN_small sym hs (by omega)
  have h2 := rval_13 s t (lb sym) (lb_small sym (by omega))
  have h3 := hb.bits
  exact ⟨⟨by omega, by omega, again_small _ _ _ hb.small, by omega⟩, by omega⟩
end Inf
end Go.Proofs.Ytokelpnmeknncab
