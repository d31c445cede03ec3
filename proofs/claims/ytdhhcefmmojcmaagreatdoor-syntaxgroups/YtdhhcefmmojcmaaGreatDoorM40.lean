/- Texts of this proof, one behind the other: what each says stands ahead of it. -/
import Derived.Test.YtdhhcefmmojcmaaGreatDoorM8
import Derived.Test.YtdhhcefmmojcmaaGreatDoorM39
import Derived.Test.YtdhhcefmmojcmaaGreatDoorM15
/- A parser of patterns: the text that is decoded; condition: it has at most 1024 bytes. -/
namespace Go.Proofs.YtdhhcefmmojcmaaGreatDoor
open Go.RowKit
open Go.Lib

/-- Scalars and their places, one behind the other from a place to the end. -/
def SegOk (s : ByteArray) : Nat → List Int → List Int → Prop
  | i, [], [] => i = s.size
  | i, r :: R, p :: P => p = (i : Int) ∧ i < s.size ∧ (tkAt s 1 i).1 = r ∧ r ≠ -1 ∧ SegOk s (i + (tkAt s 1 i).2) R P
  | _, [], _ :: _ => False
  | _, _ :: _, [] => False
theorem dc_ok (s : ByteArray) : ∀ (k i : Nat) (rs ps : List Int) (bad : Nat), i ≤ s.size → s.size ≤ i + k → (dcGo s 1 true k i rs ps bad).1 = none →
    ∃ R P, (dcGo s 1 true k i rs ps bad).2.1 = rs ++ R ∧ (dcGo s 1 true k i rs ps bad).2.2.1 = ps ++ P ∧ SegOk s i R P
  | k, i, rs, ps, bad, hi, hk, h => by
    rcases Nat.lt_or_ge i s.size with hlt | hge
    · obtain ⟨k, rfl⟩ : ∃ j, k = j + 1 := ⟨k - 1, by omega⟩
      rw [dc_step hlt] at h ⊢
      by_cases hb : (tkAt s 1 i).1 = -1
      · rw [if_pos hb, if_pos rfl] at h
        cases h
      · rw [if_neg hb] at h ⊢
        have hz := tkAt_size s 1 i
        have hr := tkAt_room 1 (.inl rfl) s i hlt
        obtain ⟨R, P, h1, h2, h3⟩ := dc_ok s k _ _ _ _ hr (by omega) h
        exact ⟨(tkAt s 1 i).1 :: R, (i : Int) :: P, by rw [h1]; simp, by rw [h2]; simp, rfl, hlt, rfl, hb, h3⟩
    · obtain rfl : i = s.size := by omega
      rw [dc_end (Nat.le_refl _)]
      exact ⟨[], [], by simp, by simp, rfl⟩
theorem seg_one (s : ByteArray) : ∀ (i : Nat) (R P : List Int), i ≤ s.size → SegOk s i R P → R.length = P.length ∧ (P ++ [(s.size : Int)])[0]? = some (i : Int) ∧
    ∀ j, j < R.length → ∃ a : Nat, (P ++ [(s.size : Int)])[j]? = some (a : Int) ∧ a < s.size ∧ R[j]? = some (tkAt s 1 a).1 ∧ (tkAt s 1 a).1 ≠ -1 ∧ (P ++ [(s.size : Int)])[j + 1]? = some ((a + (tkAt s 1 a).2 : Nat) : Int)
  | i, [], [], _, h => by
    have h : i = s.size := h
    subst h
    exact ⟨rfl, rfl, fun j hj => absurd hj (Nat.not_lt_zero _)⟩
  | i, r :: R, p :: P, _, ⟨h1, h2, h3, h4, h5⟩ => by
    have hr := tkAt_room 1 (.inl rfl) s i h2
    obtain ⟨e1, e2, e3⟩ := seg_one s _ R P hr h5
    refine ⟨by simp [e1], by rw [h1]; rfl, fun j hj => ?_⟩
    match j, hj with
    | 0, _ => exact ⟨i, by rw [h1]; rfl, h2, by rw [h3]; rfl, by rw [h3]; exact h4, e2⟩
    | j + 1, hj => exact e3 j (by simpa using hj)
  | _, [], _ :: _, _, h => False.elim h
  | _, _ :: _, [], _, h => False.elim h
theorem seg_good {s : ByteArray} {i : Nat} {R P : List Int} (hs : s.size ≤ 1024) (hi : i ≤ s.size) (h : SegOk s i R P) (cd bd : Int) (ar ap : Option Addr) (cr cp : Nat) :
    Px.Good ⟨R, P ++ [(s.size : Int)], s, cd, bd, ar, cr, ap, cp⟩ := by
  obtain ⟨hl, h0, hj⟩ := seg_one s i R P hi h
  have hlen : ∀ (i : Nat) (R P : List Int), SegOk s i R P → R.length + i ≤ s.size := by
    intro i R
    induction R generalizing i with
    | nil => intro P h; cases P with
      | nil => have h : i = s.size := h; simp; omega
      | cons => exact False.elim h
    | cons r R ih => intro P h; cases P with
      | nil => exact False.elim h
      | cons p P =>
        obtain ⟨_, _, _, _, h5⟩ := h
        have := ih _ _ h5
        have := tkAt_size s 1 i
        simp
        omega
  have hle := hlen i R P h
  have hq : ∀ (j : Nat) (x : Int), (P ++ [(s.size : Int)])[j]? = some x → 0 ≤ x ∧ x ≤ s.size := by
    intro j x e
    rcases Nat.lt_trichotomy j R.length with g | g | g
    · obtain ⟨a, e1, e2, _⟩ := hj j g
      rw [e1] at e
      cases e
      omega
    · rw [List.getElem?_append_right (by omega), g, hl, Nat.sub_self] at e
      cases e
      omega
    · rw [List.getElem?_eq_none (by simp; omega)] at e
      cases e
  have hP : ∀ (j : Nat) (hh : j < (P ++ [(s.size : Int)]).length), (P ++ [(s.size : Int)])[j]? = some ((P ++ [(s.size : Int)])[j]) := fun j hh => List.getElem?_eq_getElem hh
  refine ⟨by simp only; omega, by simp [hl], fun c hc => ?_, hs, fun j hj2 => hq j _ (hP j hj2), fun j g1 g2 g3 h128 => ?_, fun j g1 g2 => ?_⟩
  · obtain ⟨j, hj2, rfl⟩ := List.getElem_of_mem hc
    obtain ⟨a, _, e2, e3, e4, _⟩ := hj j hj2
    rw [List.getElem?_eq_getElem hj2] at e3
    have ok := (tkAt_bwd 1 (.inl rfl) s a e2 e4).1
    have := okc_in ok
    injection e3 with e3
    rw [e3]
    exact ⟨this.1, this.2⟩
  · simp only at g1 g2 g3 h128 ⊢
    obtain ⟨a, e1, e2, e3, e4, e5⟩ := hj j g1
    have hb := tkAt_bwd 1 (.inl rfl) s a e2 e4
    rw [List.getElem?_eq_getElem g1] at e3
    injection e3 with e3
    rw [hP j g2] at e1
    rw [hP (j + 1) g3] at e5
    injection e1 with e1
    injection e5 with e5
    rw [e3] at h128 ⊢
    have hx := (okc_in hb.1).1
    have en : enc 1 (tkAt s 1 a).1 = [(tkAt s 1 a).1] := by
      rw [enc1]
      unfold en8
      rw [if_pos (by omega)]
    rw [en] at hb
    obtain ⟨_, hL, hS⟩ := hb
    rw [e1, e5, hS]
    refine ⟨by simp, ?_⟩
    have := hL 0 (by simp)
    simp only [Nat.add_zero, List.getElem_cons_zero] at this
    rw [Int.toNat_natCast, ← this.2]
    unfold byN at *
    simp only [Int.toNat_natCast]
    have hsz : a < s.data.toList.length := by simpa using e2
    rw [List.getElem?_eq_getElem hsz]
    rw [dif_pos e2, UInt8.ofNat_toNat]
    rfl
  · simp only at g1 g2 ⊢
    have g : j < R.length := by simp at g2; omega
    obtain ⟨a, e1, _, _, _, e5⟩ := hj j g
    rw [hP j g1] at e1
    rw [hP (j + 1) g2] at e5
    injection e1 with e1
    injection e5 with e5
    rw [e1, e5]
    omega
end Go.Proofs.YtdhhcefmmojcmaaGreatDoor

/- A parser of patterns: what Parse tells of any text, plain; no condition. -/
namespace Go.Proofs.YtdhhcefmmojcmaaGreatDoor
open Go.RowKit
open Go.Lib

/-- What Parse tells of a text: a tree and names, or what is wrong, and the byte at which. -/
def prsR (s : ByteArray) (f : Fl) : Except (Int × Int) (Nd × List ByteArray) :=
  if 1024 < s.size then .error (2, 0)
  else match dcGo s 1 true s.size (bg s 1).2 [] [] 0 with
    | (some i, _) => .error (17, (i : Nat))
    | (none, R, P, _) => match patF R tableN f with
      | .ok r => .ok r
      | .error (c, j) => .error ((c : Nat), lkR (P ++ [(s.size : Int)]) j)
end Go.Proofs.YtdhhcefmmojcmaaGreatDoor
