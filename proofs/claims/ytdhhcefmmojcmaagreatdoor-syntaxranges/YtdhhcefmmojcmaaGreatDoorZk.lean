/- A parser of patterns, plain: a quantifier of any two numbers; conditions: as told. -/
import Derived.Test.YtdhhcefmmojcmaaGreatDoorZf
namespace Go.Proofs.YtdhhcefmmojcmaaGreatDoor
open Go.RowKit

/-- A number's digits. -/
def decL (n : Nat) : List Int := if n < 10 then [48 + (n : Int)] else if n < 100 then [48 + ((n / 10 : Nat) : Int), 48 + ((n % 10 : Nat) : Int)] else [48 + ((n / 100 : Nat) : Int), 48 + ((n / 10 % 10 : Nat) : Int), 48 + ((n % 10 : Nat) : Int)]
theorem dec_ok : ∀ n < 128, (decL n).length ≤ 3 ∧ (decL n).all isDig = true ∧ (decL n ≠ []) ∧ val10 ((decL n).map fun c => (c - 48).toNat) = n ∧ (decL n).all isAsc = true := by decide +kernel
/-- Digits that stand in a text, and no more. -/
theorem digs_at {R : List Int} : ∀ (l : List Int) (pre rest : List Int) (f : Nat), R = pre ++ l ++ rest → l.all isDig = true → l.length ≤ f → isDig (lkR R (pre.length + l.length)) = false → digs R (f + 1) pre.length = l.map fun c => (c - 48).toNat
  | [], pre, rest, f, hR, _, _, hd => by
    rw [digs]
    simp only [List.length_nil, Nat.add_zero] at hd
    rw [hd]
    rfl
  | c :: l, pre, rest, 0, hR, _, hl, _ => by simp at hl
  | c :: l, pre, rest, f + 1, hR, ha, hl, hd => by
    have hc : lkR R pre.length = c := by
      unfold lkR
      rw [hR, List.append_assoc, List.getElem?_append_right (Nat.le_refl _), Nat.sub_self]
      rfl
    rw [List.all_cons, Bool.and_eq_true] at ha
    rw [digs, hc, if_pos ha.1]
    have := digs_at (R := R) l (pre ++ [c]) rest f (by rw [hR]; simp) ha.2 (by simp at hl; omega) (by
      rw [List.length_append, List.length_singleton]
      rw [List.length_cons] at hd
      rw [show pre.length + 1 + l.length = pre.length + (l.length + 1) by omega]
      exact hd)
    rw [List.length_append, List.length_singleton] at this
    rw [this]
    rfl
def timesL (a b : Nat) (z : Bool) : List Int := [120, 123] ++ decL a ++ ([44] ++ decL b ++ ([125] ++ (if z then [63] else [])))
theorem lk_app {R pre rest : List Int} {c : Int} (h : R = pre ++ c :: rest) : lkR R pre.length = c := by
  unfold lkR
  rw [h, List.getElem?_append_right (Nat.le_refl _), Nat.sub_self]
  rfl
theorem times_quant (a b : Nat) (ha : a < 128) (hb : b < 128) (z : Bool) : quantF (timesL a b z) false 1 = if 64 < a ∨ 64 < b ∨ b < a then .error (23, 1) else .ok (some ((a : Int), (b : Int), z, (timesL a b z).length)) := by
  obtain ⟨a1, a2, a3, a4, _⟩ := dec_ok a ha
  obtain ⟨b1, b2, b3, b4, _⟩ := dec_ok b hb
  obtain ⟨R, hR⟩ : ∃ R, R = timesL a b z := ⟨_, rfl⟩
  rw [← hR]
  unfold timesL at hR
  have h1 : lkR R 1 = 123 := by rw [hR]; rfl
  have hlen : R.length = 2 + (decL a).length + 1 + (decL b).length + 1 + (if z then 1 else 0) := by
    rw [hR]
    simp only [List.length_append, List.length_cons, List.length_nil]
    cases z <;> simp <;> omega
  have hc1 : lkR R (2 + (decL a).length) = 44 := by
    have := lk_app (R := R) (pre := [120, 123] ++ decL a) (c := 44) (rest := decL b ++ ([125] ++ (if z then [63] else []))) (by rw [hR]; simp)
    rw [← this]
    congr 1
    simp
    omega
  have hc2 : lkR R (2 + (decL a).length + 1 + (decL b).length) = 125 := by
    have := lk_app (R := R) (pre := [120, 123] ++ decL a ++ [44] ++ decL b) (c := 125) (rest := if z then [63] else []) (by rw [hR]; simp)
    simp only [List.length_append, List.length_cons, List.length_nil] at this
    rw [← this]
  have hd1 : digs R 4 2 = (decL a).map fun c => (c - 48).toNat := digs_at (R := R) (decL a) [120, 123] ([44] ++ decL b ++ ([125] ++ (if z then [63] else []))) 3 (by rw [hR]) a2 a1 (by
    show isDig (lkR R (2 + (decL a).length)) = false
    rw [hc1]
    rfl)
  have hd2 : digs R 4 (2 + (decL a).length + 1) = (decL b).map fun c => (c - 48).toNat := by
    have := digs_at (R := R) (decL b) ([120, 123] ++ decL a ++ [44]) ([125] ++ (if z then [63] else [])) 3 (by rw [hR]; simp) b2 b1 (by
      have e : ([120, 123] ++ decL a ++ [44] : List Int).length + (decL b).length = 2 + (decL a).length + 1 + (decL b).length := by simp; omega
      rw [e, hc2]
      rfl)
    rw [← this]
    congr 1
    simp
    omega
  have hne : lkR R (2 + (decL a).length + 1) ≠ 125 := by
    match hl : decL b, b3, b2 with
    | c :: l, _, hb2 =>
      have := lk_app (R := R) (pre := [120, 123] ++ decL a ++ [44]) (c := c) (rest := l ++ ([125] ++ (if z then [63] else []))) (by rw [hR, hl]; simp)
      have e : ([120, 123] ++ decL a ++ [44] : List Int).length = 2 + (decL a).length + 1 := by simp; omega
      rw [e] at this
      rw [this]
      rw [List.all_cons, Bool.and_eq_true] at hb2
      intro e2
      rw [e2] at hb2
      exact absurd hb2.1 (by decide)
  have hn : numsF R 2 = some ((a : Int), (b : Int), 2 + (decL a).length + 1 + (decL b).length + 1) := by
    unfold numsF
    simp only [hd1, List.length_map, hc1]
    rw [if_neg (by simpa using a3), if_neg (by decide), if_pos trivial, if_neg hne]
    simp only [hd2, List.length_map, hc2]
    rw [if_neg (by simpa using b3), if_pos trivial, a4, b4]
  have hbd : boundF R 1 = some ((a : Int), (b : Int), 2 + (decL a).length + 1 + (decL b).length + 1) := by
    unfold boundF
    rw [h1]
    rw [if_neg (by decide), if_neg (by decide), if_neg (by decide), if_pos rfl, hn]
  unfold quantF
  rw [hbd]
  simp only
  by_cases hg : 64 < a ∨ 64 < b ∨ b < a
  · rw [if_pos hg, if_pos (by omega)]
  · rw [if_neg hg, if_neg (by omega)]
    have hz : lkR R (2 + (decL a).length + 1 + (decL b).length + 1) = if z then 63 else -1 := by
      cases z with
      | true =>
        have := lk_app (R := R) (pre := [120, 123] ++ decL a ++ [44] ++ decL b ++ [125]) (c := 63) (rest := []) (by rw [hR]; simp)
        simp only [List.length_append, List.length_cons, List.length_nil] at this
        rw [if_pos rfl, ← this]
      | false =>
        rw [if_neg (by decide)]
        exact lk_out (by rw [hlen]; simp)
    rw [hz, hlen]
    cases z with
    | true => rfl
    | false => rfl
def xN : Nd := .cls fl0 (cnR [(120, 120)])
theorem times_piece (a b : Nat) (ha : a < 128) (hb : b < 128) (z : Bool) : pieceF (timesL a b z) tableN (some (altN (timesL a b z) tableN 31)) ⟨0, fl0, [⟨#[]⟩]⟩ = if 64 < a ∨ 64 < b ∨ b < a then .error (23, 1) else .ok (some (.rep (a : Int) (b : Int) z xN), ⟨(timesL a b z).length, fl0, [⟨#[]⟩]⟩) := by
  have h0 : lkR (timesL a b z) 0 = 120 := rfl
  have hb0 : boundF (timesL a b z) 0 = none := by
    unfold boundF
    rw [h0]
    rfl
  have hat : atomF (timesL a b z) tableN (some (altN (timesL a b z) tableN 31)) ⟨0, fl0, [⟨#[]⟩]⟩ = .ok (some xN, ⟨1, fl0, [⟨#[]⟩]⟩) := by
    unfold atomF
    rw [show lkR (timesL a b z) (St.mk 0 fl0 [⟨#[]⟩]).k = 120 from h0]
    rfl
  unfold pieceF
  rw [show (St.mk 0 fl0 [⟨#[]⟩]).k = 0 from rfl, hb0, hat]
  simp only
  unfold repF
  rw [show (St.mk 1 fl0 [⟨#[]⟩]).k = 1 from rfl, show (St.mk 1 fl0 [⟨#[]⟩]).f.u = false from rfl, times_quant a b ha hb z]
  by_cases hg : 64 < a ∨ 64 < b ∨ b < a
  · rw [if_pos hg, if_pos hg]
  · rw [if_neg hg, if_neg hg]
theorem times_pat (a b : Nat) (ha : a < 128) (hb : b < 128) (z : Bool) : patF (timesL a b z) tableN fl0 = if 64 < a ∨ 64 < b ∨ b < a then .error (23, 1) else .ok (.rep (a : Int) (b : Int) z xN, [⟨#[]⟩]) := by
  have h0 : endR (lkR (timesL a b z) 0) = false := rfl
  by_cases hg : 64 < a ∨ 64 < b ∨ b < a
  · rw [if_pos hg]
    exact one_bad h0 (by rw [times_piece a b ha hb z, if_pos hg])
  · rw [if_neg hg]
    exact one_pat h0 (by rw [times_piece a b ha hb z, if_neg hg])
theorem times_prs {s : ByteArray} (a b : Nat) (ha : a < 128) (hb : b < 128) (z : Bool) (hs : s = bytesI (timesL a b z)) : prsR s fl0 = if 64 < a ∨ 64 < b ∨ b < a then .error (23, 1) else .ok (.rep (a : Int) (b : Int) z xN, [⟨#[]⟩]) := by
  obtain ⟨a1, _, _, _, a5⟩ := dec_ok a ha
  obtain ⟨b1, _, _, _, b5⟩ := dec_ok b hb
  have hasc : (timesL a b z).all isAsc = true := by
    unfold timesL
    simp only [List.all_append, a5, b5]
    cases z <;> rfl
  have hlen : (timesL a b z).length ≤ 20 := by
    unfold timesL
    simp only [List.length_append, List.length_cons, List.length_nil]
    cases z <;> simp <;> omega
  obtain ⟨h1, h2⟩ := asc_lays (timesL a b z) hasc
  rw [hs, prs_asc fl0 hasc h1 h2 (by omega), times_pat a b ha hb z]
  by_cases hg : 64 < a ∨ 64 < b ∨ b < a
  · rw [if_pos hg, if_pos hg]
    simp only
    rw [asc_lk _ 1 (by unfold timesL; simp)]
    rfl
  · rw [if_neg hg, if_neg hg]
end Go.Proofs.YtdhhcefmmojcmaaGreatDoor
