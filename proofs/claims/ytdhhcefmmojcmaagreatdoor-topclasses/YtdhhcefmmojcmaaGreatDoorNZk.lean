/- Texts of this proof, one behind the other: what each says stands ahead of it. -/
import Derived.Test.YtdhhcefmmojcmaaGreatDoorZf
/- A parser of patterns, plain: a quantifier of any two numbers; conditions: as told. -/
namespace Go.Proofs.YtdhhcefmmojcmaaGreatDoor
open Go.RowKit

/-- A number's digits. -/
def decL (n : Nat) : List Int := if n < 10 then [48 + (n : Int)] else if n < 100 then [48 + ((n / 10 : Nat) : Int), 48 + ((n % 10 : Nat) : Int)] else [48 + ((n / 100 : Nat) : Int), 48 + ((n / 10 % 10 : Nat) : Int), 48 + ((n % 10 : Nat) : Int)]
theorem dec_ok : ∀ n < 128, (decL n).length ≤ 3 ∧ (decL n).all isDig = true ∧ (decL n ≠ []) ∧ val10 ((decL n).map fun c => (c - 48).toNat) = n ∧ (decL n).all isAsc = true := by decide +kernel
/-- Digits that stand in a text, and no more. -/
theorem digs_at {R : List Int} : ∀ (l : List Int) (pre rest : List Int) (f : Nat), R = pre ++ l ++ rest → l.all isDig = true → l.length ≤ f → isDig (lkR R (pre.length + l.length)) = false → digs R (f + 1) pre.length = l.map fun c => (c - 48).toNat
  | [], pre, rest, f, hR, _, _, hd => by
    rw [digs]
    simp only [List.length_nil, Nat.add_zero] at hd
    rw [hd]
    rfl
  | c :: l, pre, rest, 0, hR, _, hl, _ => by simp at hl
  | c :: l, pre, rest, f + 1, hR, ha, hl, hd => by
    have hc : lkR R pre.length = c := by
      unfold lkR
      rw [hR, List.append_assoc, List.getElem?_append_right (Nat.le_refl _), Nat.sub_self]
      rfl
    rw [List.all_cons, Bool.and_eq_true] at ha
    rw [digs, hc, if_pos ha.1]
    have := digs_at (R := R) l (pre ++ [c]) rest f (by rw [hR]; simp) ha.2 (by simp at hl; omega) (by
      rw [List.length_append, List.length_singleton]
      rw [List.length_cons] at hd
      rw [show pre.length + 1 + l.length = pre.length + (l.length + 1) by omega]
      exact hd)
    rw [List.length_append, List.length_singleton] at this
    rw [this]
    rfl
def timesL (a b : Nat) (z : Bool) : List Int := [120, 123] ++ decL a ++ ([44] ++ decL b ++ ([125] ++ (if z then [63] else [])))
theorem lk_app {R pre rest : List Int} {c : Int} (h : R = pre ++ c :: rest) : lkR R pre.length = c := by
  unfold lkR
  rw [h, List.getElem?_append_right (Nat.le_refl _), Nat.sub_self]
  rfl
theorem times_quant (a b : Nat) (ha : a < 128) (hb : b < 128) (z : Bool) : quantF (timesL a b z) false 1 = if 64 < a ∨ 64 < b ∨ b < a then .error (23, 1) else .ok (some ((a : Int), (b : Int), z, (timesL a b z).length)) := by
  obtain ⟨a1, a2, a3, a4, _⟩ := dec_ok a ha
  obtain ⟨b1, b2, b3, b4, _⟩ := dec_ok b hb
  obtain ⟨R, hR⟩ : ∃ R, R = timesL a b z := ⟨_, rfl⟩
  rw [← hR]
  unfold timesL at hR
  have h1 : lkR R 1 = 123 := by rw [hR]; rfl
  have hlen : R.length = 2 + (decL a).length + 1 + (decL b).length + 1 + (if z then 1 else 0) := by
    rw [hR]
    simp only [List.length_append, List.length_cons, List.length_nil]
    cases z <;> simp <;> omega
  have hc1 : lkR R (2 + (decL a).length) = 44 := by
    have := lk_app (R := R) (pre := [120, 123] ++ decL a) (c := 44) (rest := decL b ++ ([125] ++ (if z then [63] else []))) (by rw [hR]; simp)
    rw [← this]
    congr 1
    simp
    omega
  have hc2 : lkR R (2 + (decL a).length + 1 + (decL b).length) = 125 := by
    have := lk_app (R := R) (pre := [120, 123] ++ decL a ++ [44] ++ decL b) (c := 125) (rest := if z then [63] else []) (by rw [hR]; simp)
    simp only [List.length_append, List.length_cons, List.length_nil] at this
    rw [← this]
  have hd1 : digs R 4 2 = (decL a).map fun c => (c - 48).toNat := digs_at (R := R) (decL a) [120, 123] ([44] ++ decL b ++ ([125] ++ (if z then [63] else []))) 3 (by rw [hR]) a2 a1 (by
    show isDig (lkR R (2 + (decL a).length)) = false
    rw [hc1]
    rfl)
  have hd2 : digs R 4 (2 + (decL a).length + 1) = (decL b).map fun c => (c - 48).toNat := by
    have := digs_at (R := R) (decL b) ([120, 123] ++ decL a ++ [44]) ([125] ++ (if z then [63] else [])) 3 (by rw [hR]; simp) b2 b1 (by
      have e : ([120, 123] ++ decL a ++ [44] : List Int).length + (decL b).length = 2 + (decL a).length + 1 + (decL b).length := by simp; omega
      rw [e, hc2]
      rfl)
    rw [← this]
    congr 1
    simp
    omega
  have hne : lkR R (2 + (decL a).length + 1) ≠ 125 := by
    match hl : decL b, b3, b2 with
    | c :: l, _, hb2 =>
      have := lk_app (R := R) (pre := [120, 123] ++ decL a ++ [44]) (c := c) (rest := l ++ ([125] ++ (if z then [63] else []))) (by rw [hR, hl]; simp)
      have e : ([120, 123] ++ decL a ++ [44] : List Int).length = 2 + (decL a).length + 1 := by simp; omega
      rw [e] at this
      rw [this]
      rw [List.all_cons, Bool.and_eq_true] at hb2
      intro e2
      rw [e2] at hb2
      exact absurd hb2.1 (by decide)
  have hn : numsF R 2 = some ((a : Int), (b : Int), 2 + (decL a).length + 1 + (decL b).length + 1) := by
    unfold numsF
    simp only [hd1, List.length_map, hc1]
    rw [if_neg (by simpa using a3), if_neg (by decide), if_pos trivial, if_neg hne]
    simp only [hd2, List.length_map, hc2]
    rw [if_neg (by simpa using b3), if_pos trivial, a4, b4]
  have hbd : boundF R 1 = some ((a : Int), (b : Int), 2 + (decL a).length + 1 + (decL b).length + 1) := by
    unfold boundF
    rw [h1]
    rw [if_neg (by decide), if_neg (by decide), if_neg (by decide), if_pos rfl, hn]
  unfold quantF
  rw [hbd]
  simp only
  by_cases hg : 64 < a ∨ 64 < b ∨ b < a
  · rw [if_pos hg, if_pos (by omega)]
  · rw [if_neg hg, if_neg (by omega)]
    have hz : lkR R (2 + (decL a).length + 1 + (decL b).length + 1) = if z then 63 else -1 := by
      cases z with
      | true =>
        have := lk_app (R := R) (pre := [120, 123] ++ decL a ++ [44] ++ decL b ++ [125]) (c := 63) (rest := []) (by rw [hR]; simp)
        simp only [List.length_append, List.length_cons, List.length_nil] at this
        rw [if_pos rfl, ← this]
      | false =>
        rw [if_neg (by decide)]
        exact lk_out (by rw [hlen]; simp)
    rw [hz, hlen]
    cases z with
    | true => rfl
    | false => rfl
def xN : Nd := .cls fl0 (cnR [(120, 120)])
theorem times_piece (a b : Nat) (ha : a < 128) (hb : b < 128) (z : Bool) : pieceF (timesL a b z) tableN (some (altN (timesL a b z) tableN 31)) ⟨0, fl0, [⟨#[]⟩]⟩ = if 64 < a ∨ 64 < b ∨ b < a then .error (23, 1) else .ok (some (.rep (a : Int) (b : Int) z xN), ⟨(timesL a b z).length, fl0, [⟨#[]⟩]⟩) := by
  have h0 : lkR (timesL a b z) 0 = 120 := rfl
  have hb0 : boundF (timesL a b z) 0 = none := by
    unfold boundF
    rw [h0]
    rfl
  have hat : atomF (timesL a b z) tableN (some (altN (timesL a b z) tableN 31)) ⟨0, fl0, [⟨#[]⟩]⟩ = .ok (some xN, ⟨1, fl0, [⟨#[]⟩]⟩) := by
    unfold atomF
    rw [show lkR (timesL a b z) (St.mk 0 fl0 [⟨#[]⟩]).k = 120 from h0]
    rfl
  unfold pieceF
  rw [show (St.mk 0 fl0 [⟨#[]⟩]).k = 0 from rfl, hb0, hat]
  simp only
  unfold repF
  rw [show (St.mk 1 fl0 [⟨#[]⟩]).k = 1 from rfl, show (St.mk 1 fl0 [⟨#[]⟩]).f.u = false from rfl, times_quant a b ha hb z]
  by_cases hg : 64 < a ∨ 64 < b ∨ b < a
  · rw [if_pos hg, if_pos hg]
  · rw [if_neg hg, if_neg hg]
theorem times_pat (a b : Nat) (ha : a < 128) (hb : b < 128) (z : Bool) : patF (timesL a b z) tableN fl0 = if 64 < a ∨ 64 < b ∨ b < a then .error (23, 1) else .ok (.rep (a : Int) (b : Int) z xN, [⟨#[]⟩]) := by
  have h0 : endR (lkR (timesL a b z) 0) = false := rfl
  by_cases hg : 64 < a ∨ 64 < b ∨ b < a
  · rw [if_pos hg]
    exact one_bad h0 (by rw [times_piece a b ha hb z, if_pos hg])
  · rw [if_neg hg]
    exact one_pat h0 (by rw [times_piece a b ha hb z, if_neg hg])
theorem times_prs {s : ByteArray} (a b : Nat) (ha : a < 128) (hb : b < 128) (z : Bool) (hs : s = bytesI (timesL a b z)) : prsR s fl0 = if 64 < a ∨ 64 < b ∨ b < a then .error (23, 1) else .ok (.rep (a : Int) (b : Int) z xN, [⟨#[]⟩]) := by
  obtain ⟨a1, _, _, _, a5⟩ := dec_ok a ha
  obtain ⟨b1, _, _, _, b5⟩ := dec_ok b hb
  have hasc : (timesL a b z).all isAsc = true := by
    unfold timesL
    simp only [List.all_append, a5, b5]
    cases z <;> rfl
  have hlen : (timesL a b z).length ≤ 20 := by
    unfold timesL
    simp only [List.length_append, List.length_cons, List.length_nil]
    cases z <;> simp <;> omega
  obtain ⟨h1, h2⟩ := asc_lays (timesL a b z) hasc
  rw [hs, prs_asc fl0 hasc h1 h2 (by omega), times_pat a b ha hb z]
  by_cases hg : 64 < a ∨ 64 < b ∨ b < a
  · rw [if_pos hg, if_pos hg]
    simp only
    rw [asc_lk _ 1 (by unfold timesL; simp)]
    rfl
  · rw [if_neg hg, if_neg hg]
end Go.Proofs.YtdhhcefmmojcmaaGreatDoor

/- A parser of patterns, plain: a range of any two numbers, by their digits; conditions: as told. -/
namespace Go.Proofs.YtdhhcefmmojcmaaGreatDoor
open Go.RowKit

/-- A hexadecimal digit. -/
def hexD (d : Nat) : Int := if d < 10 then 48 + (d : Int) else 87 + (d : Int)
theorem hexD_ok : ∀ d < 16, isHex (hexD d) = true ∧ hexV (hexD d) = d ∧ isAsc (hexD d) = true ∧ hexD d ≠ 125 := by decide +kernel
/-- A number's hexadecimal digits, at most so many. -/
def hexL : Nat → Nat → List Int
  | 0, _ => []
  | f + 1, n => if n < 16 then [hexD n] else hexL f (n / 16) ++ [hexD (n % 16)]
theorem val16_end (l : List Int) (c : Int) : val16 (l ++ [c]) = 16 * val16 l + hexV c := by simp [val16]
theorem hexL_ok : ∀ (f n : Nat), 1 ≤ f → n < 16 ^ f → (hexL f n).length ≤ f ∧ (hexL f n).all isHex = true ∧ hexL f n ≠ [] ∧ val16 (hexL f n) = n ∧ (hexL f n).all isAsc = true
  | 0, _, h, _ => by omega
  | f + 1, n, _, hn => by
    rw [hexL]
    by_cases h : n < 16
    · rw [if_pos h]
      obtain ⟨h1, h2, h3, _⟩ := hexD_ok n h
      exact ⟨by simp, by simp [h1], by simp, by simp [val16, h2], by simp [h3]⟩
    · rw [if_neg h]
      have hf : 1 ≤ f := by
        rcases Nat.eq_zero_or_pos f with e | e
        · rw [e] at hn; omega
        · exact e
      obtain ⟨i1, i2, i3, i4, i5⟩ := hexL_ok f (n / 16) hf (by rw [Nat.pow_succ] at hn; omega)
      obtain ⟨h1, h2, h3, _⟩ := hexD_ok (n % 16) (Nat.mod_lt _ (by decide))
      refine ⟨by simp; omega, by rw [List.all_append, i2]; simp [h1], by simp, ?_, by rw [List.all_append, i5]; simp [h3]⟩
      rw [val16_end, i4, h2]
      omega
/-- Signs that fit stand in a text, and no more. -/
theorem runF_at {R : List Int} {q : Int → Bool} : ∀ (l pre rest : List Int) (f : Nat), R = pre ++ l ++ rest → l.all q = true → l.length ≤ f → (l.length = f ∨ q (lkR R (pre.length + l.length)) = false) → runF R q f pre.length = l
  | [], pre, rest, 0, _, _, _, _ => rfl
  | [], pre, rest, f + 1, hR, _, _, hd => by
    rw [runF]
    rcases hd with hd | hd
    · simp at hd
    · simp only [List.length_nil, Nat.add_zero] at hd
      rw [hd]
      rfl
  | c :: l, pre, rest, 0, hR, _, hl, _ => by simp at hl
  | c :: l, pre, rest, f + 1, hR, ha, hl, hd => by
    have hc : lkR R pre.length = c := lk_app (rest := l ++ rest) (by rw [hR]; simp)
    rw [List.all_cons, Bool.and_eq_true] at ha
    rw [runF, hc, if_pos ha.1]
    have := runF_at (R := R) l (pre ++ [c]) rest f (by rw [hR]; simp) ha.2 (by simp at hl; omega) (by
      rw [List.length_append, List.length_singleton]
      rw [List.length_cons] at hd
      rcases hd with hd | hd
      · left; omega
      · right
        rw [show pre.length + 1 + l.length = pre.length + (l.length + 1) by omega]
        exact hd)
    rw [List.length_append, List.length_singleton] at this
    rw [this]
/-- A number in brackets behind a stroke and an x. -/
def numL (n : Nat) : List Int := [92, 120, 123] ++ hexL 6 n ++ [125]
theorem num_len (n : Nat) : (numL n).length = (hexL 6 n).length + 4 := by simp [numL]
/-- It is read as the number, wherever it stands. -/
theorem num_memb {R pre rest : List Int} {n : Nat} (hn : n ≤ 1114111) (hR : R = pre ++ numL n ++ rest) (op : Nat) : membF R tableN op pre.length = .ok ([((n : Int), (n : Int))], some (n : Int), pre.length + (numL n).length) := by
  obtain ⟨h1, h2, h3, h4, _⟩ := hexL_ok 6 n (by decide) (by omega)
  have l0 : lkR R pre.length = 92 := lk_app (rest := [120, 123] ++ hexL 6 n ++ [125] ++ rest) (by rw [hR]; simp [numL])
  have l1 : lkR R (pre.length + 1) = 120 := by
    have := lk_app (R := R) (pre := pre ++ [92]) (c := 120) (rest := [123] ++ hexL 6 n ++ [125] ++ rest) (by rw [hR]; simp [numL])
    simpa using this
  have l2 : lkR R (pre.length + 2) = 123 := by
    have := lk_app (R := R) (pre := pre ++ [92, 120]) (c := 123) (rest := hexL 6 n ++ [125] ++ rest) (by rw [hR]; simp [numL])
    simpa using this
  have l3 : lkR R (pre.length + 3 + (hexL 6 n).length) = 125 := by
    have := lk_app (R := R) (pre := pre ++ [92, 120, 123] ++ hexL 6 n) (c := 125) (rest := rest) (by rw [hR]; simp [numL])
    simp only [List.length_append, List.length_cons, List.length_nil] at this
    rw [← this]
  have hr : runF R isHex 6 (pre.length + 3) = hexL 6 n := by
    have := runF_at (R := R) (q := isHex) (hexL 6 n) (pre ++ [92, 120, 123]) ([125] ++ rest) 6 (by rw [hR]; simp [numL]) h2 h1 (.inr (by
      simp only [List.length_append, List.length_cons, List.length_nil]
      rw [show pre.length + (0 + 1 + 1 + 1) + (hexL 6 n).length = pre.length + 3 + (hexL 6 n).length by omega, l3]
      rfl))
    simpa using this
  have hc : codeF R pre.length (pre.length + 2) = .ok (n, pre.length + 3 + (hexL 6 n).length + 1) := by
    unfold codeF
    rw [l2, if_pos rfl]
    simp only [hr, l3, h4]
    rw [if_pos ⟨h3, trivial, hn⟩]
  unfold membF
  rw [l0, if_neg (by decide), if_pos rfl]
  unfold escF
  rw [l1]
  unfold escC
  rw [if_neg (by decide), if_neg (by decide), if_neg (by decide), if_neg (by decide), if_neg (by decide), if_neg (by decide), if_neg (by decide), if_pos rfl, hc]
  simp only
  rw [num_len n]
  congr 3
  omega
def rangeL (neg : Bool) (a b : Nat) : List Int := (if neg then [91, 94] else [91]) ++ numL a ++ ([45] ++ numL b ++ [93])
/-- What is told of such a class. -/
def rangeR (neg : Bool) (a b : Nat) : PR (Nd × List ByteArray) := if b < a then .error (22, if neg then 2 else 1) else .ok (.cls fl0 (if neg then notR [((a : Int), (b : Int))] else cnR [((a : Int), (b : Int))]), [⟨#[]⟩])
theorem range_pat (neg : Bool) (a b : Nat) (ha : a ≤ 1114111) (hb : b ≤ 1114111) : patF (rangeL neg a b) tableN fl0 = rangeR neg a b := by
  obtain ⟨R, hR⟩ : ∃ R, R = rangeL neg a b := ⟨_, rfl⟩
  rw [← hR]
  unfold rangeL at hR
  obtain ⟨hd, hhd⟩ : ∃ hd, hd = (if neg then [91, 94] else [91] : List Int) := ⟨_, rfl⟩
  rw [← hhd] at hR
  have h0 : lkR R 0 = 91 := by rw [hR, hhd]; cases neg <;> rfl
  have hm1 := num_memb (R := R) (pre := hd) (rest := [45] ++ numL b ++ [93]) ha (by rw [hR]) 0
  have hk : lkR R (hd.length + (numL a).length) = 45 := by
    have := lk_app (R := R) (pre := hd ++ numL a) (c := 45) (rest := numL b ++ [93]) (by rw [hR]; simp)
    rwa [List.length_append] at this
  have hm2 := num_memb (R := R) (pre := hd ++ numL a ++ [45]) (rest := [93]) hb (by rw [hR]; simp) 0
  have e2 : (hd ++ numL a ++ [45]).length = hd.length + (numL a).length + 1 := by simp; omega
  rw [e2] at hm2
  have hk1 : lkR R (hd.length + (numL a).length + 1) = 92 := by
    have := lk_app (R := R) (pre := hd ++ numL a ++ [45]) (c := 92) (rest := [120, 123] ++ hexL 6 b ++ [125] ++ [93]) (by rw [hR]; simp [numL])
    rwa [e2] at this
  have hend : lkR R (hd.length + (numL a).length + 1 + (numL b).length) = 93 := by
    have := lk_app (R := R) (pre := hd ++ numL a ++ [45] ++ numL b) (c := 93) (rest := []) (by rw [hR]; simp)
    rwa [List.length_append, e2] at this
  have hlen : R.length = hd.length + (numL a).length + 1 + (numL b).length + 1 := by rw [hR]; simp; omega
  have hi : itemF R tableN 0 hd.length = if b < a then .error (22, hd.length) else .ok ([((a : Int), (b : Int))], hd.length + (numL a).length + 1 + (numL b).length) := by
    unfold itemF
    rw [hm1]
    simp only
    rw [if_pos ⟨hk, by rw [hk1]; decide⟩, hm2]
    simp only
    by_cases h : b < a
    · rw [if_pos (by omega), if_pos h]
    · rw [if_neg (by omega), if_neg h]
  have h2 : class2 R tableN 0 hd.length = if b < a then .error (22, hd.length) else .ok ([((a : Int), (b : Int))], R.length) := by
    unfold class2
    rw [hi]
    by_cases h : b < a
    · rw [if_pos h, if_pos h]
    · rw [if_neg h, if_neg h]
      simp only
      rw [itemsF, if_pos hend, hlen]
  have hl1 : lkR R 1 = if neg then 94 else 92 := by rw [hR, hhd]; cases neg <;> rfl
  have hcl : classF R tableN 0 1 = turnC neg (class2 R tableN 0 hd.length) := by
    unfold classF
    rw [hl1, hhd]
    cases neg <;> rfl
  have hat : atomF R tableN (some (altN R tableN 31)) ⟨0, fl0, [⟨#[]⟩]⟩ = if b < a then .error (22, hd.length) else .ok (some (.cls fl0 (if neg then notR [((a : Int), (b : Int))] else cnR [((a : Int), (b : Int))])), ⟨R.length, fl0, [⟨#[]⟩]⟩) := by
    unfold atomF
    rw [show lkR R (St.mk 0 fl0 [⟨#[]⟩]).k = 91 from h0]
    unfold atomC
    rw [if_neg (by decide), if_pos rfl, show (St.mk 0 fl0 [⟨#[]⟩]).k = 0 from rfl, Nat.zero_add, hcl, h2]
    by_cases h : b < a
    · rw [if_pos h, if_pos h]
      rfl
    · rw [if_neg h, if_neg h]
      rfl
  have hp : pieceF R tableN (some (altN R tableN 31)) ⟨0, fl0, [⟨#[]⟩]⟩ = if b < a then .error (22, hd.length) else .ok (some (.cls fl0 (if neg then notR [((a : Int), (b : Int))] else cnR [((a : Int), (b : Int))])), ⟨R.length, fl0, [⟨#[]⟩]⟩) := by
    have hb0 : boundF R 0 = none := by
      unfold boundF
      rw [h0]
      rfl
    unfold pieceF
    rw [show (St.mk 0 fl0 [⟨#[]⟩]).k = 0 from rfl, hb0, hat]
    by_cases h : b < a
    · simp only [if_pos h]
    · simp only [if_neg h]
      have hq : quantF R false R.length = .ok none := by
        unfold quantF boundF
        rw [lk_out (Nat.le_refl _)]
        rfl
      unfold repF
      rw [show (St.mk R.length fl0 [⟨#[]⟩]).k = R.length from rfl, show (St.mk R.length fl0 [⟨#[]⟩]).f.u = false from rfl, hq]
  unfold rangeR
  have h9 : endR (lkR R 0) = false := by rw [h0]; rfl
  have hdl : hd.length = if neg then 2 else 1 := by rw [hhd]; cases neg <;> rfl
  by_cases h : b < a
  · rw [if_pos h] at hp ⊢
    rw [one_bad h9 hp, hdl]
  · rw [if_neg h] at hp ⊢
    exact one_pat h9 hp
theorem range_prs {s : ByteArray} (neg : Bool) (a b : Nat) (ha : a ≤ 1114111) (hb : b ≤ 1114111) (hs : s = bytesI (rangeL neg a b)) : prsR s fl0 = if b < a then .error (22, if neg then 2 else 1) else .ok (.cls fl0 (if neg then notR [((a : Int), (b : Int))] else cnR [((a : Int), (b : Int))]), [⟨#[]⟩]) := by
  obtain ⟨a1, _, _, _, a5⟩ := hexL_ok 6 a (by decide) (by omega)
  obtain ⟨b1, _, _, _, b5⟩ := hexL_ok 6 b (by decide) (by omega)
  have hasc : (rangeL neg a b).all isAsc = true := by
    unfold rangeL numL
    simp only [List.all_append, a5, b5]
    cases neg <;> rfl
  have hlen : (rangeL neg a b).length ≤ 30 ∧ 3 ≤ (rangeL neg a b).length := by
    unfold rangeL numL
    simp only [List.length_append, List.length_cons, List.length_nil]
    cases neg <;> simp <;> omega
  obtain ⟨h1, h2⟩ := asc_lays (rangeL neg a b) hasc
  rw [hs, prs_asc fl0 hasc h1 h2 (by omega), range_pat neg a b ha hb]
  unfold rangeR
  by_cases h : b < a
  · rw [if_pos h, if_pos h]
    simp only
    rw [asc_lk _ _ (by cases neg <;> simp <;> omega)]
    cases neg <;> rfl
  · rw [if_neg h, if_neg h]
end Go.Proofs.YtdhhcefmmojcmaaGreatDoor

/- A parser of patterns, plain: a class of numbers and of Perl's letters; conditions: as told. -/
namespace Go.Proofs.YtdhhcefmmojcmaaGreatDoor
open Go.RowKit

/-- A number, or one of Perl's letters. -/
inductive Tok where
  | num (r : Nat) : Tok
  | prl (c : Nat) : Tok
def perlS (c : Nat) : Option (List R2) :=
  if c = 100 then some lNd else if c = 68 then some (notR lNd) else if c = 115 then some lBl else if c = 83 then some (notR lBl) else if c = 119 then some lW else if c = 87 then some (notR lW) else none
def tokL : Tok → List Int
  | .num r => numL r
  | .prl c => [92, (c : Int)]
def tokS : Tok → List R2
  | .num r => [((r : Int), (r : Int))]
  | .prl c => (perlS c).getD []
def tokOk : Tok → Prop
  | .num r => r ≤ 1114111
  | .prl c => (perlS c).isSome = true
theorem perl_is {c : Nat} (h : (perlS c).isSome = true) : c = 100 ∨ c = 68 ∨ c = 115 ∨ c = 83 ∨ c = 119 ∨ c = 87 := by
  refine Decidable.byContradiction fun hn => ?_
  unfold perlS at h
  rw [if_neg (by omega), if_neg (by omega), if_neg (by omega), if_neg (by omega), if_neg (by omega), if_neg (by omega)] at h
  cases h
theorem tok_item {R pre rest : List Int} {t : Tok} {e : Int} (ht : tokOk t) (he : e ≠ 45) (hR : R = pre ++ tokL t ++ e :: rest) (op : Nat) : itemF R tableN op pre.length = .ok (tokS t, pre.length + (tokL t).length) := by
  have hend : lkR R (pre.length + (tokL t).length) = e := by
    have := lk_app (R := R) (pre := pre ++ tokL t) (c := e) (rest := rest) hR
    rwa [List.length_append] at this
  unfold itemF
  match t, ht, hR, hend with
  | .num r, ht, hR, hend =>
    rw [num_memb ht hR op]
    simp only
    rw [if_neg (fun h => he (by rw [← hend]; exact h.1))]
    rfl
  | .prl c, ht, hR, hend =>
    have l0 : lkR R pre.length = 92 := lk_app (rest := [(c : Int)] ++ e :: rest) (by rw [hR]; simp [tokL])
    have l1 : lkR R (pre.length + 1) = (c : Int) := by
      have := lk_app (R := R) (pre := pre ++ [92]) (c := (c : Int)) (rest := e :: rest) (by rw [hR]; simp [tokL])
      simpa using this
    have hm : membF R tableN op pre.length = .ok (tokS (.prl c), none, pre.length + 2) := by
      unfold membF
      rw [l0, if_neg (by decide), if_pos rfl]
      unfold escF
      rw [l1]
      rcases perl_is ht with rfl | rfl | rfl | rfl | rfl | rfl <;> rfl
    rw [hm]
    rfl
def flatL (ts : List Tok) : List Int := ts.flatMap tokL
def flatS (ts : List Tok) : List R2 := ts.flatMap tokS
theorem tok_head (t : Tok) : ∃ l, tokL t = 92 :: l := by
  cases t with
  | num r => exact ⟨[120, 123] ++ hexL 6 r ++ [125], by simp [tokL, numL]⟩
  | prl c => exact ⟨[(c : Int)], rfl⟩
/-- What stands behind a token is a stroke or the bracket. -/
theorem tail_head (ts : List Tok) : ∃ e l, flatL ts ++ [93] = e :: l ∧ e ≠ 45 ∧ e ≠ -1 := by
  cases ts with
  | nil => exact ⟨93, [], rfl, by decide, by decide⟩
  | cons t ts =>
    obtain ⟨l, hl⟩ := tok_head t
    exact ⟨92, l ++ (flatL ts ++ [93]), by simp [flatL, hl], by decide, by decide⟩
theorem toks_items {R : List Int} (op : Nat) : ∀ (ts : List Tok) (pre : List Int) (l : List R2) (f : Nat), (∀ t ∈ ts, tokOk t) → R = pre ++ flatL ts ++ [93] → ts.length < f → itemsF R tableN op f pre.length l = .ok (l ++ flatS ts, R.length)
  | [], pre, l, 0, _, _, h => by simp at h
  | [], pre, l, f + 1, _, hR, _ => by
    have h93 : lkR R pre.length = 93 := lk_app (rest := []) (by rw [hR]; simp [flatL])
    rw [itemsF, if_pos h93, hR]
    simp [flatL, flatS]
  | t :: ts, pre, l, 0, _, _, h => by simp at h
  | t :: ts, pre, l, f + 1, ho, hR, hf => by
    obtain ⟨tl, htl⟩ := tok_head t
    have h92 : lkR R pre.length = 92 := lk_app (rest := tl ++ flatL ts ++ [93]) (by rw [hR]; simp [flatL, htl])
    obtain ⟨e, r, her, he, _⟩ := tail_head ts
    have hi := tok_item (R := R) (pre := pre) (rest := r) (ho t (by simp)) he (by rw [hR, ← her]; simp [flatL]) op
    rw [itemsF, if_neg (by rw [h92]; decide), hi]
    simp only
    have := toks_items (R := R) op ts (pre ++ tokL t) (l ++ tokS t) f (fun x hx => ho x (by simp [hx])) (by rw [hR]; simp [flatL]) (by simp at hf; omega)
    rw [List.length_append] at this
    rw [this]
    simp [flatS]
theorem flat_len92 (ts : List Tok) : ts.length ≤ (flatL ts).length := by
  induction ts with
  | nil => simp
  | cons t ts ih =>
    obtain ⟨l, hl⟩ := tok_head t
    simp only [flatL, List.flatMap_cons, hl, List.cons_append, List.length_cons, List.length_append] at ih ⊢
    omega
/-- The set that is told of such a class. -/
def setT (neg : Bool) (ts : List Tok) : List R2 := if neg then notR (flatS ts) else cnR (flatS ts)
theorem toks_pat (neg : Bool) (ts : List Tok) (ho : ∀ t ∈ ts, tokOk t) (h0 : ts ≠ []) : patF ((if neg then [91, 94] else [91]) ++ flatL ts ++ [93]) tableN fl0 = .ok (.cls fl0 (setT neg ts), [⟨#[]⟩]) := by
  obtain ⟨R, hR⟩ : ∃ R, R = (if neg then [91, 94] else [91] : List Int) ++ flatL ts ++ [93] := ⟨_, rfl⟩
  rw [← hR]
  obtain ⟨hd, hhd⟩ : ∃ hd, hd = (if neg then [91, 94] else [91] : List Int) := ⟨_, rfl⟩
  rw [← hhd] at hR
  have hr0 : lkR R 0 = 91 := by rw [hR, hhd]; cases neg <;> rfl
  match ts, h0, ho, hR with
  | t :: ts, _, ho, hR =>
    obtain ⟨tl, htl⟩ := tok_head t
    obtain ⟨e, r, her, he, _⟩ := tail_head ts
    have hi := tok_item (R := R) (pre := hd) (rest := r) (ho t (by simp)) he (by rw [hR, ← her]; simp [flatL]) 0
    have h2 : class2 R tableN 0 hd.length = .ok (flatS (t :: ts), R.length) := by
      unfold class2
      rw [hi]
      simp only
      have := toks_items (R := R) 0 ts (hd ++ tokL t) (tokS t) (R.length + 1) (fun x hx => ho x (by simp [hx])) (by rw [hR]; simp [flatL]) (by
        have := flat_len92 ts
        rw [hR]
        simp only [flatL, List.flatMap_cons, List.length_append] at this ⊢
        omega)
      rw [List.length_append] at this
      rw [this]
      simp [flatS]
    have hl1 : lkR R 1 = if neg then 94 else 92 := by rw [hR, hhd]; cases neg <;> simp [flatL, htl] <;> rfl
    have hcl : classF R tableN 0 1 = .ok (setT neg (t :: ts), R.length) := by
      unfold classF
      rw [hl1]
      have hdl : hd.length = if neg then 2 else 1 := by rw [hhd]; cases neg <;> rfl
      rw [hdl] at h2
      cases neg
      · rw [if_neg (by decide)] at *
        rw [h2]
        rfl
      · rw [if_pos rfl] at *
        rw [h2]
        rfl
    refine one_pat (f' := fl0) (by rw [hr0]; rfl) ?_
    have hb0 : boundF R 0 = none := by
      unfold boundF
      rw [hr0]
      rfl
    have hat : atomF R tableN (some (altN R tableN 31)) ⟨0, fl0, [⟨#[]⟩]⟩ = .ok (some (.cls fl0 (setT neg (t :: ts))), ⟨R.length, fl0, [⟨#[]⟩]⟩) := by
      unfold atomF
      rw [show lkR R (St.mk 0 fl0 [⟨#[]⟩]).k = 91 from hr0]
      unfold atomC
      rw [if_neg (by decide), if_pos rfl, show (St.mk 0 fl0 [⟨#[]⟩]).k = 0 from rfl, Nat.zero_add, hcl]
      rfl
    unfold pieceF
    rw [show (St.mk 0 fl0 [⟨#[]⟩]).k = 0 from rfl, hb0, hat]
    simp only
    have hq : quantF R false R.length = .ok none := by
      unfold quantF boundF
      rw [lk_out (Nat.le_refl _)]
      rfl
    unfold repF
    rw [show (St.mk R.length fl0 [⟨#[]⟩]).k = R.length from rfl, show (St.mk R.length fl0 [⟨#[]⟩]).f.u = false from rfl, hq]
theorem tok_asc (t : Tok) (h : tokOk t) : (tokL t).all isAsc = true ∧ (tokL t).length ≤ 10 := by
  cases t with
  | num r =>
    obtain ⟨h1, _, _, _, h5⟩ := hexL_ok 6 r (by decide) (by have : r ≤ 1114111 := h; omega)
    refine ⟨?_, by simp [tokL, numL]; omega⟩
    simp only [tokL, numL, List.all_append, h5]
    rfl
  | prl c => rcases perl_is h with rfl | rfl | rfl | rfl | rfl | rfl <;> exact ⟨rfl, by decide⟩
theorem toks_asc : ∀ (ts : List Tok), (∀ t ∈ ts, tokOk t) → (flatL ts).all isAsc = true ∧ (flatL ts).length ≤ 10 * ts.length
  | [], _ => ⟨rfl, by simp [flatL]⟩
  | t :: ts, h => by
    obtain ⟨i1, i2⟩ := toks_asc ts (fun x hx => h x (by simp [hx]))
    obtain ⟨h1, h2⟩ := tok_asc t (h t (by simp))
    have e : flatL (t :: ts) = tokL t ++ flatL ts := by simp [flatL]
    rw [e, List.all_append, h1, i1]
    exact ⟨rfl, by simp; omega⟩
theorem toks_prs {s : ByteArray} (neg : Bool) (ts : List Tok) (ho : ∀ t ∈ ts, tokOk t) (h0 : ts ≠ []) (hl : ts.length ≤ 100) (hs : s = bytesI ((if neg then [91, 94] else [91]) ++ flatL ts ++ [93])) : prsR s fl0 = .ok (.cls fl0 (setT neg ts), [⟨#[]⟩]) := by
  obtain ⟨a1, a2⟩ := toks_asc ts ho
  have hasc : ((if neg then [91, 94] else [91] : List Int) ++ flatL ts ++ [93]).all isAsc = true := by
    simp only [List.all_append, a1]
    cases neg <;> rfl
  have hlen : ((if neg then [91, 94] else [91] : List Int) ++ flatL ts ++ [93]).length ≤ 1024 := by
    simp only [List.length_append, List.length_cons, List.length_nil]
    cases neg <;> simp <;> omega
  obtain ⟨h1, h2⟩ := asc_lays _ hasc
  rw [hs, prs_asc fl0 hasc h1 h2 hlen, toks_pat neg ts ho h0]
end Go.Proofs.YtdhhcefmmojcmaaGreatDoor
