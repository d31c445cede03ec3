/- A parser of patterns, plain: a range of any two numbers, by their digits; conditions: as told. -/
import Derived.Test.YtdhhcefmmojcmaaGreatDoorZk
namespace Go.Proofs.YtdhhcefmmojcmaaGreatDoor
open Go.RowKit

/-- A hexadecimal digit. -/
def hexD (d : Nat) : Int := if d < 10 then 48 + (d : Int) else 87 + (d : Int)
theorem hexD_ok : ∀ d < 16, isHex (hexD d) = true ∧ hexV (hexD d) = d ∧ isAsc (hexD d) = true ∧ hexD d ≠ 125 := by decide +kernel
/-- A number's hexadecimal digits, at most so many. -/
def hexL : Nat → Nat → List Int
  | 0, _ => []
  | f + 1, n => if n < 16 then [hexD n] else hexL f (n / 16) ++ [hexD (n % 16)]
theorem val16_end (l : List Int) (c : Int) : val16 (l ++ [c]) = 16 * val16 l + hexV c := by simp [val16]
theorem hexL_ok : ∀ (f n : Nat), 1 ≤ f → n < 16 ^ f → (hexL f n).length ≤ f ∧ (hexL f n).all isHex = true ∧ hexL f n ≠ [] ∧ val16 (hexL f n) = n ∧ (hexL f n).all isAsc = true
  | 0, _, h, _ => by omega
  | f + 1, n, _, hn => by
    rw [hexL]
    by_cases h : n < 16
    · rw [if_pos h]
      obtain ⟨h1, h2, h3, _⟩ := hexD_ok n h
      exact ⟨by simp, by simp [h1], by simp, by simp [val16, h2], by simp [h3]⟩
    · rw [if_neg h]
      have hf : 1 ≤ f := by
        rcases Nat.eq_zero_or_pos f with e | e
        · rw [e] at hn; omega
        · exact e
      obtain ⟨i1, i2, i3, i4, i5⟩ := hexL_ok f (n / 16) hf (by rw [Nat.pow_succ] at hn; omega)
      obtain ⟨h1, h2, h3, _⟩ := hexD_ok (n % 16) (Nat.mod_lt _ (by decide))
      refine ⟨by simp; omega, by rw [List.all_append, i2]; simp [h1], by simp, ?_, by rw [List.all_append, i5]; simp [h3]⟩
      rw [val16_end, i4, h2]
      omega
/-- Signs that fit stand in a text, and no more. -/
theorem runF_at {R : List Int} {q : Int → Bool} : ∀ (l pre rest : List Int) (f : Nat), R = pre ++ l ++ rest → l.all q = true → l.length ≤ f → (l.length = f ∨ q (lkR R (pre.length + l.length)) = false) → runF R q f pre.length = l
  | [], pre, rest, 0, _, _, _, _ => rfl
  | [], pre, rest, f + 1, hR, _, _, hd => by
    rw [runF]
    rcases hd with hd | hd
    · simp at hd
    · simp only [List.length_nil, Nat.add_zero] at hd
      rw [hd]
      rfl
  | c :: l, pre, rest, 0, hR, _, hl, _ => by simp at hl
  | c :: l, pre, rest, f + 1, hR, ha, hl, hd => by
    have hc : lkR R pre.length = c := lk_app (rest := l ++ rest) (by rw [hR]; simp)
    rw [List.all_cons, Bool.and_eq_true] at ha
    rw [runF, hc, if_pos ha.1]
    have := runF_at (R := R) l (pre ++ [c]) rest f (by rw [hR]; simp) ha.2 (by simp at hl; omega) (by
      rw [List.length_append, List.length_singleton]
      rw [List.length_cons] at hd
      rcases hd with hd | hd
      · left; omega
      · right
        rw [show pre.length + 1 + l.length = pre.length + (l.length + 1) by omega]
        exact hd)
    rw [List.length_append, List.length_singleton] at this
    rw [this]
/-- A number in brackets behind a stroke and an x. -/
def numL (n : Nat) : List Int := [92, 120, 123] ++ hexL 6 n ++ [125]
theorem num_len (n : Nat) : (numL n).length = (hexL 6 n).length + 4 := by simp [numL]
/-- It is read as the number, wherever it stands. -/
theorem num_memb {R pre rest : List Int} {n : Nat} (hn : n ≤ 1114111) (hR : R = pre ++ numL n ++ rest) (op : Nat) : membF R tableN op pre.length = .ok ([((n : Int), (n : Int))], some (n : Int), pre.length + (numL n).length) := by
  obtain ⟨h1, h2, h3, h4, _⟩ := hexL_ok 6 n (by decide) (by omega)
  have l0 : lkR R pre.length = 92 := lk_app (rest := [120, 123] ++ hexL 6 n ++ [125] ++ rest) (by rw [hR]; simp [numL])
  have l1 : lkR R (pre.length + 1) = 120 := by
    have := lk_app (R := R) (pre := pre ++ [92]) (c := 120) (rest := [123] ++ hexL 6 n ++ [125] ++ rest) (by rw [hR]; simp [numL])
    simpa using this
  have l2 : lkR R (pre.length + 2) = 123 := by
    have := lk_app (R := R) (pre := pre ++ [92, 120]) (c := 123) (rest := hexL 6 n ++ [125] ++ rest) (by rw [hR]; simp [numL])
    simpa using this
  have l3 : lkR R (pre.length + 3 + (hexL 6 n).length) = 125 := by
    have := lk_app (R := R) (pre := pre ++ [92, 120, 123] ++ hexL 6 n) (c := 125) (rest := rest) (by rw [hR]; simp [numL])
    simp only [List.length_append, List.length_cons, List.length_nil] at this
    rw [← this]
  have hr : runF R isHex 6 (pre.length + 3) = hexL 6 n := by
    have := runF_at (R := R) (q := isHex) (hexL 6 n) (pre ++ [92, 120, 123]) ([125] ++ rest) 6 (by rw [hR]; simp [numL]) h2 h1 (.inr (by
      simp only [List.length_append, List.length_cons, List.length_nil]
      rw [show pre.length + (0 + 1 + 1 + 1) + (hexL 6 n).length = pre.length + 3 + (hexL 6 n).length by omega, l3]
      rfl))
    simpa using this
  have hc : codeF R pre.length (pre.length + 2) = .ok (n, pre.length + 3 + (hexL 6 n).length + 1) := by
    unfold codeF
    rw [l2, if_pos rfl]
    simp only [hr, l3, h4]
    rw [if_pos ⟨h3, trivial, hn⟩]
  unfold membF
  rw [l0, if_neg (by decide), if_pos rfl]
  unfold escF
  rw [l1]
  unfold escC
  rw [if_neg (by decide), if_neg (by decide), if_neg (by decide), if_neg (by decide), if_neg (by decide), if_neg (by decide), if_neg (by decide), if_pos rfl, hc]
  simp only
  rw [num_len n]
  congr 3
  omega
def rangeL (neg : Bool) (a b : Nat) : List Int := (if neg then [91, 94] else [91]) ++ numL a ++ ([45] ++ numL b ++ [93])
/-- What is told of such a class. -/
def rangeR (neg : Bool) (a b : Nat) : PR (Nd × List ByteArray) := if b < a then .error (22, if neg then 2 else 1) else .ok (.cls fl0 (if neg then notR [((a : Int), (b : Int))] else cnR [((a : Int), (b : Int))]), [⟨#[]⟩])
theorem range_pat (neg : Bool) (a b : Nat) (ha : a ≤ 1114111) (hb : b ≤ 1114111) : patF (rangeL neg a b) tableN fl0 = rangeR neg a b := by
  obtain ⟨R, hR⟩ : ∃ R, R = rangeL neg a b := ⟨_, rfl⟩
  rw [← hR]
  unfold rangeL at hR
  obtain ⟨hd, hhd⟩ : ∃ hd, hd = (if neg then [91, 94] else [91] : List Int) := ⟨_, rfl⟩
  rw [← hhd] at hR
  have h0 : lkR R 0 = 91 := by rw [hR, hhd]; cases neg <;> rfl
  have hm1 := num_memb (R := R) (pre := hd) (rest := [45] ++ numL b ++ [93]) ha (by rw [hR]) 0
  have hk : lkR R (hd.length + (numL a).length) = 45 := by
    have := lk_app (R := R) (pre := hd ++ numL a) (c := 45) (rest := numL b ++ [93]) (by rw [hR]; simp)
    rwa [List.length_append] at this
  have hm2 := num_memb (R := R) (pre := hd ++ numL a ++ [45]) (rest := [93]) hb (by rw [hR]; simp) 0
  have e2 : (hd ++ numL a ++ [45]).length = hd.length + (numL a).length + 1 := by simp; omega
  rw [e2] at hm2
  have hk1 : lkR R (hd.length + (numL a).length + 1) = 92 := by
    have := lk_app (R := R) (pre := hd ++ numL a ++ [45]) (c := 92) (rest := [120, 123] ++ hexL 6 b ++ [125] ++ [93]) (by rw [hR]; simp [numL])
    rwa [e2] at this
  have hend : lkR R (hd.length + (numL a).length + 1 + (numL b).length) = 93 := by
    have := lk_app (R := R) (pre := hd ++ numL a ++ [45] ++ numL b) (c := 93) (rest := []) (by rw [hR]; simp)
    rwa [List.length_append, e2] at this
  have hlen : R.length = hd.length + (numL a).length + 1 + (numL b).length + 1 := by rw [hR]; simp; omega
  have hi : itemF R tableN 0 hd.length = if b < a then .error (22, hd.length) else .ok ([((a : Int), (b : Int))], hd.length + (numL a).length + 1 + (numL b).length) := by
    unfold itemF
    rw [hm1]
    simp only
    rw [if_pos ⟨hk, by rw [hk1]; decide⟩, hm2]
    simp only
    by_cases h : b < a
    · rw [if_pos (by omega), if_pos h]
    · rw [if_neg (by omega), if_neg h]
  have h2 : class2 R tableN 0 hd.length = if b < a then .error (22, hd.length) else .ok ([((a : Int), (b : Int))], R.length) := by
    unfold class2
    rw [hi]
    by_cases h : b < a
    · rw [if_pos h, if_pos h]
    · rw [if_neg h, if_neg h]
      simp only
      rw [itemsF, if_pos hend, hlen]
  have hl1 : lkR R 1 = if neg then 94 else 92 := by rw [hR, hhd]; cases neg <;> rfl
  have hcl : classF R tableN 0 1 = turnC neg (class2 R tableN 0 hd.length) := by
    unfold classF
    rw [hl1, hhd]
    cases neg <;> rfl
  have hat : atomF R tableN (some (altN R tableN 31)) ⟨0, fl0, [⟨#[]⟩]⟩ = if b < a then .error (22, hd.length) else .ok (some (.cls fl0 (if neg then notR [((a : Int), (b : Int))] else cnR [((a : Int), (b : Int))])), ⟨R.length, fl0, [⟨#[]⟩]⟩) := by
    unfold atomF
    rw [show lkR R (St.mk 0 fl0 [⟨#[]⟩]).k = 91 from h0]
    unfold atomC
    rw [if_neg (by decide), if_pos rfl, show (St.mk 0 fl0 [⟨#[]⟩]).k = 0 from rfl, Nat.zero_add, hcl, h2]
    by_cases h : b < a
    · rw [if_pos h, if_pos h]
      rfl
    · rw [if_neg h, if_neg h]
      rfl
  have hp : pieceF R tableN (some (altN R tableN 31)) ⟨0, fl0, [⟨#[]⟩]⟩ = if b < a then .error (22, hd.length) else .ok (some (.cls fl0 (if neg then notR [((a : Int), (b : Int))] else cnR [((a : Int), (b : Int))])), ⟨R.length, fl0, [⟨#[]⟩]⟩) := by
    have hb0 : boundF R 0 = none := by
      unfold boundF
      rw [h0]
      rfl
    unfold pieceF
    rw [show (St.mk 0 fl0 [⟨#[]⟩]).k = 0 from rfl, hb0, hat]
    by_cases h : b < a
    · simp only [if_pos h]
    · simp only [if_neg h]
      have hq : quantF R false R.length = .ok none := by
        unfold quantF boundF
        rw [lk_out (Nat.le_refl _)]
        rfl
      unfold repF
      rw [show (St.mk R.length fl0 [⟨#[]⟩]).k = R.length from rfl, show (St.mk R.length fl0 [⟨#[]⟩]).f.u = false from rfl, hq]
  unfold rangeR
  have h9 : endR (lkR R 0) = false := by rw [h0]; rfl
  have hdl : hd.length = if neg then 2 else 1 := by rw [hhd]; cases neg <;> rfl
  by_cases h : b < a
  · rw [if_pos h] at hp ⊢
    rw [one_bad h9 hp, hdl]
  · rw [if_neg h] at hp ⊢
    exact one_pat h9 hp
theorem range_prs {s : ByteArray} (neg : Bool) (a b : Nat) (ha : a ≤ 1114111) (hb : b ≤ 1114111) (hs : s = bytesI (rangeL neg a b)) : prsR s fl0 = if b < a then .error (22, if neg then 2 else 1) else .ok (.cls fl0 (if neg then notR [((a : Int), (b : Int))] else cnR [((a : Int), (b : Int))]), [⟨#[]⟩]) := by
  obtain ⟨a1, _, _, _, a5⟩ := hexL_ok 6 a (by decide) (by omega)
  obtain ⟨b1, _, _, _, b5⟩ := hexL_ok 6 b (by decide) (by omega)
  have hasc : (rangeL neg a b).all isAsc = true := by
    unfold rangeL numL
    simp only [List.all_append, a5, b5]
    cases neg <;> rfl
  have hlen : (rangeL neg a b).length ≤ 30 ∧ 3 ≤ (rangeL neg a b).length := by
    unfold rangeL numL
    simp only [List.length_append, List.length_cons, List.length_nil]
    cases neg <;> simp <;> omega
  obtain ⟨h1, h2⟩ := asc_lays (rangeL neg a b) hasc
  rw [hs, prs_asc fl0 hasc h1 h2 (by omega), range_pat neg a b ha hb]
  unfold rangeR
  by_cases h : b < a
  · rw [if_pos h, if_pos h]
    simp only
    rw [asc_lk _ _ (by cases neg <;> simp <;> omega)]
    cases neg <;> rfl
  · rw [if_neg h, if_neg h]
end Go.Proofs.YtdhhcefmmojcmaaGreatDoor
