/- Texts of this proof, one behind the other: what each says stands ahead of it. -/
import Derived.Test.YtdhhcefmmojcmaaGreatDoorM38
import Derived.Test.YtdhhcefmmojcmaaGreatDoorM10
/- Every coding: what a scalar's bytes tell, and what Decode makes of the bytes of scalars one behind the other: plain; no condition beside those told. -/
namespace Go.Proofs.YtdhhcefmmojcmaaGreatDoor
open Go.RowKit
open Go.Lib

def unitF (f : Nat) (s : ByteArray) : Nat → Int := if f = 50 then unitL s else unitB s
theorem unit_fwd (f : Nat) (s : ByteArray) (i : Nat) (r : Int) (h : Lays s i (enU f r)) : unitF f s i = r := by
  unfold unitF
  unfold enU at h
  by_cases hf : f = 50
  · rw [if_pos hf] at h ⊢
    obtain ⟨p0, q0⟩ := h 0 (by simp)
    obtain ⟨p1, q1⟩ := h 1 (by simp)
    simp only [List.getElem_cons_zero, List.getElem_cons_succ, Nat.add_zero] at q0 q1
    unfold unitL
    rw [if_neg (by omega)]
    omega
  · rw [if_neg hf] at h ⊢
    obtain ⟨p0, q0⟩ := h 0 (by simp)
    obtain ⟨p1, q1⟩ := h 1 (by simp)
    simp only [List.getElem_cons_zero, List.getElem_cons_succ, Nat.add_zero] at q0 q1
    unfold unitB
    rw [if_neg (by omega)]
    omega
theorem unit_bwd (f : Nat) (s : ByteArray) (i : Nat) (h : unitF f s i ≠ -1) : Lays s i (enU f (unitF f s i)) ∧ 0 ≤ unitF f s i ∧ unitF f s i ≤ 65535 := by
  have b0 := by_lt s i
  have b1 := by_lt s (i + 1)
  unfold unitF at h ⊢
  unfold enU
  by_cases hf : f = 50
  · simp only [if_pos hf] at h ⊢
    unfold unitL at h ⊢
    by_cases hs : s.size < i + 2
    · rw [if_pos hs] at h
      exact absurd rfl h
    · rw [if_neg hs]
      refine ⟨fun j hj => ?_, by omega, by omega⟩
      rcases (show j = 0 ∨ j = 1 by simp at hj; omega) with rfl | rfl
      · exact ⟨by omega, by simp only [List.getElem_cons_zero, Nat.add_zero]; omega⟩
      · exact ⟨by omega, by simp only [List.getElem_cons_zero, List.getElem_cons_succ]; omega⟩
  · simp only [if_neg hf] at h ⊢
    unfold unitB at h ⊢
    by_cases hs : s.size < i + 2
    · rw [if_pos hs] at h
      exact absurd rfl h
    · rw [if_neg hs]
      refine ⟨fun j hj => ?_, by omega, by omega⟩
      rcases (show j = 0 ∨ j = 1 by simp at hj; omega) with rfl | rfl
      · exact ⟨by omega, by simp only [List.getElem_cons_zero, Nat.add_zero]; omega⟩
      · exact ⟨by omega, by simp only [List.getElem_cons_zero, List.getElem_cons_succ]; omega⟩
theorem unit_in (f : Nat) (s : ByteArray) (i : Nat) : -1 ≤ unitF f s i ∧ unitF f s i ≤ 65535 := by
  unfold unitF
  split
  · exact unitL_in s i
  · exact unitB_in s i
theorem enU_len (f : Nat) (r : Int) : (enU f r).length = 2 := by
  unfold enU
  split <;> rfl
theorem Lays.app {s : ByteArray} {i : Nat} {a b : List Int} (h : Lays s i a) (h2 : Lays s (i + a.length) b) : Lays s i (a ++ b) := fun j hj => by
  by_cases hl : j < a.length
  · obtain ⟨h1, h2⟩ := h j hl
    exact ⟨h1, by rw [h2, List.getElem_append_left hl]⟩
  · obtain ⟨h1, h2⟩ := h2 (j - a.length) (by simp at hj; omega)
    rw [show i + a.length + (j - a.length) = i + j by omega] at h1 h2
    exact ⟨h1, by rw [h2, List.getElem_append_right (by omega)]⟩
theorem tk16_fwd (f : Nat) (s : ByteArray) (i : Nat) (x : Int) (hx : scB x = true) (h : Lays s i (en16 f x)) : tk16 (unitF f s) i = (x, (en16 f x).length) := by
  rw [scB_iff] at hx
  unfold en16 at h ⊢
  unfold tk16
  by_cases h1 : x < 65536
  · rw [if_pos h1] at h ⊢
    rw [unit_fwd f s i x h, if_neg (by omega), if_pos (by omega), enU_len]
  · rw [if_neg h1] at h ⊢
    have r := h.right
    rw [enU_len] at r
    rw [unit_fwd f s i _ h.left, unit_fwd f s (i + 2) _ r, if_neg (by omega), if_neg (by omega), if_neg (by omega), List.length_append, enU_len, enU_len]
    refine Prod.ext ?_ rfl
    dsimp only
    omega
theorem tk16_bwd (f : Nat) (s : ByteArray) (i : Nat) (hx : (tk16 (unitF f s) i).1 ≠ -1) : scB (tk16 (unitF f s) i).1 = true ∧ Lays s i (en16 f (tk16 (unitF f s) i).1) ∧ (tk16 (unitF f s) i).2 = (en16 f (tk16 (unitF f s) i).1).length := by
  unfold tk16 at hx ⊢
  by_cases c0 : unitF f s i = -1
  · rw [if_pos c0] at hx
    exact absurd rfl hx
  rw [if_neg c0] at hx ⊢
  obtain ⟨u1, u2, u3⟩ := unit_bwd f s i c0
  by_cases c1 : ¬ (55296 ≤ unitF f s i ∧ unitF f s i < 57344)
  · rw [if_pos c1]
    have hen : en16 f (unitF f s i) = enU f (unitF f s i) := by
      unfold en16
      rw [if_pos (by omega)]
    refine ⟨(scB_iff _).2 (by dsimp only; omega), ?_, ?_⟩
    · dsimp only
      rw [hen]
      exact u1
    · dsimp only
      rw [hen, enU_len]
  rw [if_neg c1] at hx ⊢
  by_cases c2 : 56320 ≤ unitF f s i ∨ unitF f s (i + 2) < 56320 ∨ 57344 ≤ unitF f s (i + 2)
  · rw [if_pos c2] at hx
    exact absurd rfl hx
  rw [if_neg c2]
  obtain ⟨v1, v2, v3⟩ := unit_bwd f s (i + 2) (by omega)
  obtain ⟨x, hxx⟩ : ∃ x : Int, x = 65536 + (unitF f s i - 55296) * 1024 + unitF f s (i + 2) - 56320 := ⟨_, rfl⟩
  rw [← hxx]
  have hen : en16 f x = enU f (unitF f s i) ++ enU f (unitF f s (i + 2)) := by
    unfold en16
    rw [if_neg (by omega), show 55296 + (x - 65536) / 1024 = unitF f s i by omega, show 56320 + (x - 65536) % 1024 = unitF f s (i + 2) by omega]
  refine ⟨(scB_iff _).2 (by dsimp only; omega), ?_, ?_⟩
  · dsimp only
    rw [hen]
    refine u1.app ?_
    rw [enU_len]
    exact v1
  · dsimp only
    rw [hen, List.length_append, enU_len, enU_len]

theorem tkAt1 (s : ByteArray) (i : Nat) : tkAt s 1 i = tk8 (s.extract i s.size) := by
  unfold tkAt
  rw [if_neg (by decide), if_neg (by decide), if_neg (by decide)]
theorem tkAt2 (s : ByteArray) (i : Nat) : tkAt s 2 i = tk16 (unitF 50 s) i := by
  unfold tkAt unitF
  rw [if_pos rfl, if_pos rfl]
theorem tkAt3 (s : ByteArray) (i : Nat) : tkAt s 3 i = tk16 (unitF 51 s) i := by
  unfold tkAt unitF
  rw [if_neg (by decide), if_pos rfl, if_neg (by decide)]
theorem tkAt4 (s : ByteArray) (i : Nat) : tkAt s 4 i = ((byN s i : Int), 1) := by
  unfold tkAt
  rw [if_neg (by decide), if_neg (by decide), if_pos rfl]
theorem enc1 (x : Int) : enc 1 x = en8 x := by
  unfold enc
  rw [if_pos rfl]
theorem enc2 (x : Int) : enc 2 x = en16 50 x := by
  unfold enc
  rw [if_neg (by decide), if_pos rfl]
theorem enc3 (x : Int) : enc 3 x = en16 51 x := by
  unfold enc
  rw [if_neg (by decide), if_neg (by decide), if_pos rfl]
theorem enc4 (x : Int) : enc 4 x = [x] := by
  unfold enc
  rw [if_neg (by decide), if_neg (by decide), if_neg (by decide)]
theorem okc_sc {c : Nat} {x : Int} (h : okc c x = true) : scB x = true := by
  unfold okc at h
  rw [Bool.and_eq_true] at h
  exact h.1
theorem tkAt_fwd (c : Nat) (hc : c = 1 ∨ c = 2 ∨ c = 3 ∨ c = 4) (s : ByteArray) (i : Nat) (x : Int) (hx : okc c x = true) (h : Lays s i (enc c x)) : tkAt s c i = (x, (enc c x).length) := by
  rcases hc with rfl | rfl | rfl | rfl
  · rw [tkAt1, enc1]
    rw [enc1] at h
    exact tk8_fwd s i x (okc_sc hx) h
  · rw [tkAt2, enc2]
    rw [enc2] at h
    exact tk16_fwd 50 s i x (okc_sc hx) h
  · rw [tkAt3, enc3]
    rw [enc3] at h
    exact tk16_fwd 51 s i x (okc_sc hx) h
  · rw [enc4] at h ⊢
    obtain ⟨_, q0⟩ := h 0 (by simp)
    rw [Nat.add_zero, List.getElem_cons_zero] at q0
    rw [tkAt4, q0]
    rfl
theorem tkAt_bwd (c : Nat) (hc : c = 1 ∨ c = 2 ∨ c = 3 ∨ c = 4) (s : ByteArray) (i : Nat) (hi : i < s.size) (hx : (tkAt s c i).1 ≠ -1) : okc c (tkAt s c i).1 = true ∧ Lays s i (enc c (tkAt s c i).1) ∧ (tkAt s c i).2 = (enc c (tkAt s c i).1).length := by
  have ok : ∀ d, d ≠ 4 → ∀ x, scB x = true → okc d x = true := fun d hd x h => by
    unfold okc
    rw [h, decide_eq_true hd]
    rfl
  rcases hc with rfl | rfl | rfl | rfl
  · rw [tkAt1] at hx ⊢
    rw [enc1]
    obtain ⟨h1, h2, h3⟩ := tk8_bwd s i hi hx
    exact ⟨ok 1 (by decide) _ h1, h2, h3⟩
  · rw [tkAt2] at hx ⊢
    rw [enc2]
    obtain ⟨h1, h2, h3⟩ := tk16_bwd 50 s i hx
    exact ⟨ok 2 (by decide) _ h1, h2, h3⟩
  · rw [tkAt3] at hx ⊢
    rw [enc3]
    obtain ⟨h1, h2, h3⟩ := tk16_bwd 51 s i hx
    exact ⟨ok 3 (by decide) _ h1, h2, h3⟩
  · have hb := by_lt s i
    rw [tkAt4, enc4]
    refine ⟨?_, ?_, rfl⟩
    · unfold okc
      rw [Bool.and_eq_true, scB_iff]
      refine ⟨by dsimp only; omega, ?_⟩
      rw [decide_eq_true (show (byN s i : Int) ≤ 255 by omega)]
      rfl
    · intro j hj
      obtain rfl : j = 0 := by
        have : j < 1 := hj
        omega
      exact ⟨by omega, rfl⟩
theorem enc_pos (c : Nat) (x : Int) : 0 < (enc c x).length := by
  unfold enc en8 en16 enU
  repeat' split
  all_goals simp

/-- Scalars' bytes one behind the other, to the end, are decoded as these. -/
theorem dc_fwd (c : Nat) (hc : c = 1 ∨ c = 2 ∨ c = 3 ∨ c = 4) (s : ByteArray) (strict : Bool) : ∀ (l : List Int) (k i : Nat) (rs ps : List Int) (bad : Nat), l.all (okc c) = true → Lays s i (l.flatMap (enc c)) → s.size = i + (l.flatMap (enc c)).length → s.size ≤ i + k →
    ∃ ps', dcGo s c strict k i rs ps bad = (none, rs ++ l, ps', bad)
  | [], k, i, rs, ps, bad, _, _, he, _ => by
    simp only [List.flatMap_nil, List.length_nil, Nat.add_zero] at he
    exact ⟨ps, by rw [dc_end (by omega), List.append_nil]⟩
  | x :: l, k, i, rs, ps, bad, ha, hl, he, hk => by
    rw [List.all_cons, Bool.and_eq_true] at ha
    rw [List.flatMap_cons] at hl he
    rw [List.length_append] at he
    have hp := enc_pos c x
    have ht := tkAt_fwd c hc s i x ha.1 hl.left
    obtain ⟨k, rfl⟩ : ∃ j, k = j + 1 := ⟨k - 1, by omega⟩
    have hx := (okc_in ha.1).1
    rw [dc_step (by omega), ht, if_neg (by dsimp only; omega)]
    obtain ⟨ps', h⟩ := dc_fwd c hc s strict l k (i + (enc c x).length) (rs ++ [x]) (ps ++ [(i : Int)]) bad ha.2 hl.right (by omega) (by omega)
    exact ⟨ps', by rw [h, List.append_assoc]; rfl⟩
end Go.Proofs.YtdhhcefmmojcmaaGreatDoor

/- Decode of what Encode makes, with and without marks: plain; no condition beside those told. -/
namespace Go.Proofs.YtdhhcefmmojcmaaGreatDoor
open Go.RowKit
open Go.Lib

theorem ctoList_data (s : ByteArray) : s.toList = s.data.toList := by
  have go : ∀ (n i : Nat) (r : List UInt8), s.size - i = n → ByteArray.toList.loop s i r = r.reverse ++ s.data.toList.drop i := by
    intro n
    induction n with
    | zero =>
      intro i r h
      unfold ByteArray.toList.loop
      rw [if_neg (by omega), List.drop_eq_nil_of_le (by rw [Array.length_toList]; show s.size ≤ i; omega), List.append_nil]
    | succ n ih =>
      intro i r h
      have hi : i < s.size := by omega
      have hi' : i < s.data.toList.length := by rw [Array.length_toList]; exact hi
      unfold ByteArray.toList.loop
      rw [if_pos hi, ih (i + 1) _ (by omega), List.drop_eq_getElem_cons hi', List.reverse_cons, List.append_assoc]
      congr 1
      show s.get! i :: _ = _
      congr 1
      show s.data[i]! = _
      rw [getElem!_pos s.data i hi]
      rfl
  unfold ByteArray.toList
  rw [go _ 0 [] rfl]
  rfl
theorem beg_iff (s p : ByteArray) : begB s p = true ↔ Lays s 0 (nums p) := by
  have hl : (nums p).length = p.size := by unfold nums; rw [List.length_map, Array.length_toList]; rfl
  have hx : ∀ j (h : j < (nums p).length), (nums p)[j] = (byN p j : Int) := fun j h => by
    have hj : j < p.size := by omega
    unfold byN
    rw [dif_pos hj]
    have h' : j < (p.data.toList.map fun b => (b.toNat : Int)).length := h
    show (p.data.toList.map fun b => (b.toNat : Int))[j]'h' = _
    rw [List.getElem_map]
    rfl
  unfold begB
  rw [Bool.and_eq_true, decide_eq_true_eq, beq_iff_eq, ctoList_data, ctoList_data]
  constructor
  · rintro ⟨h1, h2⟩ j hj
    have hj2 : j < p.size := by omega
    have h3 : (s.extract 0 p.size).data.toList[j]? = p.data.toList[j]? := by rw [h2]
    have h4 : j < (s.extract 0 p.size).size := by rw [ByteArray.size_extract]; omega
    refine ⟨by omega, ?_⟩
    rw [hx j hj, Nat.zero_add]
    have h5 : j < s.size := by omega
    unfold byN
    rw [dif_pos h5, dif_pos hj2]
    have h6 : (s.extract 0 p.size)[j] = p[j] := by
      rw [List.getElem?_eq_getElem (by rw [Array.length_toList]; exact h4), List.getElem?_eq_getElem (by rw [Array.length_toList]; exact hj2), Option.some_inj] at h3
      exact h3
    rw [← h6, ByteArray.getElem_extract]
    simp
  · intro h
    have h1 : p.size ≤ s.size := by
      by_cases h0 : p.size = 0
      · omega
      · have := (h (p.size - 1) (by omega)).1
        omega
    refine ⟨h1, ?_⟩
    have hsz : (s.extract 0 p.size).size = p.size := by rw [ByteArray.size_extract]; omega
    apply List.ext_getElem
    · rw [Array.length_toList, Array.length_toList]
      exact hsz
    · intro j h2 h3
      have hj : j < p.size := by rw [Array.length_toList] at h3; exact h3
      have hq := (h j (by omega)).2
      have h5 : j < s.size := by omega
      rw [hx j (by omega), Nat.zero_add] at hq
      unfold byN at hq
      rw [dif_pos h5, dif_pos hj] at hq
      have h6 : s[j] = p[j] := UInt8.toNat_inj.1 (by omega)
      have h7 : (s.extract 0 p.size)[j]'(by omega) = s[j] := by rw [ByteArray.getElem_extract]; simp
      show (s.extract 0 p.size)[j]'(by omega) = p[j]
      rw [h7, h6]
theorem lay_str (l : List Int) (h : ∀ b ∈ l, 0 ≤ b ∧ b ≤ 255) : (strOfNums l).size = l.length ∧ Lays (strOfNums l) 0 l := by
  have hs : (strOfNums l).size = l.length := by
    show ((l.map fun n => UInt8.ofNat n.toNat).toArray).size = _
    simp
  refine ⟨hs, fun j hj => ?_⟩
  refine ⟨by omega, ?_⟩
  rw [Nat.zero_add]
  unfold byN
  rw [dif_pos (by omega)]
  have hb := h l[j] (List.getElem_mem hj)
  have h1 : (strOfNums l)[j]'(by omega) = UInt8.ofNat l[j].toNat := by
    show ((l.map fun n => UInt8.ofNat n.toNat).toArray)[j]'(by simp; exact hj) = _
    simp
  rw [h1, UInt8.toNat_ofNat']
  omega
theorem enc_in (c : Nat) (hc : c = 1 ∨ c = 2 ∨ c = 3 ∨ c = 4) (x : Int) (h : okc c x = true) : ∀ b ∈ enc c x, 0 ≤ b ∧ b ≤ 255 := by
  have hx := (scB_iff x).1 (okc_sc h)
  have h4 := okc_in h
  unfold topc at h4
  unfold enc en8 en16 enU
  repeat' split
  all_goals
    intro b hb
    simp only [List.mem_append, List.mem_cons, List.not_mem_nil, or_false] at hb
  all_goals first | (rcases hb with rfl | rfl | rfl | rfl <;> omega) | (rcases hb with rfl | rfl | rfl <;> omega) | (rcases hb with (rfl | rfl) | rfl | rfl <;> omega) | (rcases hb with rfl | rfl <;> omega) | (subst hb; split at h4 <;> omega)
theorem flat_in (c : Nat) (hc : c = 1 ∨ c = 2 ∨ c = 3 ∨ c = 4) (l : List Int) (h : l.all (okc c) = true) : ∀ b ∈ l.flatMap (enc c), 0 ≤ b ∧ b ≤ 255 := fun b hb => by
  obtain ⟨x, hx, hb⟩ := List.mem_flatMap.1 hb
  exact enc_in c hc x (List.all_eq_true.1 h x hx) b hb

theorem mk_enc (c : Nat) (hc : c = 1 ∨ c = 2 ∨ c = 3) : nums (mk c) = enc c 65279 ∧ (mk c).size = (enc c 65279).length ∧ okc c 65279 = true := by
  rcases hc with rfl | rfl | rfl <;> decide +kernel
/-- The scalars with their mark, if there is one. -/
def fullL (c : Nat) (mark : Bool) (l : List Int) : List Int := if mark = true ∧ c ≠ 4 then 65279 :: l else l
theorem full_flat (c : Nat) (hc : c = 1 ∨ c = 2 ∨ c = 3 ∨ c = 4) (mark : Bool) (l : List Int) : (if mark then nums (mk c) else []) ++ l.flatMap (enc c) = (fullL c mark l).flatMap (enc c) := by
  unfold fullL
  cases mark
  · simp
  · by_cases h4 : c = 4
    · subst h4
      rfl
    · rw [if_pos rfl, if_pos ⟨rfl, h4⟩, List.flatMap_cons, (mk_enc c (by omega)).1]
theorem full_ok (c : Nat) (hc : c = 1 ∨ c = 2 ∨ c = 3 ∨ c = 4) (mark : Bool) (l : List Int) (h : l.all (okc c) = true) : (fullL c mark l).all (okc c) = true := by
  unfold fullL
  split
  · rename_i hm
    rw [List.all_cons, (mk_enc c (by omega)).2.2, h]
    rfl
  · exact h
/-- What is left of scalars when a mark is passed over. -/
def dropM (c : Nat) (l : List Int) : List Int := if c ≠ 4 ∧ l.head? = some 65279 then l.tail else l
theorem dec_full (c : Nat) (hc : c = 1 ∨ c = 2 ∨ c = 3 ∨ c = 4) (strict : Bool) (l : List Int) (ha : l.all (okc c) = true) (s : ByteArray) (hl : Lays s 0 (l.flatMap (enc c))) (hs : s.size = (l.flatMap (enc c)).length) :
    (bg s c).1 = c ∧ ∃ ps, dcGo s c strict s.size (bg s c).2 [] [] 0 = (none, dropM c l, ps, 0) := by
  have hb : bg s c = if begB s (mk c) = true then (c, (mk c).size) else (c, 0) := by
    unfold bg
    rw [if_neg (by omega)]
  by_cases h4 : c = 4
  · subst h4
    have h0 : bg s 4 = (4, 0) := by rw [hb]; split <;> rfl
    rw [h0]
    refine ⟨rfl, ?_⟩
    obtain ⟨ps, h⟩ := dc_fwd 4 hc s strict l s.size 0 [] [] 0 ha hl (by omega) (by omega)
    exact ⟨ps, by rw [h]; rfl⟩
  obtain ⟨m1, m2, m3⟩ := mk_enc c (by omega)
  have mp := enc_pos c 65279
  by_cases hh : l.head? = some 65279
  · obtain ⟨t, rfl⟩ : ∃ t, l = 65279 :: t := by
      cases l with
      | nil => cases hh
      | cons x t =>
        simp at hh
        exact ⟨t, by rw [hh]⟩
    rw [List.flatMap_cons] at hl hs
    rw [List.length_append] at hs
    rw [List.all_cons, Bool.and_eq_true] at ha
    have hbeg : begB s (mk c) = true := (beg_iff s (mk c)).2 (by rw [m1]; exact hl.left)
    rw [if_pos hbeg] at hb
    rw [hb]
    refine ⟨rfl, ?_⟩
    have hr := hl.right
    rw [Nat.zero_add, ← m2] at hr
    obtain ⟨ps, h⟩ := dc_fwd c hc s strict t s.size (mk c).size [] [] 0 ha.2 hr (by omega) (by omega)
    refine ⟨ps, ?_⟩
    show dcGo s c strict s.size (mk c).size [] [] 0 = _
    rw [h]
    unfold dropM
    rw [if_pos ⟨h4, rfl⟩]
    rfl
  · have hbeg : ¬ begB s (mk c) = true := fun e => by
      have e1 := (beg_iff s (mk c)).1 e
      rw [m1] at e1
      have e2 := tkAt_fwd c hc s 0 65279 m3 e1
      cases l with
      | nil =>
        have := (e1 0 mp).1
        rw [List.flatMap_nil, List.length_nil] at hs
        omega
      | cons x t =>
        rw [List.all_cons, Bool.and_eq_true] at ha
        rw [List.flatMap_cons] at hl
        have e3 := tkAt_fwd c hc s 0 x ha.1 hl.left
        rw [e2] at e3
        apply hh
        rw [List.head?_cons, ← (Prod.mk.inj e3).1]
    rw [if_neg hbeg] at hb
    rw [hb]
    refine ⟨rfl, ?_⟩
    obtain ⟨ps, h⟩ := dc_fwd c hc s strict l s.size 0 [] [] 0 ha hl (by omega) (by omega)
    refine ⟨ps, ?_⟩
    show dcGo s c strict s.size 0 [] [] 0 = _
    rw [h]
    unfold dropM
    rw [if_neg (fun e => hh e.2)]
    rfl
theorem dec_auto (c : Nat) (hc : c = 1 ∨ c = 2 ∨ c = 3) (strict : Bool) (l : List Int) (ha : l.all (okc c) = true) (s : ByteArray) (hl : Lays s 0 ((65279 :: l).flatMap (enc c))) (hs : s.size = ((65279 :: l).flatMap (enc c)).length) :
    (bg s 0).1 = c ∧ ∃ ps, dcGo s c strict s.size (bg s 0).2 [] [] 0 = (none, l, ps, 0) := by
  obtain ⟨m1, m2, m3⟩ := mk_enc c hc
  rw [List.flatMap_cons] at hl hs
  rw [List.length_append] at hs
  have hbeg : begB s (mk c) = true := (beg_iff s (mk c)).2 (by rw [m1]; exact hl.left)
  have hno : ∀ d, (d = 1 ∨ d = 2) → d ≠ c → ¬ begB s (mk d) = true := fun d hd hdc e => by
    have e1 := (beg_iff s (mk d)).1 e
    have e2 := (beg_iff s (mk c)).1 hbeg
    have q1 : ∃ h : 0 < (nums (mk d)).length, (nums (mk d))[0] = if d = 1 then 239 else if d = 2 then 255 else 254 := by rcases hd with rfl | rfl <;> exact ⟨by decide, rfl⟩
    have q2 : ∃ h : 0 < (nums (mk c)).length, (nums (mk c))[0] = if c = 1 then 239 else if c = 2 then 255 else 254 := by rcases hc with rfl | rfl | rfl <;> exact ⟨by decide, rfl⟩
    obtain ⟨p1, q1⟩ := q1
    obtain ⟨p2, q2⟩ := q2
    have z1 := (e1 0 p1).2
    have z2 := (e2 0 p2).2
    rw [q1] at z1
    rw [q2] at z2
    rcases hd with rfl | rfl <;> rcases hc with rfl | rfl | rfl <;> simp at z1 z2 hdc <;> omega
  have hb : bg s 0 = (c, (mk c).size) := by
    show sn s 3 1 = _
    unfold sn
    rcases hc with rfl | rfl | rfl
    · rw [if_pos hbeg]
    · rw [if_neg (hno 1 (by omega) (by omega))]
      unfold sn
      rw [if_pos hbeg]
    · rw [if_neg (hno 1 (by omega) (by omega))]
      unfold sn
      rw [if_neg (hno 2 (by omega) (by omega))]
      unfold sn
      rw [if_pos hbeg]
  rw [hb]
  refine ⟨rfl, ?_⟩
  have hr := hl.right
  rw [Nat.zero_add, ← m2] at hr
  obtain ⟨ps, h⟩ := dc_fwd c (by omega) s strict l s.size (mk c).size [] [] 0 ha hr (by omega) (by omega)
  exact ⟨ps, h⟩
end Go.Proofs.YtdhhcefmmojcmaaGreatDoor

/- What Decode tells, scalar by scalar, without and with strict rules: plain; no condition beside those told. -/
namespace Go.Proofs.YtdhhcefmmojcmaaGreatDoor
open Go.RowKit
open Go.Lib

theorem tk8_room (r : ByteArray) (h : 1 ≤ r.size) : (tk8 r).2 ≤ r.size := by
  rw [tk8_eq]
  by_cases c1 : byN r 0 < 128
  · rw [if_pos c1]; exact h
  rw [if_neg c1]
  by_cases c2 : byN r 0 < 194
  · rw [if_pos c2]; exact h
  rw [if_neg c2]
  by_cases c3 : byN r 0 < 224
  · rw [if_pos c3]
    split
    · exact h
    · dsimp only; omega
  rw [if_neg c3]
  by_cases c4 : byN r 0 < 240
  · rw [if_pos c4]
    generalize (if byN r 0 = 224 then 160 else 128) = lo
    generalize (if byN r 0 = 237 then 159 else 191) = hi
    by_cases d1 : 1 = r.size
    · rw [if_pos (.inl d1)]; exact h
    split
    · exact h
    · split
      · dsimp only; omega
      · dsimp only; omega
  rw [if_neg c4]
  by_cases c5 : byN r 0 < 245
  · rw [if_pos c5]
    generalize (if byN r 0 = 240 then 144 else 128) = lo
    generalize (if byN r 0 = 244 then 143 else 191) = hi
    by_cases d1 : 1 = r.size
    · rw [if_pos (.inl d1)]; exact h
    split
    · exact h
    · split
      · dsimp only; omega
      · split
        · dsimp only; omega
        · dsimp only; omega
  rw [if_neg c5]
  exact h
theorem tk16_room (f : Nat) (s : ByteArray) (i : Nat) (h : i < s.size) : i + (tk16 (unitF f s) i).2 ≤ s.size := by
  unfold tk16
  by_cases c0 : unitF f s i = -1
  · rw [if_pos c0]; exact h
  have l1 := ((unit_bwd f s i c0).1 1 (by rw [enU_len]; omega)).1
  rw [if_neg c0]
  split
  · dsimp only; omega
  · split
    · dsimp only; omega
    · rename_i c2
      have l2 := ((unit_bwd f s (i + 2) (by omega)).1 1 (by rw [enU_len]; omega)).1
      dsimp only; omega
theorem tkAt_room (c : Nat) (hc : c = 1 ∨ c = 2 ∨ c = 3 ∨ c = 4) (s : ByteArray) (i : Nat) (h : i < s.size) : i + (tkAt s c i).2 ≤ s.size := by
  rcases hc with rfl | rfl | rfl | rfl
  · rw [tkAt1]
    have := tk8_room (s.extract i s.size) (by rw [rest_size]; omega)
    rw [rest_size] at this
    omega
  · rw [tkAt2]; exact tk16_room 50 s i h
  · rw [tkAt3]; exact tk16_room 51 s i h
  · rw [tkAt4]; exact h

/-- The places at which something is told. -/
def seg (s : ByteArray) (c : Nat) : Nat → Nat → List Nat
  | 0, _ => []
  | k + 1, i => if i < s.size then i :: seg s c k (i + (tkAt s c i).2) else []
def outAt (s : ByteArray) (c i : Nat) : Int := if (tkAt s c i).1 = -1 then 65533 else (tkAt s c i).1
def badAt (s : ByteArray) (c i : Nat) : Bool := decide ((tkAt s c i).1 = -1)
theorem dc_seg (s : ByteArray) (c : Nat) : ∀ (k i : Nat) (rs ps : List Int) (bad : Nat), dcGo s c false k i rs ps bad = (none, rs ++ (seg s c k i).map (outAt s c), ps ++ (seg s c k i).map (fun (p : Nat) => (p : Int)), bad + (seg s c k i).countP (badAt s c))
  | 0, i, rs, ps, bad => by simp [dcGo, seg]
  | k + 1, i, rs, ps, bad => by
    by_cases h : i < s.size
    · rw [dc_step h]
      unfold seg
      rw [if_pos h]
      by_cases hb : (tkAt s c i).1 = -1
      · have e1 : outAt s c i = 65533 := by unfold outAt; rw [if_pos hb]
        have e2 : badAt s c i = true := decide_eq_true hb
        rw [if_pos hb, if_neg (by simp), dc_seg s c k, List.map_cons, List.map_cons, List.countP_cons_of_pos e2, e1, List.append_assoc, List.append_assoc, Nat.add_assoc, Nat.add_comm 1]
        rfl
      · have e1 : outAt s c i = (tkAt s c i).1 := by unfold outAt; rw [if_neg hb]
        have e2 : ¬ badAt s c i = true := by unfold badAt; rw [decide_eq_true_eq]; exact hb
        rw [if_neg hb, dc_seg s c k, List.map_cons, List.map_cons, List.countP_cons_of_neg e2, e1, List.append_assoc, List.append_assoc]
        rfl
    · rw [dc_end (by omega)]
      unfold seg
      rw [if_neg h]
      simp
theorem dc_strict (s : ByteArray) (c : Nat) : ∀ (k i : Nat) (rs ps : List Int) (bad : Nat), (dcGo s c true k i rs ps bad).1 = none ↔ (seg s c k i).countP (badAt s c) = 0
  | 0, i, rs, ps, bad => by simp [dcGo, seg]
  | k + 1, i, rs, ps, bad => by
    by_cases h : i < s.size
    · rw [dc_step h]
      unfold seg
      rw [if_pos h]
      by_cases hb : (tkAt s c i).1 = -1
      · have e2 : badAt s c i = true := decide_eq_true hb
        rw [if_pos hb, if_pos rfl, List.countP_cons_of_pos e2]
        simp
      · have e2 : ¬ badAt s c i = true := by unfold badAt; rw [decide_eq_true_eq]; exact hb
        rw [if_neg hb, List.countP_cons_of_neg e2]
        exact dc_strict s c k _ _ _ _
    · rw [dc_end (by omega)]
      unfold seg
      rw [if_neg h]
      simp
theorem seg_head (s : ByteArray) (c k i : Nat) (hi : i ≤ s.size) (hk : s.size ≤ i + k) : (seg s c k i ++ [s.size])[0]? = some i := by
  cases k with
  | zero =>
    obtain rfl : i = s.size := by omega
    rfl
  | succ k =>
    unfold seg
    by_cases h : i < s.size
    · rw [if_pos h]; rfl
    · rw [if_neg h]
      obtain rfl : i = s.size := by omega
      rfl
theorem seg_at (s : ByteArray) (c : Nat) (hc : c = 1 ∨ c = 2 ∨ c = 3 ∨ c = 4) : ∀ (k i : Nat), i ≤ s.size → s.size ≤ i + k → ∀ j (h : j < (seg s c k i).length), (seg s c k i)[j] < s.size ∧ (seg s c k i ++ [s.size])[j + 1]? = some ((seg s c k i)[j] + (tkAt s c (seg s c k i)[j]).2)
  | 0, i, _, _, j, h => by simp [seg] at h
  | k + 1, i, hi, hk, j, h => by
    by_cases hlt : i < s.size
    · have e : seg s c (k + 1) i = i :: seg s c k (i + (tkAt s c i).2) := by
        show (if i < s.size then i :: seg s c k (i + (tkAt s c i).2) else []) = _
        rw [if_pos hlt]
      have hz := tkAt_size s c i
      have hr := tkAt_room c hc s i hlt
      simp only [e] at h ⊢
      cases j with
      | zero =>
        refine ⟨hlt, ?_⟩
        simp only [List.getElem_cons_zero, List.cons_append, List.getElem?_cons_succ]
        exact seg_head s c k _ hr (by omega)
      | succ j =>
        simp only [List.getElem_cons_succ, List.cons_append, List.getElem?_cons_succ]
        exact seg_at s c hc k _ hr (by omega) j (by simpa using h)
    · have e : seg s c (k + 1) i = [] := by
        show (if i < s.size then i :: seg s c k (i + (tkAt s c i).2) else []) = _
        rw [if_neg hlt]
      rw [e] at h
      simp at h
theorem seg_len (s : ByteArray) (c : Nat) : ∀ k i, (seg s c k i).length ≤ k
  | 0, i => Nat.le_refl _
  | k + 1, i => by
    unfold seg
    split
    · have := seg_len s c k (i + (tkAt s c i).2)
      simp only [List.length_cons]
      omega
    · simp
theorem out_ok (c : Nat) (hc : c = 1 ∨ c = 2 ∨ c = 3 ∨ c = 4) (s : ByteArray) (i : Nat) (h : i < s.size) : okc c (outAt s c i) = true := by
  unfold outAt
  split
  · rename_i e
    rcases hc with rfl | rfl | rfl | rfl
    · decide
    · decide
    · decide
    · rw [tkAt4] at e
      exact absurd e (by dsimp only; omega)
  · rename_i e
    exact (tkAt_bwd c hc s i h e).1
/-- Bytes that lie there are what is cut out. -/
theorem lays_cut (s : ByteArray) (i : Nat) (l : List Int) (h : Lays s i l) (hi : i + l.length ≤ s.size) : strOfNums l = s.extract i (i + l.length) := by
  have hin : ∀ b ∈ l, 0 ≤ b ∧ b ≤ 255 := fun b hb => by
    obtain ⟨j, hj, rfl⟩ := List.getElem_of_mem hb
    have h1 := (h j hj).2
    have h2 := by_lt s (i + j)
    omega
  obtain ⟨h1, h2⟩ := lay_str l hin
  have hsz : (s.extract i (i + l.length)).size = l.length := by rw [ByteArray.size_extract]; omega
  apply ByteArray.ext
  apply Array.ext
  · show (strOfNums l).size = (s.extract i (i + l.length)).size
    omega
  · intro j hj1 hj2
    have hj : j < l.length := by
      have : j < (strOfNums l).size := hj1
      omega
    have a1 := (h2 j hj).2
    have a2 := (h j hj)
    rw [Nat.zero_add] at a1
    unfold byN at a1 a2
    rw [dif_pos (by omega)] at a1
    rw [dif_pos a2.1] at a2
    have a3 : (strOfNums l)[j]'(by omega) = s[i + j]'a2.1 := UInt8.toNat_inj.1 (by have := a2.2; omega)
    have a4 : (s.extract i (i + l.length))[j]'(by omega) = s[i + j]'a2.1 := by rw [ByteArray.getElem_extract]
    show (strOfNums l)[j]'(by omega) = (s.extract i (i + l.length))[j]'(by omega)
    rw [a3, a4]
end Go.Proofs.YtdhhcefmmojcmaaGreatDoor
