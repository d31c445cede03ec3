/- Texts of this proof, one behind the other: what each says stands ahead of it. -/
import Derived.Test.YtpjnnbegimaaeabDoorM9
import Derived.Test.YtpjnnbegimaaeabDoorM3
import Derived.Test.YtpjnnbegimaaeabDoorM4
import Derived.DataElems
import Derived.Test.YtpjnnbegimaaeabDoorM8
/- Every coding: what a scalar's bytes tell, and what Decode makes of the bytes of scalars one behind the other: plain; no condition beside those told. -/
namespace Go.Proofs.YtpjnnbegimaaeabDoor
open Go.RowKit
open Go.Lib

def unitF (f : Nat) (s : ByteArray) : Nat → Int := if f = 33 then unitL s else unitB s
theorem unit_fwd (f : Nat) (s : ByteArray) (i : Nat) (r : Int) (h : Lays s i (enU f r)) : unitF f s i = r := by
  unfold unitF
  unfold enU at h
  by_cases hf : f = 33
  · rw [if_pos hf] at h ⊢
    obtain ⟨p0, q0⟩ := h 0 (by simp)
    obtain ⟨p1, q1⟩ := h 1 (by simp)
    simp only [List.getElem_cons_zero, List.getElem_cons_succ, Nat.add_zero] at q0 q1
    unfold unitL
    rw [if_neg (by omega)]
    omega
  · rw [if_neg hf] at h ⊢
    obtain ⟨p0, q0⟩ := h 0 (by simp)
    obtain ⟨p1, q1⟩ := h 1 (by simp)
    simp only [List.getElem_cons_zero, List.getElem_cons_succ, Nat.add_zero] at q0 q1
    unfold unitB
    rw [if_neg (by omega)]
    omega
theorem unit_bwd (f : Nat) (s : ByteArray) (i : Nat) (h : unitF f s i ≠ -1) : Lays s i (enU f (unitF f s i)) ∧ 0 ≤ unitF f s i ∧ unitF f s i ≤ 65535 := by
  have b0 := by_lt s i
  have b1 := by_lt s (i + 1)
  unfold unitF at h ⊢
  unfold enU
  by_cases hf : f = 33
  · simp only [if_pos hf] at h ⊢
    unfold unitL at h ⊢
    by_cases hs : s.size < i + 2
    · rw [if_pos hs] at h
      exact absurd rfl h
    · rw [if_neg hs]
      refine ⟨fun j hj => ?_, by omega, by omega⟩
      rcases (show j = 0 ∨ j = 1 by simp at hj; omega) with rfl | rfl
      · exact ⟨by omega, by simp only [List.getElem_cons_zero, Nat.add_zero]; omega⟩
      · exact ⟨by omega, by simp only [List.getElem_cons_zero, List.getElem_cons_succ]; omega⟩
  · simp only [if_neg hf] at h ⊢
    unfold unitB at h ⊢
    by_cases hs : s.size < i + 2
    · rw [if_pos hs] at h
      exact absurd rfl h
    · rw [if_neg hs]
      refine ⟨fun j hj => ?_, by omega, by omega⟩
      rcases (show j = 0 ∨ j = 1 by simp at hj; omega) with rfl | rfl
      · exact ⟨by omega, by simp only [List.getElem_cons_zero, Nat.add_zero]; omega⟩
      · exact ⟨by omega, by simp only [List.getElem_cons_zero, List.getElem_cons_succ]; omega⟩
theorem unit_in (f : Nat) (s : ByteArray) (i : Nat) : -1 ≤ unitF f s i ∧ unitF f s i ≤ 65535 := by
  unfold unitF
  split
  · exact unitL_in s i
  · exact unitB_in s i
theorem enU_len (f : Nat) (r : Int) : (enU f r).length = 2 := by
  unfold enU
  split <;> rfl
theorem Lays.app {s : ByteArray} {i : Nat} {a b : List Int} (h : Lays s i a) (h2 : Lays s (i + a.length) b) : Lays s i (a ++ b) := fun j hj => by
  by_cases hl : j < a.length
  · obtain ⟨h1, h2⟩ := h j hl
    exact ⟨h1, by rw [h2, List.getElem_append_left hl]⟩
  · obtain ⟨h1, h2⟩ := h2 (j - a.length) (by simp at hj; omega)
    rw [show i + a.length + (j - a.length) = i + j by omega] at h1 h2
    exact ⟨h1, by rw [h2, List.getElem_append_right (by omega)]⟩
theorem tk16_fwd (f : Nat) (s : ByteArray) (i : Nat) (x : Int) (hx : scB x = true) (h : Lays s i (en16 f x)) : tk16 (unitF f s) i = (x, (en16 f x).length) := by
  rw [scB_iff] at hx
  unfold en16 at h ⊢
  unfold tk16
  by_cases h1 : x < 65536
  · rw [if_pos h1] at h ⊢
    rw [unit_fwd f s i x h, if_neg (by omega), if_pos (by omega), enU_len]
  · rw [if_neg h1] at h ⊢
    have r := h.right
    rw [enU_len] at r
    rw [unit_fwd f s i _ h.left, unit_fwd f s (i + 2) _ r, if_neg (by omega), if_neg (by omega), if_neg (by omega), List.length_append, enU_len, enU_len]
    refine Prod.ext ?_ rfl
    dsimp only
    omega
theorem tk16_bwd (f : Nat) (s : ByteArray) (i : Nat) (hx : (tk16 (unitF f s) i).1 ≠ -1) : scB (tk16 (unitF f s) i).1 = true ∧ Lays s i (en16 f (tk16 (unitF f s) i).1) ∧ (tk16 (unitF f s) i).2 = (en16 f (tk16 (unitF f s) i).1).length := by
  unfold tk16 at hx ⊢
  by_cases c0 : unitF f s i = -1
  · rw [if_pos c0] at hx
    exact absurd rfl hx
  rw [if_neg c0] at hx ⊢
  obtain ⟨u1, u2, u3⟩ := unit_bwd f s i c0
  by_cases c1 : ¬ (55296 ≤ unitF f s i ∧ unitF f s i < 57344)
  · rw [if_pos c1]
    have hen : en16 f (unitF f s i) = enU f (unitF f s i) := by
      unfold en16
      rw [if_pos (by omega)]
    refine ⟨(scB_iff _).2 (by dsimp only; omega), ?_, ?_⟩
    · dsimp only
      rw [hen]
      exact u1
    · dsimp only
      rw [hen, enU_len]
  rw [if_neg c1] at hx ⊢
  by_cases c2 : 56320 ≤ unitF f s i ∨ unitF f s (i + 2) < 56320 ∨ 57344 ≤ unitF f s (i + 2)
  · rw [if_pos c2] at hx
    exact absurd rfl hx
  rw [if_neg c2]
  obtain ⟨v1, v2, v3⟩ := unit_bwd f s (i + 2) (by omega)
  obtain ⟨x, hxx⟩ : ∃ x : Int, x = 65536 + (unitF f s i - 55296) * 1024 + unitF f s (i + 2) - 56320 := ⟨_, rfl⟩
  rw [← hxx]
  have hen : en16 f x = enU f (unitF f s i) ++ enU f (unitF f s (i + 2)) := by
    unfold en16
    rw [if_neg (by omega), show 55296 + (x - 65536) / 1024 = unitF f s i by omega, show 56320 + (x - 65536) % 1024 = unitF f s (i + 2) by omega]
  refine ⟨(scB_iff _).2 (by dsimp only; omega), ?_, ?_⟩
  · dsimp only
    rw [hen]
    refine u1.app ?_
    rw [enU_len]
    exact v1
  · dsimp only
    rw [hen, List.length_append, enU_len, enU_len]

theorem tkAt1 (s : ByteArray) (i : Nat) : tkAt s 1 i = tk8 (s.extract i s.size) := by
  unfold tkAt
  rw [if_neg (by decide), if_neg (by decide), if_neg (by decide)]
theorem tkAt2 (s : ByteArray) (i : Nat) : tkAt s 2 i = tk16 (unitF 33 s) i := by
  unfold tkAt unitF
  rw [if_pos rfl, if_pos rfl]
theorem tkAt3 (s : ByteArray) (i : Nat) : tkAt s 3 i = tk16 (unitF 34 s) i := by
  unfold tkAt unitF
  rw [if_neg (by decide), if_pos rfl, if_neg (by decide)]
theorem tkAt4 (s : ByteArray) (i : Nat) : tkAt s 4 i = ((byN s i : Int), 1) := by
  unfold tkAt
  rw [if_neg (by decide), if_neg (by decide), if_pos rfl]
theorem enc1 (x : Int) : enc 1 x = en8 x := by
  unfold enc
  rw [if_pos rfl]
theorem enc2 (x : Int) : enc 2 x = en16 33 x := by
  unfold enc
  rw [if_neg (by decide), if_pos rfl]
theorem enc3 (x : Int) : enc 3 x = en16 34 x := by
  unfold enc
  rw [if_neg (by decide), if_neg (by decide), if_pos rfl]
theorem enc4 (x : Int) : enc 4 x = [x] := by
  unfold enc
  rw [if_neg (by decide), if_neg (by decide), if_neg (by decide)]
theorem okc_sc {c : Nat} {x : Int} (h : okc c x = true) : scB x = true := by
  unfold okc at h
  rw [Bool.and_eq_true] at h
  exact h.1
theorem tkAt_fwd (c : Nat) (hc : c = 1 ∨ c = 2 ∨ c = 3 ∨ c = 4) (s : ByteArray) (i : Nat) (x : Int) (hx : okc c x = true) (h : Lays s i (enc c x)) : tkAt s c i = (x, (enc c x).length) := by
  rcases hc with rfl | rfl | rfl | rfl
  · rw [tkAt1, enc1]
    rw [enc1] at h
    exact tk8_fwd s i x (okc_sc hx) h
  · rw [tkAt2, enc2]
    rw [enc2] at h
    exact tk16_fwd 33 s i x (okc_sc hx) h
  · rw [tkAt3, enc3]
    rw [enc3] at h
    exact tk16_fwd 34 s i x (okc_sc hx) h
  · rw [enc4] at h ⊢
    obtain ⟨_, q0⟩ := h 0 (by simp)
    rw [Nat.add_zero, List.getElem_cons_zero] at q0
    rw [tkAt4, q0]
    rfl
theorem tkAt_bwd (c : Nat) (hc : c = 1 ∨ c = 2 ∨ c = 3 ∨ c = 4) (s : ByteArray) (i : Nat) (hi : i < s.size) (hx : (tkAt s c i).1 ≠ -1) : okc c (tkAt s c i).1 = true ∧ Lays s i (enc c (tkAt s c i).1) ∧ (tkAt s c i).2 = (enc c (tkAt s c i).1).length := by
  have ok : ∀ d, d ≠ 4 → ∀ x, scB x = true → okc d x = true := fun d hd x h => by
    unfold okc
    rw [h, decide_eq_true hd]
    rfl
  rcases hc with rfl | rfl | rfl | rfl
  · rw [tkAt1] at hx ⊢
    rw [enc1]
    obtain ⟨h1, h2, h3⟩ := tk8_bwd s i hi hx
    exact ⟨ok 1 (by decide) _ h1, h2, h3⟩
  · rw [tkAt2] at hx ⊢
    rw [enc2]
    obtain ⟨h1, h2, h3⟩ := tk16_bwd 33 s i hx
    exact ⟨ok 2 (by decide) _ h1, h2, h3⟩
  · rw [tkAt3] at hx ⊢
    rw [enc3]
    obtain ⟨h1, h2, h3⟩ := tk16_bwd 34 s i hx
    exact ⟨ok 3 (by decide) _ h1, h2, h3⟩
  · have hb := by_lt s i
    rw [tkAt4, enc4]
    refine ⟨?_, ?_, rfl⟩
    · unfold okc
      rw [Bool.and_eq_true, scB_iff]
      refine ⟨by dsimp only; omega, ?_⟩
      rw [decide_eq_true (show (byN s i : Int) ≤ 255 by omega)]
      rfl
    · intro j hj
      obtain rfl : j = 0 := by
        have : j < 1 := hj
        omega
      exact ⟨by omega, rfl⟩
theorem enc_pos (c : Nat) (x : Int) : 0 < (enc c x).length := by
  unfold enc en8 en16 enU
  repeat' split
  all_goals simp

/-- Scalars' bytes one behind the other, to the end, are decoded as these. -/
theorem dc_fwd (c : Nat) (hc : c = 1 ∨ c = 2 ∨ c = 3 ∨ c = 4) (s : ByteArray) (strict : Bool) : ∀ (l : List Int) (k i : Nat) (rs ps : List Int) (bad : Nat), l.all (okc c) = true → Lays s i (l.flatMap (enc c)) → s.size = i + (l.flatMap (enc c)).length → s.size ≤ i + k →
    ∃ ps', dcGo s c strict k i rs ps bad = (none, rs ++ l, ps', bad)
  | [], k, i, rs, ps, bad, _, _, he, _ => by
    simp only [List.flatMap_nil, List.length_nil, Nat.add_zero] at he
    exact ⟨ps, by rw [dc_end (by omega), List.append_nil]⟩
  | x :: l, k, i, rs, ps, bad, ha, hl, he, hk => by
    rw [List.all_cons, Bool.and_eq_true] at ha
    rw [List.flatMap_cons] at hl he
    rw [List.length_append] at he
    have hp := enc_pos c x
    have ht := tkAt_fwd c hc s i x ha.1 hl.left
    obtain ⟨k, rfl⟩ : ∃ j, k = j + 1 := ⟨k - 1, by omega⟩
    have hx := (okc_in ha.1).1
    rw [dc_step (by omega), ht, if_neg (by dsimp only; omega)]
    obtain ⟨ps', h⟩ := dc_fwd c hc s strict l k (i + (enc c x).length) (rs ++ [x]) (ps ++ [(i : Int)]) bad ha.2 hl.right (by omega) (by omega)
    exact ⟨ps', by rw [h, List.append_assoc]; rfl⟩
end Go.Proofs.YtpjnnbegimaaeabDoor

/- Decode of what Encode makes, with and without marks: plain; no condition beside those told. -/
namespace Go.Proofs.YtpjnnbegimaaeabDoor
open Go.RowKit
open Go.Lib

theorem toList_data (s : ByteArray) : s.toList = s.data.toList := by
  have go : ∀ (n i : Nat) (r : List UInt8), s.size - i = n → ByteArray.toList.loop s i r = r.reverse ++ s.data.toList.drop i := by
    intro n
    induction n with
    | zero =>
      intro i r h
      unfold ByteArray.toList.loop
      rw [if_neg (by omega), List.drop_eq_nil_of_le (by rw [Array.length_toList]; show s.size ≤ i; omega), List.append_nil]
    | succ n ih =>
      intro i r h
      have hi : i < s.size := by omega
      have hi' : i < s.data.toList.length := by rw [Array.length_toList]; exact hi
      unfold ByteArray.toList.loop
      rw [if_pos hi, ih (i + 1) _ (by omega), List.drop_eq_getElem_cons hi', List.reverse_cons, List.append_assoc]
      congr 1
      show s.get! i :: _ = _
      congr 1
      show s.data[i]! = _
      rw [getElem!_pos s.data i hi]
      rfl
  unfold ByteArray.toList
  rw [go _ 0 [] rfl]
  rfl
theorem beg_iff (s p : ByteArray) : begB s p = true ↔ Lays s 0 (nums p) := by
  have hl : (nums p).length = p.size := by unfold nums; rw [List.length_map, Array.length_toList]; rfl
  have hx : ∀ j (h : j < (nums p).length), (nums p)[j] = (byN p j : Int) := fun j h => by
    have hj : j < p.size := by omega
    unfold byN
    rw [dif_pos hj]
    have h' : j < (p.data.toList.map fun b => (b.toNat : Int)).length := h
    show (p.data.toList.map fun b => (b.toNat : Int))[j]'h' = _
    rw [List.getElem_map]
    rfl
  unfold begB
  rw [Bool.and_eq_true, decide_eq_true_eq, beq_iff_eq, toList_data, toList_data]
  constructor
  · rintro ⟨h1, h2⟩ j hj
    have hj2 : j < p.size := by omega
    have h3 : (s.extract 0 p.size).data.toList[j]? = p.data.toList[j]? := by rw [h2]
    have h4 : j < (s.extract 0 p.size).size := by rw [ByteArray.size_extract]; omega
    refine ⟨by omega, ?_⟩
    rw [hx j hj, Nat.zero_add]
    have h5 : j < s.size := by omega
    unfold byN
    rw [dif_pos h5, dif_pos hj2]
    have h6 : (s.extract 0 p.size)[j] = p[j] := by
      rw [List.getElem?_eq_getElem (by rw [Array.length_toList]; exact h4), List.getElem?_eq_getElem (by rw [Array.length_toList]; exact hj2), Option.some_inj] at h3
      exact h3
    rw [← h6, ByteArray.getElem_extract]
    simp
  · intro h
    have h1 : p.size ≤ s.size := by
      by_cases h0 : p.size = 0
      · omega
      · have := (h (p.size - 1) (by omega)).1
        omega
    refine ⟨h1, ?_⟩
    have hsz : (s.extract 0 p.size).size = p.size := by rw [ByteArray.size_extract]; omega
    apply List.ext_getElem
    · rw [Array.length_toList, Array.length_toList]
      exact hsz
    · intro j h2 h3
      have hj : j < p.size := by rw [Array.length_toList] at h3; exact h3
      have hq := (h j (by omega)).2
      have h5 : j < s.size := by omega
      rw [hx j (by omega), Nat.zero_add] at hq
      unfold byN at hq
      rw [dif_pos h5, dif_pos hj] at hq
      have h6 : s[j] = p[j] := UInt8.toNat_inj.1 (by omega)
      have h7 : (s.extract 0 p.size)[j]'(by omega) = s[j] := by rw [ByteArray.getElem_extract]; simp
      show (s.extract 0 p.size)[j]'(by omega) = p[j]
      rw [h7, h6]
theorem lay_str (l : List Int) (h : ∀ b ∈ l, 0 ≤ b ∧ b ≤ 255) : (strOfNums l).size = l.length ∧ Lays (strOfNums l) 0 l := by
  have hs : (strOfNums l).size = l.length := by
    show ((l.map fun n => UInt8.ofNat n.toNat).toArray).size = _
    simp
  refine ⟨hs, fun j hj => ?_⟩
  refine ⟨by omega, ?_⟩
  rw [Nat.zero_add]
  unfold byN
  rw [dif_pos (by omega)]
  have hb := h l[j] (List.getElem_mem hj)
  have h1 : (strOfNums l)[j]'(by omega) = UInt8.ofNat l[j].toNat := by
    show ((l.map fun n => UInt8.ofNat n.toNat).toArray)[j]'(by simp; exact hj) = _
    simp
  rw [h1, UInt8.toNat_ofNat']
  omega
theorem enc_in (c : Nat) (hc : c = 1 ∨ c = 2 ∨ c = 3 ∨ c = 4) (x : Int) (h : okc c x = true) : ∀ b ∈ enc c x, 0 ≤ b ∧ b ≤ 255 := by
  have hx := (scB_iff x).1 (okc_sc h)
  have h4 := okc_in h
  unfold topc at h4
  unfold enc en8 en16 enU
  repeat' split
  all_goals
    intro b hb
    simp only [List.mem_append, List.mem_cons, List.not_mem_nil, or_false] at hb
  all_goals first | (rcases hb with rfl | rfl | rfl | rfl <;> omega) | (rcases hb with rfl | rfl | rfl <;> omega) | (rcases hb with (rfl | rfl) | rfl | rfl <;> omega) | (rcases hb with rfl | rfl <;> omega) | (subst hb; split at h4 <;> omega)
theorem flat_in (c : Nat) (hc : c = 1 ∨ c = 2 ∨ c = 3 ∨ c = 4) (l : List Int) (h : l.all (okc c) = true) : ∀ b ∈ l.flatMap (enc c), 0 ≤ b ∧ b ≤ 255 := fun b hb => by
  obtain ⟨x, hx, hb⟩ := List.mem_flatMap.1 hb
  exact enc_in c hc x (List.all_eq_true.1 h x hx) b hb

theorem mk_enc (c : Nat) (hc : c = 1 ∨ c = 2 ∨ c = 3) : nums (mk c) = enc c 65279 ∧ (mk c).size = (enc c 65279).length ∧ okc c 65279 = true := by
  rcases hc with rfl | rfl | rfl <;> decide +kernel
/-- The scalars with their mark, if there is one. -/
def fullL (c : Nat) (mark : Bool) (l : List Int) : List Int := if mark = true ∧ c ≠ 4 then 65279 :: l else l
theorem full_flat (c : Nat) (hc : c = 1 ∨ c = 2 ∨ c = 3 ∨ c = 4) (mark : Bool) (l : List Int) : (if mark then nums (mk c) else []) ++ l.flatMap (enc c) = (fullL c mark l).flatMap (enc c) := by
  unfold fullL
  cases mark
  · simp
  · by_cases h4 : c = 4
    · subst h4
      rfl
    · rw [if_pos rfl, if_pos ⟨rfl, h4⟩, List.flatMap_cons, (mk_enc c (by omega)).1]
theorem full_ok (c : Nat) (hc : c = 1 ∨ c = 2 ∨ c = 3 ∨ c = 4) (mark : Bool) (l : List Int) (h : l.all (okc c) = true) : (fullL c mark l).all (okc c) = true := by
  unfold fullL
  split
  · rename_i hm
    rw [List.all_cons, (mk_enc c (by omega)).2.2, h]
    rfl
  · exact h
/-- What is left of scalars when a mark is passed over. -/
def dropM (c : Nat) (l : List Int) : List Int := if c ≠ 4 ∧ l.head? = some 65279 then l.tail else l
theorem dec_full (c : Nat) (hc : c = 1 ∨ c = 2 ∨ c = 3 ∨ c = 4) (strict : Bool) (l : List Int) (ha : l.all (okc c) = true) (s : ByteArray) (hl : Lays s 0 (l.flatMap (enc c))) (hs : s.size = (l.flatMap (enc c)).length) :
    (bg s c).1 = c ∧ ∃ ps, dcGo s c strict s.size (bg s c).2 [] [] 0 = (none, dropM c l, ps, 0) := by
  have hb : bg s c = if begB s (mk c) = true then (c, (mk c).size) else (c, 0) := by
    unfold bg
    rw [if_neg (by omega)]
  by_cases h4 : c = 4
  · subst h4
    have h0 : bg s 4 = (4, 0) := by rw [hb]; split <;> rfl
    rw [h0]
    refine ⟨rfl, ?_⟩
    obtain ⟨ps, h⟩ := dc_fwd 4 hc s strict l s.size 0 [] [] 0 ha hl (by omega) (by omega)
    exact ⟨ps, by rw [h]; rfl⟩
  obtain ⟨m1, m2, m3⟩ := mk_enc c (by omega)
  have mp := enc_pos c 65279
  by_cases hh : l.head? = some 65279
  · obtain ⟨t, rfl⟩ : ∃ t, l = 65279 :: t := by
      cases l with
      | nil => cases hh
      | cons x t =>
        simp at hh
        exact ⟨t, by rw [hh]⟩
    rw [List.flatMap_cons] at hl hs
    rw [List.length_append] at hs
    rw [List.all_cons, Bool.and_eq_true] at ha
    have hbeg : begB s (mk c) = true := (beg_iff s (mk c)).2 (by rw [m1]; exact hl.left)
    rw [if_pos hbeg] at hb
    rw [hb]
    refine ⟨rfl, ?_⟩
    have hr := hl.right
    rw [Nat.zero_add, ← m2] at hr
    obtain ⟨ps, h⟩ := dc_fwd c hc s strict t s.size (mk c).size [] [] 0 ha.2 hr (by omega) (by omega)
    refine ⟨ps, ?_⟩
    show dcGo s c strict s.size (mk c).size [] [] 0 = _
    rw [h]
    unfold dropM
    rw [if_pos ⟨h4, rfl⟩]
    rfl
  · have hbeg : ¬ begB s (mk c) = true := fun e => by
      have e1 := (beg_iff s (mk c)).1 e
      rw [m1] at e1
      have e2 := tkAt_fwd c hc s 0 65279 m3 e1
      cases l with
      | nil =>
        have := (e1 0 mp).1
        rw [List.flatMap_nil, List.length_nil] at hs
        omega
      | cons x t =>
        rw [List.all_cons, Bool.and_eq_true] at ha
        rw [List.flatMap_cons] at hl
        have e3 := tkAt_fwd c hc s 0 x ha.1 hl.left
        rw [e2] at e3
        apply hh
        rw [List.head?_cons, ← (Prod.mk.inj e3).1]
    rw [if_neg hbeg] at hb
    rw [hb]
    refine ⟨rfl, ?_⟩
    obtain ⟨ps, h⟩ := dc_fwd c hc s strict l s.size 0 [] [] 0 ha hl (by omega) (by omega)
    refine ⟨ps, ?_⟩
    show dcGo s c strict s.size 0 [] [] 0 = _
    rw [h]
    unfold dropM
    rw [if_neg (fun e => hh e.2)]
    rfl
theorem dec_auto (c : Nat) (hc : c = 1 ∨ c = 2 ∨ c = 3) (strict : Bool) (l : List Int) (ha : l.all (okc c) = true) (s : ByteArray) (hl : Lays s 0 ((65279 :: l).flatMap (enc c))) (hs : s.size = ((65279 :: l).flatMap (enc c)).length) :
    (bg s 0).1 = c ∧ ∃ ps, dcGo s c strict s.size (bg s 0).2 [] [] 0 = (none, l, ps, 0) := by
  obtain ⟨m1, m2, m3⟩ := mk_enc c hc
  rw [List.flatMap_cons] at hl hs
  rw [List.length_append] at hs
  have hbeg : begB s (mk c) = true := (beg_iff s (mk c)).2 (by rw [m1]; exact hl.left)
  have hno : ∀ d, (d = 1 ∨ d = 2) → d ≠ c → ¬ begB s (mk d) = true := fun d hd hdc e => by
    have e1 := (beg_iff s (mk d)).1 e
    have e2 := (beg_iff s (mk c)).1 hbeg
    have q1 : ∃ h : 0 < (nums (mk d)).length, (nums (mk d))[0] = if d = 1 then 239 else if d = 2 then 255 else 254 := by rcases hd with rfl | rfl <;> exact ⟨by decide, rfl⟩
    have q2 : ∃ h : 0 < (nums (mk c)).length, (nums (mk c))[0] = if c = 1 then 239 else if c = 2 then 255 else 254 := by rcases hc with rfl | rfl | rfl <;> exact ⟨by decide, rfl⟩
    obtain ⟨p1, q1⟩ := q1
    obtain ⟨p2, q2⟩ := q2
    have z1 := (e1 0 p1).2
    have z2 := (e2 0 p2).2
    rw [q1] at z1
    rw [q2] at z2
    rcases hd with rfl | rfl <;> rcases hc with rfl | rfl | rfl <;> simp at z1 z2 hdc <;> omega
  have hb : bg s 0 = (c, (mk c).size) := by
    show sn s 3 1 = _
    unfold sn
    rcases hc with rfl | rfl | rfl
    · rw [if_pos hbeg]
    · rw [if_neg (hno 1 (by omega) (by omega))]
      unfold sn
      rw [if_pos hbeg]
    · rw [if_neg (hno 1 (by omega) (by omega))]
      unfold sn
      rw [if_neg (hno 2 (by omega) (by omega))]
      unfold sn
      rw [if_pos hbeg]
  rw [hb]
  refine ⟨rfl, ?_⟩
  have hr := hl.right
  rw [Nat.zero_add, ← m2] at hr
  obtain ⟨ps, h⟩ := dc_fwd c (by omega) s strict l s.size (mk c).size [] [] 0 ha hr (by omega) (by omega)
  exact ⟨ps, h⟩
end Go.Proofs.YtpjnnbegimaaeabDoor

/- Numbers that lie at any address (what a call is handed): held against others, and appended to a row of the call's own; conditions: those told. -/
namespace Go.Proofs.YtpjnnbegimaaeabDoor
open Go.RowKit

def Ix (w : World) (a : Option Addr) (l : List Int) : Prop := l = [] ∨ ∃ x, a = some x ∧ ∀ i (h : i < l.length), w.cell? (x.add i) = some (.int .i64 l[i])
theorem Ix.new {w w' : World} {a : Option Addr} {l : List Int} (h : Ix w a l) (t : Touch (fun _ => False) w w') : Ix w' a l := by
  rcases h with h | ⟨x, rfl, hc⟩
  · exact .inl h
  · refine .inr ⟨x, rfl, fun i hi => ?_⟩
    have hb := World.block_lt_of_cell? w _ (hc i hi)
    rw [t.cell hb id]
    exact hc i hi
theorem Ig.ix {w : World} {a : Option Addr} {l : List Int} (h : Ig w a l) : Ix w a l := by
  obtain ⟨b, rfl, _, hc⟩ := h
  exact .inr ⟨_, rfl, fun i hi => by rw [add_g]; exact hc i hi⟩
theorem Ix.tail {w : World} {a : Option Addr} {x : Int} {l : List Int} (h : Ix w a (x :: l)) : ∃ y, a = some y ∧ w.cell? (y.add 0) = some (.int .i64 x) ∧ Ix w (some (y.add 1)) l := by
  rcases h with h | ⟨y, rfl, hc⟩
  · cases h
  · refine ⟨y, rfl, hc 0 (by simp), .inr ⟨_, rfl, fun i hi => ?_⟩⟩
    have := hc (i + 1) (by simp; omega)
    rw [List.getElem_cons_succ] at this
    rw [Addr.add_add, Nat.add_comm 1 i]
    exact this

theorem run_append_ix (w : World) (ty : TypeId) (v : Value) (n : Nat) (xs : List Value) (hown : w.ownsRow 0 3 1 v n xs) (a : Option Addr) (c : Nat) (l : List Int) (hl : Ix w a l) (hb : (n + l.length) * 8 ≤ 140737488355328) :
    ∃ v' w', (Builtin.append_ #[22, 22] ty #[v, .slice a l.length c]).run Tryd.prog w = .ok v' w' ∧ w'.ownsRow 0 3 1 v' (n + l.length) (xs ++ encI l) ∧ w.grownBy w' v.ownBlock ∧ (v'.ownBlock = v.ownBlock ∨ v'.ownBlock = some w.heap.size) := by
  obtain ⟨i0, hin, hz0, hz1, hz2⟩ := info_parts info3i
  rcases hl with rfl | ⟨x, rfl, hc⟩
  · refine ⟨v, w, run_append_noneI w ty v n xs hown a c, ?_, ⟨rfl, rfl, rfl, Nat.le_refl _, fun _ _ _ => rfl⟩, .inl rfl⟩
    rw [show encI [] = [] from rfl, List.append_nil]
    exact hown
  · obtain ⟨v', w', h1, h2, h3, _, h4⟩ := run_append_own_at (P := Tryd.prog) w 0 22 ty 3 i0 (.int .i64 0) 1 8 Tryd.underlying22 hin hz0 hz1 hz2 rfl (by decide) v n xs hown x l.length c (encI l) (by simp [encI]) (fun j u hj => by
        unfold encI at hj
        rw [List.getElem?_map] at hj
        obtain ⟨z, hz, rfl⟩ := Option.map_eq_some_iff.1 hj
        obtain ⟨hlt, rfl⟩ := List.getElem?_eq_some_iff.1 hz
        exact hc j hlt) (by intro u hu; obtain ⟨z, _, rfl⟩ := List.mem_map.1 hu; rfl) (by unfold maxLen; omega) hb (Nat.zero_le _)
    exact ⟨v', w', h1, h2, h3, h4⟩
theorem wpList_append_ix (w : World) {ops : Array Oper} {rest : List Oper} {o : Oper} {a : Act} {Q : Exit → Act → World → Prop} (hgd : o.guard = none) (s x : Operand)
    (ho : o.op = .call { callee := .builtin .append, args := #[s, x], argTypes := #[22, 22] })
    (v : Value) (n : Nat) (xs : List Value) (hs : a.eval s = v) (hown : w.ownsRow 0 3 1 v n xs) (ad : Option Addr) (c : Nat) (l : List Int) (m : Nat) (hm : m = l.length) (hx : a.eval x = .slice ad m c) (hl : Ix w ad l) (hb : (n + l.length) * 8 ≤ 140737488355328)
    (h : ∀ v' w', w'.ownsRow 0 3 1 v' (n + l.length) (xs ++ encI l) → w.grownBy w' v.ownBlock → (v'.ownBlock = v.ownBlock ∨ v'.ownBlock = some w.heap.size) → wpList Tryd.prog ops Q rest (a.put o.dst v') w') : wpList Tryd.prog ops Q (o :: rest) a w := by
  subst hm
  refine wpList_plain hgd fun K hK => ?_
  obtain ⟨v', w', hr, h2, h3, h4⟩ := run_append_ix w o.type v n xs hown ad c l hl hb
  unfold Oper.wp execOp
  simp only [ho, resolve, invoke, builtin, Sem.run_bind, Sem.run_pure, Result.andThen_ok, List.map_toArray, List.map_cons, List.map_nil, hs, hx, hr]
  exact hK _ _ (h v' w' h2 h3 h4)
/-- A list of none that isn't nil. -/
theorem OwI.none (w : World) : OwI w (w.alloc (.cells #[] 3)) (.slice (some ⟨w.heap.size, 0, .none⟩) 0 0) [] := by
  refine ⟨⟨rfl, .inr ⟨w.heap.size, 0, #[], rfl, Nat.zero_le _, heap_alloc_new w _, Nat.le_refl _, by unfold maxLen; omega, rfl, rfl⟩⟩, fun g hg => ?_, (Touch.refl _ w).alloc _⟩
  simp [Value.ownBlock] at hg
  omega
end Go.Proofs.YtpjnnbegimaaeabDoor

/- Encode in every coding, and Decode of what it makes; conditions: those told. -/
namespace Go.Proofs.YtpjnnbegimaaeabDoor
open Go.RowKit
open Go.Lib

theorem encode_any (c : Nat) (hc : c = 1 ∨ c = 2 ∨ c = 3 ∨ c = 4) (a : Option Addr) (k : Nat) (l : List Int) (mark : Bool) (w : World) (ht : Tabs w) (hl : l = [] ∨ Ig w a l) (hb : l.length ≤ 1048576) :
    Calls Tryd.prog 8 #[.slice a l.length k, .int .i64 (c : Nat), .bool mark] w fun e w' => e = .returned (encR c mark l) ∧ Touch (fun _ => False) w w' := by
  rcases hc with rfl | rfl | rfl | rfl
  · exact encode_1 a k l mark w ht hl hb
  · exact encode_2 a k l mark w ht hl hb
  · exact encode_3 a k l mark w ht hl hb
  · exact encode_4 a k l mark w ht hl hb
/-- What Encode makes of scalars. -/
def encS (c : Nat) (mark : Bool) (l : List Int) : ByteArray := strOfNums ((fullL c mark l).flatMap (enc c))
theorem encR_yes {c : Nat} (hc : c = 1 ∨ c = 2 ∨ c = 3 ∨ c = 4) {mark : Bool} {l : List Int} (h : l.all (okc c) = true) : encR c mark l = .tuple #[.string (encS c mark l), .int .i64 0] := by
  unfold encR encS
  rw [if_pos h, full_flat c hc]
theorem encR_no {c : Nat} {mark : Bool} {l : List Int} (h : l.all (okc c) = false) : encR c mark l = .tuple #[.string ⟨#[]⟩, .int .i64 17] := by
  unfold encR
  rw [if_neg (by rw [h]; decide)]
theorem encS_lay {c : Nat} (hc : c = 1 ∨ c = 2 ∨ c = 3 ∨ c = 4) (mark : Bool) {l : List Int} (h : l.all (okc c) = true) : (encS c mark l).size = ((fullL c mark l).flatMap (enc c)).length ∧ Lays (encS c mark l) 0 ((fullL c mark l).flatMap (enc c)) :=
  lay_str _ (flat_in c hc _ (full_ok c hc mark l h))
theorem fullL_len (c : Nat) (mark : Bool) (l : List Int) : (fullL c mark l).length ≤ l.length + 1 := by
  unfold fullL
  split <;> simp
theorem encS_size {c : Nat} (hc : c = 1 ∨ c = 2 ∨ c = 3 ∨ c = 4) (mark : Bool) {l : List Int} (h : l.all (okc c) = true) : (encS c mark l).size ≤ 4 * l.length + 4 := by
  have h1 := (encS_lay hc mark h).1
  have h2 := flat_len c (fullL c mark l)
  have h3 := fullL_len c mark l
  omega
theorem decode_auto (c : Nat) (hc : c = 1 ∨ c = 2 ∨ c = 3) (l : List Int) (ha : l.all (okc c) = true) (w : World) (ht : Tabs w) (hb : l.length ≤ 1048576) :
    Calls Tryd.prog 4 #[.string (encS c true l), .int .i64 0, .bool true] w fun e w' => ∃ a1 k1 a2 n2 k2, e = .returned (.tuple #[.agg #[.int .i64 (c : Nat), .slice a1 l.length k1, .slice a2 n2 k2, .int .i64 0], .agg #[.int .i64 0, .int .i64 0]]) ∧ Ix w' a1 l ∧ Touch (fun _ => False) w w' := by
  have hc4 : c = 1 ∨ c = 2 ∨ c = 3 ∨ c = 4 := by omega
  obtain ⟨h1, h2⟩ := encS_lay hc4 true ha
  have hz := encS_size hc4 true ha
  generalize encS c true l = s at *
  have hf : fullL c true l = 65279 :: l := by
    unfold fullL
    rw [if_pos ⟨rfl, by omega⟩]
  rw [hf] at h1 h2
  obtain ⟨g1, ps, g2⟩ := dec_auto c hc true l ha s h2 h1
  have K := decode_any s 0 true w ht (by omega) (by omega)
  rw [g1, g2] at K
  refine K.mono ?_
  rintro e w' (⟨i, h, _⟩ | ⟨_, ⟨v1, v2, rfl, o1, o2⟩⟩)
  · cases h
  · obtain ⟨a1, k1, rfl⟩ := own_shape o1.own
    obtain ⟨a2, k2, rfl⟩ := own_shape o2.own
    obtain ⟨h, _⟩ := o1.in
    refine ⟨a1, k1, a2, _, k2, rfl, ?_, o1.touch⟩
    rcases h with ⟨h, _⟩ | h
    · exact .inl h
    · exact h.ix
theorem decode_same (c : Nat) (hc : c = 1 ∨ c = 2 ∨ c = 3 ∨ c = 4) (l : List Int) (ha : l.all (okc c) = true) (s : ByteArray) (h1 : s.size = (l.flatMap (enc c)).length) (h2 : Lays s 0 (l.flatMap (enc c))) (w : World) (ht : Tabs w) (hb : s.size ≤ 1099511627776) :
    Calls Tryd.prog 4 #[.string s, .int .i64 (c : Nat), .bool true] w fun e w' => ∃ a1 n1 k1 a2 n2 k2, e = .returned (.tuple #[.agg #[.int .i64 (c : Nat), .slice a1 n1 k1, .slice a2 n2 k2, .int .i64 0], .agg #[.int .i64 0, .int .i64 0]]) ∧ n1 = (dropM c l).length ∧ Ix w' a1 (dropM c l) ∧ Touch (fun _ => False) w w' := by
  obtain ⟨g1, ps, g2⟩ := dec_full c hc true l ha s h2 h1
  have K := decode_any s c true w ht (by omega) (by omega)
  rw [g1, g2] at K
  refine K.mono ?_
  rintro e w' (⟨i, h, _⟩ | ⟨_, ⟨v1, v2, rfl, o1, o2⟩⟩)
  · cases h
  · obtain ⟨a1, k1, rfl⟩ := own_shape o1.own
    obtain ⟨a2, k2, rfl⟩ := own_shape o2.own
    obtain ⟨h, _⟩ := o1.in
    refine ⟨a1, _, k1, a2, _, k2, rfl, rfl, ?_, o1.touch⟩
    rcases h with ⟨h, _⟩ | h
    · exact .inl h
    · exact h.ix
end Go.Proofs.YtpjnnbegimaaeabDoor
