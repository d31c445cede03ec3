/- The document's way of unpacking, plain: what it takes is what is taken; no condition. -/
import Derived.Test.YtmeekjfnmdbnpaaDoorPl
namespace Go.Proofs.YtmeekjfnmdbnpaaDoor
open Go.Lib

/-- How many digits stand ahead, at most so many. -/
def dgN : Nat → Bs → Nat
  | 0, _ => 0
  | _ + 1, [] => 0
  | G + 1, c :: cs => if digB c = true then dgN G cs + 1 else 0
theorem dgN_le : ∀ (G : Nat) (s : Bs), dgN G s ≤ G ∧ dgN G s ≤ s.length
  | 0, s => by simp [dgN]
  | G + 1, [] => by simp [dgN]
  | G + 1, c :: cs => by
    have := dgN_le G cs
    unfold dgN
    split
    · simp; omega
    · simp
theorem dgN_dig : ∀ (G : Nat) (s : Bs), ∀ c ∈ s.take (dgN G s), digB c = true
  | 0, s => by simp [dgN]
  | G + 1, [] => by simp [dgN]
  | G + 1, c :: cs => by
    unfold dgN
    split
    · rename_i h
      intro x hx
      rw [List.take_succ_cons] at hx
      rcases List.mem_cons.1 hx with rfl | hx
      · exact h
      · exact dgN_dig G cs x hx
    · simp
theorem dgN_app : ∀ (G : Nat) (a b : Bs), (∀ c ∈ a, digB c = true) → a.length ≤ G → dgN G (a ++ 58 :: b) = a.length
  | 0, [], b, _, _ => rfl
  | 0, c :: a, b, _, hl => by simp at hl
  | G + 1, [], b, _, _ => by
    show dgN (G + 1) (58 :: b) = 0
    unfold dgN
    rw [if_neg (by decide)]
  | G + 1, c :: a, b, h, hl => by
    show dgN (G + 1) (c :: (a ++ 58 :: b)) = _
    unfold dgN
    rw [if_pos (h c (by simp)), dgN_app G a b (fun x hx => h x (by simp [hx])) (by simp at hl; omega)]
    rfl
def rtB (s : Bs) (k n : Nat) : Prop := k = 0 ∨ (s.head? = some 48 ∧ 1 < k) ∨ s[k]? ≠ some 58 ∨ s.length ≤ n + k + 1 ∨ s[k + 1 + n]? ≠ some 44
instance (s : Bs) (k n : Nat) : Decidable (rtB s k n) := by unfold rtB; infer_instance
def rtk (s : Bs) : Option (Bs × Bs) :=
  if rtB s (dgN 7 s) (val10 (s.take (dgN 7 s))) then none
  else some ((s.drop (dgN 7 s + 1)).take (val10 (s.take (dgN 7 s))), s.drop (dgN 7 s + 2 + val10 (s.take (dgN 7 s))))
theorem rtk_some {s t r : Bs} (h : rtk s = some (t, r)) : tk s = some (t, r) := by
  unfold rtk at h
  have hle := dgN_le 7 s
  have hdg := dgN_dig 7 s
  generalize dgN 7 s = k at h hle hdg
  obtain ⟨n, hn⟩ : ∃ n, val10 (s.take k) = n := ⟨_, rfl⟩
  rw [hn] at h
  split at h
  · cases h
  · rename_i hc
    unfold rtB at hc
    have c1 : ¬ k = 0 := fun e => hc (.inl e)
    have c2 : ¬ (s.head? = some 48 ∧ 1 < k) := fun e => hc (.inr (.inl e))
    have c3 : s[k]? = some 58 := by
      by_cases e : s[k]? = some 58
      · exact e
      · exact absurd (.inr (.inr (.inl e))) hc
    have c4 : ¬ s.length ≤ n + k + 1 := fun e => hc (.inr (.inr (.inr (.inl e))))
    have c5 : s[k + 1 + n]? = some 44 := by
      by_cases e : s[k + 1 + n]? = some 44
      · exact e
      · exact absurd (.inr (.inr (.inr (.inr e)))) hc
    have h' := Option.some.inj h
    obtain ⟨rfl, rfl⟩ : (s.drop (k + 1)).take n = t ∧ s.drop (k + 2 + n) = r := ⟨congrArg Prod.fst h', congrArg Prod.snd h'⟩
    have hlk : (s.take k).length = k := by rw [List.length_take]; omega
    have hlt : ((s.drop (k + 1)).take n).length = n := by rw [List.length_take, List.length_drop]; omega
    have hne : s.take k ≠ [] := by
      intro e
      rw [e] at hlk
      simp at hlk
      omega
    have hlead : Lead (s.take k) := by
      cases hs : s with
      | nil => rw [hs] at hne; simp at hne
      | cons a q =>
        rw [hs] at c2
        obtain ⟨j, rfl⟩ : ∃ j, k = j + 1 := ⟨k - 1, by omega⟩
        rw [List.take_succ_cons]
        by_cases ha : a = 48
        · have hj : j = 0 := by
            by_cases e : j = 0
            · exact e
            · exact absurd ⟨by rw [ha]; rfl, by omega⟩ c2
          subst hj ha
          exact .inr rfl
        · refine .inl ?_
          simpa using ha
    have hdec := dec_of _ (s.take k) rfl hne hdg hlead
    rw [hn] at hdec
    have hval := val_lt (s.take k) hdg
    rw [hn, hlk] at hval
    have hp : (10 : Nat) ^ k ≤ 10 ^ 7 := Nat.pow_le_pow_right (by decide) hle.1
    have e7 : (10 : Nat) ^ 7 = 10000000 := by decide
    rw [tk_iff]
    refine ⟨?_, by rw [hlt]; omega⟩
    unfold pk
    rw [hlt, hdec]
    have d1 : s.drop k = 58 :: s.drop (k + 1) := by
      obtain ⟨hk1, hk2⟩ := List.getElem?_eq_some_iff.1 c3
      rw [List.drop_eq_getElem_cons hk1, hk2]
    have d2 : s.drop (k + 1 + n) = 44 :: s.drop (k + 2 + n) := by
      obtain ⟨hk1, hk2⟩ := List.getElem?_eq_some_iff.1 c5
      rw [List.drop_eq_getElem_cons hk1, hk2]
      congr 2
      omega
    conv => lhs; rw [← List.take_append_drop k s, d1, ← List.take_append_drop n (s.drop (k + 1)), List.drop_drop, d2]
    simp
theorem rtk_of {s t r : Bs} (h : tk s = some (t, r)) : rtk s = some (t, r) := by
  obtain ⟨rfl, hl⟩ := tk_some h
  have e7 : (10 : Nat) ^ 7 = 10000000 := by decide
  have hd : (decDigits t.length).length ≤ 7 := dec_len_le _ 7 (by omega) (by decide)
  have e : pk t ++ r = decDigits t.length ++ 58 :: (t ++ 44 :: r) := by simp [pk]
  have hk : dgN 7 (pk t ++ r) = (decDigits t.length).length := by rw [e]; exact dgN_app 7 _ _ (dec_dig _) hd
  have htake : (pk t ++ r).take (decDigits t.length).length = decDigits t.length := by rw [e]; exact List.take_left' rfl
  have hdrop : (pk t ++ r).drop ((decDigits t.length).length + 1) = t ++ 44 :: r := by
    rw [e, ← List.drop_drop, List.drop_left' rfl]
    rfl
  have hdropA : ∀ j, (pk t ++ r).drop ((decDigits t.length).length + 1 + j) = (t ++ 44 :: r).drop j := by
    intro j
    rw [← List.drop_drop, hdrop]
  have hget : ∀ j, (pk t ++ r)[(decDigits t.length).length + 1 + j]? = (t ++ 44 :: r)[j]? := by
    intro j
    rw [← List.getElem?_drop, hdrop]
  unfold rtk
  rw [hk, htake, dec_val]
  have hnb : ¬ rtB (pk t ++ r) (decDigits t.length).length t.length := by
    have hne := dec_ne t.length
    have hld := dec_lead t.length
    rintro (h1 | h1 | h1 | h1 | h1)
    · exact hne (List.length_eq_zero_iff.1 h1)
    · obtain ⟨h1, h2⟩ := h1
      have hh : (pk t ++ r).head? = (decDigits t.length).head? := by
        rw [e]
        cases hd : decDigits t.length with
        | nil => exact absurd hd hne
        | cons a q => rfl
      rw [hh] at h1
      rcases hld.1 with h3 | h3
      · exact h3 h1
      · rw [h3] at h2
        simp at h2
    · apply h1
      rw [e, List.getElem?_append_right (Nat.le_refl _), Nat.sub_self]
      rfl
    · rw [e] at h1
      simp at h1
      omega
    · apply h1
      rw [hget, List.getElem?_append_right (Nat.le_refl _), Nat.sub_self]
      rfl
  rw [if_neg hnb, hdrop, List.take_left' rfl, show (decDigits t.length).length + 2 + t.length = (decDigits t.length).length + 1 + (t.length + 1) by omega, hdropA, ← List.drop_drop, List.drop_left' rfl]
  rfl
theorem rtk_tk (s : Bs) : rtk s = tk s := by
  cases h : tk s with
  | some p => exact rtk_of h
  | none =>
    cases h2 : rtk s with
    | none => rfl
    | some p => rw [rtk_some h2] at h; cases h
end Go.Proofs.YtmeekjfnmdbnpaaDoor
