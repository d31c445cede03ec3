/- The document's way of reading a number, plain: it is the number of which this is the text; no condition. -/
import Derived.Test.YtmeekjfnmdbnpaaDoorPl
namespace Go.Proofs.YtmeekjfnmdbnpaaDoor
open Go.Lib

def bodyN (s : Bs) : Bs := if s.head? = some 45 then s.drop 1 else s
def badN (s : Bs) : Prop := (bodyN s).length = 0 ∨ 18 < (bodyN s).length ∨ ((bodyN s).head? = some 48 ∧ 1 < s.length)
instance (s : Bs) : Decidable (badN s) := by unfold badN; infer_instance
def numN (s : Bs) : Int := if (bodyN s).length < s.length then -(val10 (bodyN s) : Int) else (val10 (bodyN s) : Int)
def nrF (s : Bs) : Option Int := if badN s then none else if (bodyN s).all digB = true then some (numN s) else none
theorem body_neg (d : Bs) : bodyN (45 :: d) = d := rfl
theorem body_pos (s : Bs) (h : s.head? ≠ some 45) : bodyN s = s := by unfold bodyN; rw [if_neg h]
theorem nrF_some {s : Bs} {n : Int} (h : nrF s = some n) : rn s = some n := by
  unfold nrF at h
  split at h
  · cases h
  · rename_i hb
    split at h
    · rename_i hd
      obtain rfl := Option.some.inj h
      have hdg : ∀ c ∈ bodyN s, digB c = true := List.all_eq_true.1 hd
      have h0 : bodyN s ≠ [] := fun e => hb (.inl (by rw [e]; rfl))
      have h18 : (bodyN s).length ≤ 18 := by
        rcases Nat.lt_or_ge 18 (bodyN s).length with h | h
        · exact absurd (.inr (.inl h)) hb
        · exact h
      have hv := val_lt (bodyN s) hdg
      have hp : (10 : Nat) ^ (bodyN s).length ≤ 10 ^ 18 := Nat.pow_le_pow_right (by decide) h18
      have e18 : (10 : Nat) ^ 18 = 1000000000000000000 := by decide
      rw [rn_iff]
      by_cases hm : s.head? = some 45
      · obtain ⟨d, rfl⟩ : ∃ d, s = 45 :: d := by
          cases s with
          | nil => cases hm
          | cons a d => exact ⟨d, by simp at hm; rw [hm]⟩
        rw [body_neg] at *
        have hl : d.head? ≠ some 48 := fun e => hb (.inr (.inr ⟨e, by
          cases d with
          | nil => exact absurd rfl h0
          | cons a q => simp⟩))
        have hdec := dec_of _ d rfl h0 hdg (.inl hl)
        have hpos : 1 ≤ val10 d := by
          rcases Nat.eq_zero_or_pos (val10 d) with e | e
          · rw [e] at hdec
            rw [← hdec, dec_small (by decide)] at hl
            exact absurd rfl hl
          · exact e
        have e1 : numN (45 :: d) = -(val10 d : Int) := by
          unfold numN
          rw [body_neg, if_pos (by simp)]
        rw [e1, itoa_neg _ hpos, hdec]
        exact ⟨rfl, by omega⟩
      · have hbd := body_pos s hm
        rw [hbd] at hdg h0 h18 hv hp
        have hl : Lead s := by
          by_cases e : s.head? = some 48
          · right
            have h1 : ¬ 1 < s.length := fun h1 => hb (.inr (.inr ⟨by rw [hbd]; exact e, h1⟩))
            cases s with
            | nil => cases e
            | cons a q =>
              simp at e h1
              rw [e, h1]
          · exact .inl e
        have hdec := dec_of _ s rfl h0 hdg hl
        have e1 : numN s = (val10 s : Int) := by
          unfold numN
          rw [hbd, if_neg (by omega)]
        rw [e1, itoa_nonneg, hdec]
        exact ⟨rfl, by omega⟩
    · cases h
theorem nrF_of {s : Bs} {n : Int} (h : rn s = some n) : nrF s = some n := by
  obtain ⟨rfl, hb⟩ := (rn_iff _ _).1 h
  have e18 : (10 : Nat) ^ 18 = 1000000000000000000 := by decide
  have hlen : (decDigits n.natAbs).length ≤ 18 := dec_len_le _ 18 (by omega) (by decide)
  have hne := dec_ne n.natAbs
  have hdg := dec_dig n.natAbs
  have hld := dec_lead n.natAbs
  have hval := dec_val n.natAbs
  by_cases hn : n < 0
  · obtain ⟨u, rfl⟩ : ∃ u : Nat, n = -(u : Int) := ⟨n.natAbs, by omega⟩
    rw [show (-(u : Int)).natAbs = u by omega] at *
    rw [itoa_neg u (by omega)]
    have hnb : ¬ badN (45 :: decDigits u) := by
      unfold badN
      rw [body_neg]
      rintro (h | h | h)
      · exact hne (List.length_eq_zero_iff.1 h)
      · omega
      · exact hld.2 (by omega) h.1
    unfold nrF
    rw [if_neg hnb, body_neg, if_pos (List.all_eq_true.2 hdg)]
    unfold numN
    rw [body_neg, if_pos (by simp), hval]
  · obtain ⟨u, rfl⟩ : ∃ u : Nat, n = (u : Int) := ⟨n.toNat, by omega⟩
    rw [show ((u : Int)).natAbs = u by omega] at *
    rw [itoa_nonneg]
    have hh : (decDigits u).head? ≠ some 45 := by
      intro e
      have := (dig_iff 45).1 (hdg 45 (List.mem_of_head? e))
      exact absurd this.1 (by decide)
    have hbd := body_pos _ hh
    have hnb : ¬ badN (decDigits u) := by
      unfold badN
      rw [hbd]
      rintro (h | h | h)
      · exact hne (List.length_eq_zero_iff.1 h)
      · omega
      · rcases hld.1 with h2 | h2
        · exact h2 h.1
        · rw [h2] at h
          simp at h
    unfold nrF
    rw [if_neg hnb, hbd, if_pos (List.all_eq_true.2 hdg)]
    unfold numN
    rw [hbd, if_neg (by omega), hval]
theorem nrF_rn (s : Bs) : nrF s = rn s := by
  cases h : rn s with
  | some n => exact nrF_of h
  | none =>
    cases h2 : nrF s with
    | none => rfl
    | some n => rw [nrF_some h2] at h; cases h
end Go.Proofs.YtmeekjfnmdbnpaaDoor
