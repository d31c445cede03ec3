/- Packed texts, plain: what a number's text is, what stands at the beginning of a packed text, and what a text is unpacked to; no condition. -/
import Derived.Lib.ItoaMem
import Derived.Lib.AtoiAll
namespace Go.Proofs.YtmeekjfnmdbnpaaDoor
open Go.Lib

abbrev Bs := List UInt8

/-! ### Numerals -/
def digB (c : UInt8) : Bool := 48 ≤ c.toNat && c.toNat ≤ 57
theorem dig_iff (c : UInt8) : digB c = true ↔ 48 ≤ c.toNat ∧ c.toNat ≤ 57 := by simp [digB]
def of10 (n : Nat) (c : UInt8) : Nat := 10 * n + (c.toNat - 48)
def val10 (cs : Bs) : Nat := cs.foldl of10 0
theorem val_snoc (cs : Bs) (c : UInt8) : val10 (cs ++ [c]) = 10 * val10 cs + (c.toNat - 48) := by
  unfold val10
  rw [List.foldl_append]
  rfl
theorem dig_nat (d : Nat) (h : d < 10) : (UInt8.ofNat (48 + d)).toNat = 48 + d := by
  rw [UInt8.toNat_ofNat']
  omega
theorem dec_small {u : Nat} (h : u < 10) : decDigits u = [UInt8.ofNat (48 + u)] := decDigits_one h
theorem dec_big {u : Nat} (h : ¬ u < 10) : decDigits u = decDigits (u / 10) ++ [UInt8.ofNat (48 + u % 10)] := by rw [decDigits, dif_neg h]
theorem dec_val : ∀ u : Nat, val10 (decDigits u) = u := by
  intro u
  induction u using Nat.strongRecOn with
  | _ u ih =>
    by_cases h : u < 10
    · rw [dec_small h]
      show 10 * 0 + _ = u
      rw [dig_nat u h]
      omega
    · rw [dec_big h, val_snoc, ih (u / 10) (by omega), dig_nat _ (Nat.mod_lt _ (by omega))]
      omega
theorem dec_dig : ∀ u : Nat, ∀ c ∈ decDigits u, digB c = true := by
  intro u
  induction u using Nat.strongRecOn with
  | _ u ih =>
    intro c hc
    by_cases h : u < 10
    · rw [dec_small h] at hc
      obtain rfl : c = UInt8.ofNat (48 + u) := by simpa using hc
      rw [dig_iff, dig_nat u h]
      omega
    · rw [dec_big h, List.mem_append] at hc
      rcases hc with hc | hc
      · exact ih (u / 10) (by omega) c hc
      · obtain rfl : c = UInt8.ofNat (48 + u % 10) := by simpa using hc
        rw [dig_iff, dig_nat _ (Nat.mod_lt _ (by omega))]
        have := Nat.mod_lt u (show 0 < 10 by omega)
        omega
theorem dec_ne (u : Nat) : decDigits u ≠ [] := by
  have := decDigits_length u
  have h := nDigits_pos u
  intro e
  rw [e] at this
  simp at this
  omega
/-- No nought stands ahead. -/
def Lead (cs : Bs) : Prop := cs.head? ≠ some 48 ∨ cs = [48]
theorem dec_lead : ∀ u : Nat, Lead (decDigits u) ∧ (0 < u → (decDigits u).head? ≠ some 48) := by
  intro u
  induction u using Nat.strongRecOn with
  | _ u ih =>
    by_cases h : u < 10
    · rw [dec_small h]
      have hn : 0 < u → ([UInt8.ofNat (48 + u)] : Bs).head? ≠ some 48 := by
        intro h0 e
        simp only [List.head?_cons, Option.some.injEq] at e
        have := congrArg UInt8.toNat e
        rw [dig_nat u h] at this
        have e48 : (48 : UInt8).toNat = 48 := rfl
        omega
      refine ⟨?_, hn⟩
      by_cases h0 : 0 < u
      · exact .inl (hn h0)
      · obtain rfl : u = 0 := by omega
        exact .inr rfl
    · have hp := (ih (u / 10) (by omega)).2 (by omega)
      have hh : (decDigits u).head? = (decDigits (u / 10)).head? := by
        rw [dec_big h]
        cases hd : decDigits (u / 10) with
        | nil => exact absurd hd (dec_ne _)
        | cons a t => rfl
      exact ⟨.inl (by rw [hh]; exact hp), fun _ => by rw [hh]; exact hp⟩
/-- Digits without noughts ahead are the numeral of what they tell. -/
theorem dec_of : ∀ (n : Nat) (cs : Bs), cs.length = n → cs ≠ [] → (∀ c ∈ cs, digB c = true) → Lead cs → decDigits (val10 cs) = cs := by
  intro n
  induction n with
  | zero => intro cs hl h0; exact absurd (List.length_eq_zero_iff.1 hl) h0
  | succ n ih =>
    intro cs hl h0 hd hlead
    obtain ⟨ds, c, rfl⟩ : ∃ ds c, cs = ds ++ [c] := ⟨cs.dropLast, cs.getLast h0, (List.dropLast_concat_getLast h0).symm⟩
    have hc := (dig_iff c).1 (hd c (by simp))
    rw [val_snoc]
    have hcd : UInt8.ofNat (48 + (c.toNat - 48)) = c := by
      rw [show 48 + (c.toNat - 48) = c.toNat by omega]
      exact UInt8.ofNat_toNat
    by_cases hds : ds = []
    · subst hds
      rw [show val10 [] = 0 from rfl, Nat.mul_zero, Nat.zero_add, dec_small (by omega), hcd]
      rfl
    · have hl2 : Lead ds ∧ ds.head? ≠ some 48 := by
        have hh : (ds ++ [c]).head? = ds.head? := by
          cases ds with
          | nil => exact absurd rfl hds
          | cons a t => rfl
        have : ds.head? ≠ some 48 := by
          rcases hlead with h | h
          · rw [hh] at h; exact h
          · have := congrArg List.length h
            cases ds with
            | nil => exact absurd rfl hds
            | cons a t => simp at this
        exact ⟨.inl this, this⟩
      have hds' : decDigits (val10 ds) = ds := ih ds (by simp at hl; omega) hds (fun x hx => hd x (by simp [hx])) hl2.1
      have hpos : 0 < val10 ds := by
        rcases Nat.eq_zero_or_pos (val10 ds) with e | e
        · rw [e] at hds'
          rw [← hds', dec_small (by omega)] at hl2
          exact absurd rfl hl2.2
        · exact e
      have hnb : ¬ 10 * val10 ds + (c.toNat - 48) < 10 := by omega
      rw [dec_big hnb, show (10 * val10 ds + (c.toNat - 48)) / 10 = val10 ds by omega, show (10 * val10 ds + (c.toNat - 48)) % 10 = c.toNat - 48 by omega, hcd, hds']
theorem val_lt : ∀ cs : Bs, (∀ c ∈ cs, digB c = true) → val10 cs < 10 ^ cs.length := by
  intro cs h
  have key : ∀ (cs : Bs) (a : Nat), (∀ c ∈ cs, digB c = true) → cs.foldl of10 a < (a + 1) * 10 ^ cs.length := by
    intro cs
    induction cs with
    | nil => intro a _; simp
    | cons c cs ih =>
      intro a h
      have hc := (dig_iff c).1 (h c (by simp))
      have h1 := ih (of10 a c) (fun x hx => h x (by simp [hx]))
      rw [List.foldl_cons, List.length_cons, Nat.pow_succ]
      have h2 : (of10 a c + 1) * 10 ^ cs.length ≤ ((a + 1) * 10) * 10 ^ cs.length := Nat.mul_le_mul_right _ (by unfold of10; omega)
      have h3 : (a + 1) * (10 ^ cs.length * 10) = ((a + 1) * 10) * 10 ^ cs.length := by
        rw [Nat.mul_assoc, Nat.mul_comm 10]
      omega
  have := key cs 0 h
  unfold val10
  omega
theorem dec_len_le (u k : Nat) (h : u < 10 ^ k) (hk : 1 ≤ k) : (decDigits u).length ≤ k := by
  rw [decDigits_length]
  rcases Nat.lt_or_ge k (nDigits u) with hlt | hge
  · exfalso
    have h1 : ∀ u : Nat, 2 ≤ nDigits u → 10 ^ (nDigits u - 1) ≤ u := by
      intro u
      induction u using Nat.strongRecOn with
      | _ u ih =>
        intro h2
        by_cases h9 : u < 10
        · rw [nDigits_small h9] at h2; omega
        · rw [nDigits_big h9, Nat.add_sub_cancel]
          by_cases h99 : 2 ≤ nDigits (u / 10)
          · have := ih (u / 10) (by omega) h99
            have e : 10 ^ nDigits (u / 10) = 10 ^ (nDigits (u / 10) - 1) * 10 := by
              rw [← Nat.pow_succ]
              congr 1
              omega
            rw [e]
            omega
          · have h1 := nDigits_pos (u / 10)
            rw [show nDigits (u / 10) = 1 by omega]
            omega
    have h2 := h1 u (by omega)
    have h3 : 10 ^ k ≤ 10 ^ (nDigits u - 1) := Nat.pow_le_pow_right (by omega) (by omega)
    omega
  · exact hge

/-! ### What Atoi tells of a numeral -/
theorem puint_dig : ∀ (cs : Bs) (a : Nat), (∀ c ∈ cs, digB c = true) → cs.foldl of10 a < 18446744073709551616 → parseUint10 a cs = .ok (cs.foldl of10 a)
  | [], a, _, _ => rfl
  | c :: cs, a, h, hb => by
    have hc := (dig_iff c).1 (h c (by simp))
    have hmono : ∀ (cs : Bs) (a : Nat), a ≤ cs.foldl of10 a := by
      intro cs
      induction cs with
      | nil => intro a; exact Nat.le_refl _
      | cons c cs ih =>
        intro a
        rw [List.foldl_cons]
        have := ih (of10 a c)
        have h2 : a ≤ of10 a c := by unfold of10; omega
        omega
    rw [List.foldl_cons] at hb ⊢
    have hm := hmono cs (of10 a c)
    have e : of10 a c = a * 10 + (c.toNat - 48) := by unfold of10; omega
    have ih := puint_dig cs (of10 a c) (fun x hx => h x (by simp [hx])) hb
    rw [parseUint10, if_pos hc, if_neg (by omega), if_neg (by omega), ← e, ih]
theorem pmag_dec (u : Nat) (h : u < 18446744073709551616) : parseMag (decDigits u) = .ok u := by
  unfold parseMag
  rw [if_neg (dec_ne u)]
  have hv := dec_val u
  unfold val10 at hv
  rw [puint_dig _ 0 (dec_dig u) (by rw [hv]; exact h), hv]
theorem atoi_itoa (n : Int) (h0 : -9223372036854775808 ≤ n) (h1 : n ≤ 9223372036854775807) : atoiAll (itoa n) = .ok n := by
  by_cases hn : n < 0
  · obtain ⟨u, rfl⟩ : ∃ u : Nat, n = -(u : Int) := ⟨n.natAbs, by omega⟩
    rw [itoa_neg u (by omega)]
    unfold atoiAll
    dsimp only
    rw [if_pos (.inr rfl), pmag_dec u (by omega)]
    dsimp only
    rw [if_neg (by intro h; exact h.1 rfl), if_neg (by omega), if_pos (by rfl)]
  · obtain ⟨u, rfl⟩ : ∃ u : Nat, n = (u : Int) := ⟨n.toNat, by omega⟩
    rw [itoa_nonneg u]
    have hd := dec_dig u
    have hp := pmag_dec u (by omega)
    cases hc : decDigits u with
    | nil => exact absurd hc (dec_ne u)
    | cons c r =>
      rw [hc] at hd hp
      have hcd := (dig_iff c).1 (hd c (by simp))
      unfold atoiAll
      dsimp only
      rw [if_neg (by omega), hp]
      dsimp only
      rw [if_neg (by omega), if_neg (by omega), if_neg (by omega)]

/-! ### readNumber -/
def trimM (cs : Bs) : Bs := if ([45] : Bs).isPrefixOf cs = true then cs.drop 1 else cs
/-- The number of which this is the text. -/
def rn (cs : Bs) : Option Int :=
  if 18 < (trimM cs).length then none
  else match atoiAll cs with
    | .ok n => if itoa n = cs then some n else none
    | .syntax => none
    | .range => none
theorem trim_itoa (n : Int) : trimM (itoa n) = decDigits n.natAbs := by
  by_cases hn : n < 0
  · obtain ⟨u, rfl⟩ : ∃ u : Nat, n = -(u : Int) := ⟨n.natAbs, by omega⟩
    rw [itoa_neg u (by omega), show (-(u : Int)).natAbs = u by omega]
    rfl
  · obtain ⟨u, rfl⟩ : ∃ u : Nat, n = (u : Int) := ⟨n.toNat, by omega⟩
    rw [itoa_nonneg u, show ((u : Int)).natAbs = u by omega]
    have hd := dec_dig u
    cases hc : decDigits u with
    | nil => rfl
    | cons c r =>
      rw [hc] at hd
      have hcd := (dig_iff c).1 (hd c (by simp))
      unfold trimM
      rw [if_neg]
      intro e
      have : (45 : UInt8) = c := by simpa using e
      subst this
      exact absurd hcd.1 (by decide)
theorem rn_iff (cs : Bs) (n : Int) : rn cs = some n ↔ cs = itoa n ∧ n.natAbs < 1000000000000000000 := by
  constructor
  · intro h
    unfold rn at h
    split at h
    · cases h
    · rename_i hl
      split at h
      · rename_i m hm
        split at h
        · rename_i he
          obtain rfl : m = n := Option.some.inj h
          subst he
          refine ⟨rfl, ?_⟩
          rw [trim_itoa] at hl
          have := lt_pow_nDigits m.natAbs
          rw [decDigits_length] at hl
          have h3 : 10 ^ nDigits m.natAbs ≤ 10 ^ 18 := Nat.pow_le_pow_right (by decide) (by omega)
          have e : (10 : Nat) ^ 18 = 1000000000000000000 := by decide
          omega
        · cases h
      · cases h
      · cases h
  · rintro ⟨rfl, h⟩
    unfold rn
    have e : (10 : Nat) ^ 18 = 1000000000000000000 := by decide
    rw [trim_itoa, if_neg (by have := dec_len_le n.natAbs 18 (by omega) (by decide); omega), atoi_itoa n (by omega) (by omega)]
    dsimp only
    rw [if_pos rfl]

/-! ### A packed text at the beginning -/
def pk (t : Bs) : Bs := decDigits t.length ++ 58 :: (t ++ [44])
def packL : List Bs → Bs
  | [] => []
  | t :: l => if 9999999 < t.length then [] else pk t ++ packL l
def idxOf (c : UInt8) : Bs → Option Nat
  | [] => none
  | x :: cs => if x = c then some 0 else (idxOf c cs).map (· + 1)
def cutD (s : Bs) : Bs := match idxOf 58 s with
  | some i => s.take i
  | none => s
def cutR (s : Bs) : Bs := match idxOf 58 s with
  | some i => s.drop (i + 1)
  | none => []
/-- What stands at the beginning: a text, and what is behind it. -/
def tk (s : Bs) : Option (Bs × Bs) :=
  match rn (cutD s) with
  | none => none
  | some n => if n < 0 ∨ 9999999 < n ∨ ((cutR s).length : Int) < n then none
    else if ([44] : Bs).isPrefixOf ((cutR s).drop n.toNat) = true then some ((cutR s).take n.toNat, (cutR s).drop (n.toNat + 1)) else none
theorem idx_app (c : UInt8) : ∀ (a b : Bs), (∀ x ∈ a, x ≠ c) → idxOf c (a ++ c :: b) = some a.length
  | [], b, _ => by
    show (if c = c then some 0 else _) = _
    rw [if_pos rfl]
    rfl
  | x :: a, b, h => by
    show (if x = c then some 0 else (idxOf c (a ++ c :: b)).map (· + 1)) = _
    rw [if_neg (h x (by simp)), idx_app c a b (fun y hy => h y (by simp [hy]))]
    rfl
theorem idx_some (c : UInt8) : ∀ (s : Bs) (i : Nat), idxOf c s = some i → s = s.take i ++ c :: s.drop (i + 1) ∧ i < s.length
  | [], i, h => by cases h
  | x :: s, i, h => by
    unfold idxOf at h
    split at h
    · rename_i hx
      obtain rfl : 0 = i := Option.some.inj h
      subst hx
      exact ⟨rfl, by simp⟩
    · cases hi : idxOf c s with
      | none => rw [hi] at h; cases h
      | some j =>
        rw [hi] at h
        obtain rfl : j + 1 = i := Option.some.inj h
        obtain ⟨h1, h2⟩ := idx_some c s j hi
        refine ⟨?_, by simp; omega⟩
        rw [List.take_succ_cons, List.drop_succ_cons, List.cons_append, ← h1]
theorem dec_no (u : Nat) : ∀ x ∈ decDigits u, x ≠ 58 := by
  intro x hx e
  subst e
  have := (dig_iff 58).1 (dec_dig u 58 hx)
  exact absurd this.2 (by decide)
theorem tk_pk (t r : Bs) (h : t.length ≤ 9999999) : tk (pk t ++ r) = some (t, r) := by
  have e : pk t ++ r = decDigits t.length ++ 58 :: (t ++ 44 :: r) := by simp [pk]
  have hi := idx_app 58 (decDigits t.length) (t ++ 44 :: r) (dec_no _)
  have hD : cutD (pk t ++ r) = itoa (t.length : Int) := by
    unfold cutD
    rw [e, hi, itoa_nonneg]
    exact List.take_left' rfl
  have hR : cutR (pk t ++ r) = t ++ 44 :: r := by
    unfold cutR
    rw [e, hi]
    show List.drop ((decDigits t.length).length + 1) _ = _
    rw [← List.drop_drop, List.drop_left' rfl]
    rfl
  unfold tk
  rw [hD, (rn_iff _ _).2 ⟨rfl, by omega⟩, hR]
  dsimp only
  rw [if_neg (by simp; omega), Int.toNat_natCast, List.drop_left' rfl, if_pos (by simp [List.isPrefixOf]), List.take_left' rfl, ← List.drop_drop, List.drop_left' rfl]
  rfl
theorem tk_some {s t r : Bs} (h : tk s = some (t, r)) : s = pk t ++ r ∧ t.length ≤ 9999999 := by
  unfold tk at h
  split at h
  · cases h
  · rename_i n hn
    obtain ⟨hD, hb⟩ := (rn_iff _ _).1 hn
    split at h
    · cases h
    · rename_i hc
      split at h
      · rename_i hp
        obtain ⟨rfl, rfl⟩ : (cutR s).take n.toNat = t ∧ (cutR s).drop (n.toNat + 1) = r := by
          have := Option.some.inj h
          exact ⟨congrArg Prod.fst this, congrArg Prod.snd this⟩
        have hlen : ((cutR s).take n.toNat).length = n.toNat := by
          rw [List.length_take]
          omega
        refine ⟨?_, by rw [hlen]; omega⟩
        have hR : cutR s ≠ [] := by
          intro e
          rw [e, List.drop_nil] at hp
          cases hp
        cases hi : idxOf 58 s with
        | none =>
          exfalso
          apply hR
          unfold cutR
          rw [hi]
        | some i =>
          obtain ⟨h1, h2⟩ := idx_some 58 s i hi
          have eD : cutD s = s.take i := by unfold cutD; rw [hi]
          have eR : cutR s = s.drop (i + 1) := by unfold cutR; rw [hi]
          rw [← eD, ← eR, hD] at h1
          have hp2 : (cutR s).drop n.toNat = 44 :: (cutR s).drop (n.toNat + 1) := by
            cases hd : (cutR s).drop n.toNat with
            | nil => rw [hd] at hp; cases hp
            | cons a q =>
              rw [hd] at hp
              have : (44 : UInt8) = a := by simpa using hp
              rw [← List.drop_drop, hd, this]
              rfl
          unfold pk
          rw [hlen]
          obtain ⟨u, rfl⟩ : ∃ u : Nat, n = (u : Int) := ⟨n.toNat, by omega⟩
          rw [itoa_nonneg] at h1
          rw [Int.toNat_natCast] at hp2 ⊢
          conv => lhs; rw [h1]
          simp only [List.append_assoc, List.cons_append, List.nil_append]
          congr 2
          conv => lhs; rw [← List.take_append_drop u (cutR s), hp2]
      · cases h
theorem tk_iff (s t r : Bs) : tk s = some (t, r) ↔ s = pk t ++ r ∧ t.length ≤ 9999999 :=
  ⟨tk_some, fun ⟨h1, h2⟩ => by rw [h1]; exact tk_pk t r h2⟩
theorem pk_len (t : Bs) : (pk t).length = (decDigits t.length).length + t.length + 2 := by
  unfold pk
  simp
  omega
theorem pk_pos (t : Bs) : 3 ≤ (pk t).length := by
  rw [pk_len, decDigits_length]
  have := nDigits_pos t.length
  omega
theorem tk_less {s t r : Bs} (h : tk s = some (t, r)) : r.length + 3 ≤ s.length := by
  obtain ⟨h1, _⟩ := tk_some h
  have := pk_pos t
  rw [h1, List.length_append]
  omega
theorem tk_eq {s t r : Bs} (h : tk s = some (t, r)) : s.length = (pk t).length + r.length := by
  obtain ⟨h1, _⟩ := tk_some h
  rw [h1, List.length_append]

/-! ### A text, unpacked -/
/-- The texts; or where what isn't one begins. -/
def unF : Nat → Nat → Bs → Except Nat (List Bs)
  | 0, a, _ => .error a
  | f + 1, a, s => if s = [] then .ok [] else match tk s with
    | none => .error a
    | some (t, r) => match unF f (a + (pk t).length) r with
      | .ok l => .ok (t :: l)
      | .error p => .error p
def un (s : Bs) : Except Nat (List Bs) := unF (s.length + 1) 0 s
theorem unF_fuel : ∀ (f g a : Nat) (s : Bs), s.length < f → s.length < g → unF f a s = unF g a s
  | 0, g, a, s, hf, _ => by omega
  | f + 1, 0, a, s, _, hg => by omega
  | f + 1, g + 1, a, s, hf, hg => by
    rw [unF, unF]
    by_cases h0 : s = []
    · rw [if_pos h0, if_pos h0]
    · rw [if_neg h0, if_neg h0]
      cases hk : tk s with
      | none => rfl
      | some p =>
        obtain ⟨t, r⟩ := p
        have := tk_less hk
        dsimp only
        rw [unF_fuel f g _ r (by omega) (by omega)]
def pks (l : List Bs) : Bs := l.flatMap pk
theorem unF_app : ∀ (l : List Bs) (f a : Nat) (r : Bs), (∀ t ∈ l, t.length ≤ 9999999) → (pks l ++ r).length < f →
    unF f a (pks l ++ r) = match unF f (a + (pks l).length) r with | .ok m => .ok (l ++ m) | .error p => .error p
  | [], f, a, r, _, _ => by
    show unF f a r = match unF f (a + 0) r with | .ok m => .ok ([] ++ m) | .error p => .error p
    rw [Nat.add_zero]
    cases unF f a r <;> rfl
  | t :: l, 0, a, r, _, hf => by omega
  | t :: l, f + 1, a, r, h, hf => by
    have e : pks (t :: l) ++ r = pk t ++ (pks l ++ r) := by simp [pks]
    have hp := pk_pos t
    rw [e, List.length_append] at hf
    have ih := unF_app l f (a + (pk t).length) r (fun x hx => h x (by simp [hx])) (by omega)
    have hr : r.length < f := by rw [List.length_append] at hf; omega
    have hne : pk t ++ (pks l ++ r) ≠ [] := by
      intro e0
      have := congrArg List.length e0
      rw [List.length_append, List.length_nil] at this
      omega
    rw [e, unF, if_neg hne, tk_pk t _ (h t (by simp))]
    dsimp only
    rw [ih, show (pks (t :: l)).length = (pk t).length + (pks l).length by simp [pks], ← Nat.add_assoc, unF_fuel f (f + 1) _ r hr (by omega)]
    cases unF (f + 1) (a + (pk t).length + (pks l).length) r <;> rfl
theorem un_pks (l : List Bs) (h : ∀ t ∈ l, t.length ≤ 9999999) : un (pks l) = .ok l := by
  have := unF_app l ((pks l).length + 1) 0 [] h (by rw [List.append_nil]; omega)
  rw [List.append_nil] at this
  unfold un
  rw [this, unF, if_pos rfl]
  show Except.ok (l ++ []) = _
  rw [List.append_nil]
theorem un_app_bad (l : List Bs) (r : Bs) (h : ∀ t ∈ l, t.length ≤ 9999999) (h0 : r ≠ []) (hr : tk r = none) : un (pks l ++ r) = .error (pks l).length := by
  have := unF_app l ((pks l ++ r).length + 1) 0 r h (by omega)
  unfold un
  rw [this, unF, if_neg h0, hr, Nat.zero_add]
/-- What a text is unpacked to. -/
theorem un_ok : ∀ (f a : Nat) (s : Bs) (l : List Bs), unF f a s = .ok l → s = pks l ∧ ∀ t ∈ l, t.length ≤ 9999999
  | 0, a, s, l, h => by cases h
  | f + 1, a, s, l, h => by
    rw [unF] at h
    split at h
    · rename_i h0
      injection h with h
      subst h
      exact ⟨h0, by simp⟩
    · split at h
      · cases h
      · rename_i t r hk
        split at h
        · rename_i m hm
          injection h with h
          subst h
          obtain ⟨h1, h2⟩ := un_ok f _ r m hm
          obtain ⟨h3, h4⟩ := tk_some hk
          refine ⟨by rw [h3, h1]; simp [pks], ?_⟩
          intro x hx
          rcases List.mem_cons.1 hx with rfl | hx
          · exact h4
          · exact h2 x hx
        · cases h
end Go.Proofs.YtmeekjfnmdbnpaaDoor
