/- Texts of this proof, one behind the other: what each says stands ahead of it. -/
import Derived.Test.YtffjkceedbblgaaGreatDoorM4
import Derived.Test.YtffjkceedbblgaaGreatDoorM3
import Derived.Test.YtffjkceedbblgaaGreatDoorM1
import Derived.BigQuiet
import Derived.OwnWalk
/- Plain facts: codes are none the beginning of another one's, and fill the room; bits the other way round; no condition beside those told. -/
namespace Go.Proofs.YtffjkceedbblgaaGreatDoor

/-! ### Bits the other way round -/
theorem rev_alt (x : Nat) : ∀ n, rev x (n + 1) = (x % 2) * 2 ^ n + rev (x / 2) n
  | 0 => by simp [rev]
  | n + 1 => by
    have h := rev_alt x n
    rw [rev, h]
    conv => rhs; rw [rev]
    rw [Nat.div_div_eq_div_mul, ← Nat.pow_succ', Nat.pow_succ]
    generalize x / 2 ^ (n + 1) % 2 = b
    generalize rev (x / 2) n = r
    generalize 2 ^ n = q
    rw [Nat.mul_add, ← Nat.mul_assoc, ← Nat.mul_assoc, Nat.mul_comm 2 (x % 2), Nat.mul_assoc, Nat.mul_assoc, Nat.mul_comm q 2]
    omega

theorem rev_rev (x : Nat) : ∀ n, rev (rev x n) n = x % 2 ^ n
  | 0 => by simp [rev, Nat.mod_one]
  | n + 1 => by
    rw [rev_alt (rev x (n + 1)) n]
    have h1 : rev x (n + 1) % 2 = x / 2 ^ n % 2 := by rw [rev]; omega
    have h2 : rev x (n + 1) / 2 = rev x n := by rw [rev]; omega
    rw [h1, h2, rev_rev x n, Nat.pow_succ, Nat.mod_mul, Nat.mul_comm (2 ^ n)]
    omega

theorem rev_div (x : Nat) (n : Nat) : ∀ k, rev x (n + k) / 2 ^ k = rev x n
  | 0 => by simp
  | k + 1 => by
    rw [← Nat.add_assoc, Nat.pow_succ', ← Nat.div_div_eq_div_mul, rev, show (2 * rev x (n + k) + x / 2 ^ (n + k) % 2) / 2 = rev x (n + k) by omega]
    exact rev_div x n k

theorem rev_mod (k : Nat) : ∀ d x, rev x (k + d) % 2 ^ k = rev (x / 2 ^ d) k
  | 0, x => by rw [Nat.add_zero, Nat.pow_zero, Nat.div_one, Nat.mod_eq_of_lt (rev_lt x k)]
  | d + 1, x => by
    rw [← Nat.add_assoc, rev_alt, Nat.pow_add, Nat.mul_comm (2 ^ k), ← Nat.mul_assoc, Nat.add_comm, Nat.add_mul_mod_self_right]
    rw [rev_mod k d (x / 2), Nat.div_div_eq_div_mul, ← Nat.pow_succ']

theorem rev_inj {x y n : Nat} (hx : x < 2 ^ n) (hy : y < 2 ^ n) (h : rev x n = rev y n) : x = y := by
  have := congrArg (fun z => rev z n) h
  simp only [rev_rev] at this
  rwa [Nat.mod_eq_of_lt hx, Nat.mod_eq_of_lt hy] at this

/-! ### Where a code begins in the room -/
theorem firsts_room (c : Nat → Nat) : ∀ n, n ≤ 15 → firsts c n * 2 ^ (15 - n) = roomTo c n
  | 0, _ => by simp [firsts, roomTo]
  | n + 1, h => by
    have ih := firsts_room c n (by omega)
    have e : 15 - n = (15 - (n + 1)) + 1 := by omega
    rw [firsts, roomTo, ← ih]
    rw [e, Nat.pow_succ]
    generalize 2 ^ (15 - (n + 1)) = q
    rw [Nat.mul_assoc, Nat.mul_comm 2 q, Nat.add_mul]

theorem roomTo_mono (c : Nat → Nat) (n : Nat) : ∀ d, roomTo c n ≤ roomTo c (n + d)
  | 0 => Nat.le_refl _
  | d + 1 => by have := roomTo_mono c n d; rw [← Nat.add_assoc, roomTo]; omega

theorem cntTo_mono (f : Nat → Nat) (n i : Nat) : ∀ d, cntTo f n i ≤ cntTo f n (i + d)
  | 0 => Nat.le_refl _
  | d + 1 => by have := cntTo_mono f n i d; rw [← Nat.add_assoc, cntTo]; omega
theorem cntTo_lt (f : Nat → Nat) (n : Nat) {i j : Nat} (h : i < j) (e : f i = n) : cntTo f n i + 1 ≤ cntTo f n j := by
  have := cntTo_mono f n (i + 1) (j - (i + 1))
  rw [show i + 1 + (j - (i + 1)) = j by omega, cntTo, if_pos e] at this
  exact this

/-- Where the code of symbol i begins. -/
def startOf (f : Nat → Nat) (len i : Nat) : Nat := codeOf (cOf f len) f i * 2 ^ (15 - f i)

theorem start_eq (f : Nat → Nat) (len i : Nat) (h0 : f i ≠ 0) (h15 : f i ≤ 15) : startOf f len i = roomTo (cOf f len) (f i) + cntTo f (f i) i * 2 ^ (15 - f i) := by
  unfold startOf codeOf
  rw [if_neg h0, Nat.add_mul, firsts_room _ _ h15]

theorem end_le (f : Nat → Nat) (len i : Nat) (hi : i < len) (h0 : f i ≠ 0) (h15 : f i ≤ 15) : startOf f len i + 2 ^ (15 - f i) ≤ roomTo (cOf f len) (f i + 1) := by
  rw [start_eq f len i h0 h15, roomTo]
  have h1 := cntTo_lt f (f i) hi rfl
  have h2 : cOf f len (f i) = cntTo f (f i) len := by unfold cOf; rw [if_neg h0]
  rw [h2]
  have h3 : (cntTo f (f i) i + 1) * 2 ^ (15 - f i) ≤ cntTo f (f i) len * 2 ^ (15 - f i) := Nat.mul_le_mul_right _ h1
  rw [Nat.add_mul, Nat.one_mul] at h3
  omega

/-- Of two symbols the one that is ahead ends where the other one begins, or before. -/
theorem ahead (f : Nat → Nat) (len i j : Nat) (hi : i < len) (hi0 : f i ≠ 0) (hj0 : f j ≠ 0) (hi15 : f i ≤ 15) (hj15 : f j ≤ 15) (h : f i < f j ∨ (f i = f j ∧ i < j)) : startOf f len i + 2 ^ (15 - f i) ≤ startOf f len j := by
  rcases h with h | ⟨h, hlt⟩
  · have h1 := end_le f len i hi hi0 hi15
    have h2 := roomTo_mono (cOf f len) (f i + 1) (f j - (f i + 1))
    rw [show f i + 1 + (f j - (f i + 1)) = f j by omega] at h2
    have h3 := start_eq f len j hj0 hj15
    omega
  · rw [start_eq f len i hi0 hi15, start_eq f len j hj0 hj15, ← h]
    have h1 := cntTo_lt f (f i) hlt rfl
    have h3 : (cntTo f (f i) i + 1) * 2 ^ (15 - f i) ≤ cntTo f (f i) j * 2 ^ (15 - f i) := Nat.mul_le_mul_right _ h1
    rw [Nat.add_mul, Nat.one_mul] at h3
    omega

theorem code_lt (f : Nat → Nat) (hf : ∀ i, f i ≤ 15) (len i : Nat) (hi : i < len) (h0 : f i ≠ 0) (hr : rm f len ≤ 2 ^ 15) : codeOf (cOf f len) f i < 2 ^ f i := by
  have h1 := end_le f len i hi h0 (hf i)
  have h2 := roomTo_mono (cOf f len) (f i + 1) (16 - (f i + 1))
  have h15 := hf i
  rw [show f i + 1 + (16 - (f i + 1)) = 16 by omega, (room_eq f hf len).1] at h2
  unfold startOf at h1
  have h3 : (codeOf (cOf f len) f i + 1) * 2 ^ (15 - f i) ≤ 2 ^ f i * 2 ^ (15 - f i) := by
    rw [← Nat.pow_add, show f i + (15 - f i) = 15 by omega, Nat.add_mul, Nat.one_mul]
    omega
  have := Nat.le_of_mul_le_mul_right h3 (Nat.pow_pos (by decide))
  omega

/-- The bits of symbol i, as a reader tells them. -/
def pathOf (f : Nat → Nat) (len i : Nat) : Nat := rev (codeOf (cOf f len) f i) (f i)

theorem sym_of (f : Nat → Nat) (hf : ∀ i, f i ≤ 15) (len : Nat) (hr : rm f len ≤ 2 ^ 15) : Tb.Sym (fun i => i < len ∧ f i ≠ 0) f (pathOf f len) := by
  refine ⟨fun i h => ⟨by have := h.2; omega, hf i⟩, fun i h => rev_lt _ _, ?_⟩
  intro i j hi hj hle e
  obtain ⟨hi, hi0⟩ := hi
  obtain ⟨hj, hj0⟩ := hj
  have c1 := code_lt f hf len i hi hi0 hr
  have c2 := code_lt f hf len j hj hj0 hr
  unfold pathOf at e
  rw [show f j = f i + (f j - f i) by omega, rev_mod] at e
  have c3 : codeOf (cOf f len) f j / 2 ^ (f j - f i) < 2 ^ f i := by
    apply Nat.div_lt_of_lt_mul
    rw [← Nat.pow_add, show f j - f i + f i = f j by omega]
    exact c2
  have e2 := rev_inj c3 c1 e
  -- the one's code begins within the other's
  have s1 : startOf f len i ≤ startOf f len j ∧ startOf f len j < startOf f len i + 2 ^ (15 - f i) := by
    unfold startOf
    have h15 := hf j
    have ed : 2 ^ (15 - f i) = 2 ^ (f j - f i) * 2 ^ (15 - f j) := by rw [← Nat.pow_add]; congr 1; omega
    rw [← e2, ed, ← Nat.mul_assoc]
    have d1 := Nat.div_mul_le_self (codeOf (cOf f len) f j) (2 ^ (f j - f i))
    have d2 := Nat.lt_div_mul_add (a := codeOf (cOf f len) f j) (Nat.pow_pos (n := f j - f i) (show 0 < 2 by decide))
    constructor
    · exact Nat.mul_le_mul_right _ d1
    · rw [← Nat.add_mul]
      exact Nat.mul_lt_mul_of_pos_right d2 (Nat.pow_pos (by decide))
  by_cases h : i = j
  · exact h
  · exfalso
    rcases Nat.lt_or_ge (f i) (f j) with hlt | hge
    · have := ahead f len i j hi hi0 hj0 (hf i) (hf j) (.inl hlt); omega
    · have he : f i = f j := by omega
      rcases Nat.lt_or_ge i j with h2 | h2
      · have := ahead f len i j hi hi0 hj0 (hf i) (hf j) (.inr ⟨he, h2⟩); omega
      · have := ahead f len j i hj hj0 hi0 (hf j) (hf i) (.inr ⟨he.symm, by omega⟩)
        rw [← he] at this
        have := Nat.pow_pos (n := 15 - f i) (show 0 < 2 by decide)
        omega

/-! ### Where the room is full, every row of bits begins with a code -/
theorem room_at (c : Nat → Nat) (V : Nat) : ∀ N, V < roomTo c N → ∃ n, n < N ∧ roomTo c n ≤ V ∧ V < roomTo c (n + 1)
  | 0, h => by simp [roomTo] at h
  | N + 1, h => by
    by_cases e : V < roomTo c N
    · obtain ⟨n, h1, h2⟩ := room_at c V N e
      exact ⟨n, by omega, h2⟩
    · exact ⟨N, by omega, by omega, h⟩
theorem cnt_at (f : Nat → Nat) (n q : Nat) : ∀ N, q < cntTo f n N → ∃ i, i < N ∧ f i = n ∧ cntTo f n i = q
  | 0, h => by simp [cntTo] at h
  | N + 1, h => by
    by_cases e : q < cntTo f n N
    · obtain ⟨i, h1, h2⟩ := cnt_at f n q N e
      exact ⟨i, by omega, h2⟩
    · rw [cntTo] at h
      by_cases e2 : f N = n
      · rw [if_pos e2] at h
        exact ⟨N, by omega, e2, by omega⟩
      · rw [if_neg e2] at h
        omega

theorem full (f : Nat → Nat) (hf : ∀ i, f i ≤ 15) (len : Nat) (hr : rm f len = 2 ^ 15) (p : Nat) : ∃ i, (i < len ∧ f i ≠ 0) ∧ p % 2 ^ f i = pathOf f len i := by
  have hV : rev p 15 < roomTo (cOf f len) 16 := by
    rw [(room_eq f hf len).1, hr]
    exact rev_lt p 15
  obtain ⟨n, hn, h1, h2⟩ := room_at _ _ 16 hV
  rw [roomTo] at h2
  have hn0 : n ≠ 0 := by
    rintro rfl
    have : cOf f len 0 = 0 := by unfold cOf; rw [if_pos rfl]
    rw [this] at h2
    omega
  have hc : cOf f len n = cntTo f n len := by unfold cOf; rw [if_neg hn0]
  rw [hc] at h2
  have hq : (rev p 15 - roomTo (cOf f len) n) / 2 ^ (15 - n) < cntTo f n len := by
    apply Nat.div_lt_of_lt_mul
    rw [Nat.mul_comm]
    omega
  obtain ⟨i, hi, e1, e2⟩ := cnt_at f n _ len hq
  refine ⟨i, ⟨hi, by omega⟩, ?_⟩
  have hcode : codeOf (cOf f len) f i = rev p n := by
    unfold codeOf
    rw [e1, if_neg hn0, e2]
    have hd := rev_div p n (15 - n)
    rw [show n + (15 - n) = 15 by omega] at hd
    rw [← hd]
    have hfr := firsts_room (cOf f len) n (by omega)
    generalize rev p 15 = V at *
    generalize 2 ^ (15 - n) = Q at *
    rw [← hfr] at h1 ⊢
    have : V = (V - firsts (cOf f len) n * Q) + Q * firsts (cOf f len) n := by rw [Nat.mul_comm Q]; omega
    by_cases hQ : Q = 0
    · subst hQ; omega
    · conv => rhs; rw [this, Nat.add_mul_div_left _ _ (by omega)]
      omega
  unfold pathOf
  rw [hcode, e1, rev_rev]

/-- Of two symbols the one that is ahead has the lesser code, padded to the greater length. -/
theorem code_ahead (f : Nat → Nat) (hf : ∀ i, f i ≤ 15) (len i j : Nat) (hi : i < len) (hi0 : f i ≠ 0) (hj0 : f j ≠ 0) (h : f i < f j ∨ (f i = f j ∧ i < j)) : (codeOf (cOf f len) f i + 1) * 2 ^ (f j - f i) ≤ codeOf (cOf f len) f j := by
  have h1 := ahead f len i j hi hi0 hj0 (hf i) (hf j) h
  unfold startOf at h1
  have hi15 := hf i
  have hj15 := hf j
  have hle : f i ≤ f j := by rcases h with h | h <;> omega
  have e : 2 ^ (15 - f i) = 2 ^ (f j - f i) * 2 ^ (15 - f j) := by rw [← Nat.pow_add]; congr 1; omega
  have h3 : (codeOf (cOf f len) f i + 1) * 2 ^ (f j - f i) * 2 ^ (15 - f j) ≤ codeOf (cOf f len) f j * 2 ^ (15 - f j) := by
    rw [Nat.mul_assoc, ← e, Nat.add_mul, Nat.one_mul]
    exact h1
  exact Nat.le_of_mul_le_mul_right h3 (Nat.pow_pos (by decide))

/-- One code alone, of one bit: its bit is nought. -/
theorem used_zero (f : Nat → Nat) : ∀ k, usedTo f k = 0 → ∀ i, i < k → f i = 0
  | 0, _ => fun i h => by omega
  | k + 1, h => by
    rw [usedTo] at h
    intro i hi
    by_cases e : f k = 0
    · by_cases e2 : i = k
      · rw [e2]; exact e
      · exact used_zero f k (by omega) i (by omega)
    · rw [if_neg e] at h; omega
theorem used_one (f : Nat → Nat) : ∀ k, usedTo f k = 1 → ∃ m, m < k ∧ f m ≠ 0 ∧ rm f k = 2 ^ (15 - f m) ∧ ∀ i, i < k → f i ≠ 0 → i = m
  | 0, h => by simp [usedTo] at h
  | k + 1, h => by
    rw [usedTo] at h
    by_cases e : f k = 0
    · obtain ⟨m, h1, h2, h3, h4⟩ := used_one f k (by rw [if_pos e] at h; omega)
      refine ⟨m, by omega, h2, by rw [rm, if_pos e, h3]; rfl, fun i hi hne => ?_⟩
      by_cases e2 : i = k
      · subst e2; exact absurd e hne
      · exact h4 i (by omega) hne
    · rw [if_neg e] at h
      have hz := used_zero f k (by omega)
      have hr : ∀ j, j ≤ k → rm f j = 0 := by
        intro j
        induction j with
        | zero => intro _; rfl
        | succ j ih => intro hj; rw [rm, ih (by omega), if_pos (hz j (by omega))]
      refine ⟨k, by omega, e, by rw [rm, hr k (Nat.le_refl _), if_neg e, Nat.zero_add], fun i hi hne => ?_⟩
      by_cases e2 : i = k
      · exact e2
      · exact absurd (hz i (by omega)) hne

theorem half_path (f : Nat → Nat) (hf : ∀ i, f i ≤ 15) (len : Nat) (hu : usedTo f len = 1) (hr : rm f len = 16384) : ∃ m, m < len ∧ f m = 1 ∧ pathOf f len m = 0 ∧ ∀ i, i < len → f i ≠ 0 → i = m := by
  obtain ⟨m, h1, h2, h3, h4⟩ := used_one f len hu
  have hm := hf m
  have e : f m = 1 := (half_room (f m) (by omega)).1 (by rw [← h3]; exact hr)
  refine ⟨m, h1, e, ?_, h4⟩
  have hz : ∀ k, k ≤ m → cntTo f 1 k = 0 := by
    intro k
    induction k with
    | zero => intro _; rfl
    | succ k ih =>
      intro hk
      rw [cntTo, ih (by omega)]
      by_cases e2 : f k = 1
      · have := h4 k (by omega) (by omega); omega
      · rw [if_neg e2]
  have hc : codeOf (cOf f len) f m = 0 := by
    unfold codeOf
    rw [e, if_neg (by decide), hz m (Nat.le_refl _)]
    simp [firsts, cOf]
  unfold pathOf
  rw [e, rev, rev]
  omega

end Go.Proofs.YtffjkceedbblgaaGreatDoor

/- The document's answer: the next symbol of bits; conditions: at most 1024 lengths of at most 15, codes of at most 15 bits. -/
namespace Go.Proofs.YtffjkceedbblgaaGreatDoor
open Go.RowKit

theorem bitAt_past (s : ByteArray) (k : Nat) (h : s.size ≤ k / 8) : Bt.bitAt s k = false := by
  have : ¬ k / 8 < s.data.size := by have : s.data.size = s.size := rfl; omega
  unfold Bt.bitAt Bt.byteN Array.getD
  rw [dif_neg this]
  simp

theorem bit_here (s : ByteArray) (k : Nat) (h : k / 8 < s.size) : bits .and .i64 (wrap64 ((s[k / 8].toNat : Nat) : Int) / 2 ^ (k % 8)) 1 = (((Bt.bitAt s k).toNat : Nat) : Int) := by
  have hb := Bt.byteN_lt s (k / 8)
  rw [byte_get s _ h, i64_and1, show wrap64 ((Bt.byteN s (k / 8) : Nat) : Int) = ((Bt.byteN s (k / 8) : Nat) : Int) by unfold wrap64; omega]
  unfold Bt.bitAt
  rw [Bt.bit_toNat]
  simp

theorem rev_bit (c n j : Nat) (h : j < n) : rev c n / 2 ^ j % 2 = c / 2 ^ (n - 1 - j) % 2 := by
  have e : n = (n - j) + j := by omega
  have hd := rev_div c (n - j) j
  rw [← e] at hd
  rw [hd, show n - j = (n - 1 - j) + 1 by omega, rev]
  omega

/-- The first j bits from k on are path's. -/
def Like (s : ByteArray) (k path j : Nat) : Prop := Bt.rval s k j = path % 2 ^ j

theorem Like.zero (s : ByteArray) (k path : Nat) : Like s k path 0 := by unfold Like; rw [Bt.rval_zero, Nat.pow_zero, Nat.mod_one]
theorem like_succ (s : ByteArray) (k path j : Nat) (h : Like s k path j) : Like s k path (j + 1) ↔ (Bt.bitAt s (k + j)).toNat = path / 2 ^ j % 2 := by
  unfold Like at *
  rw [Bt.rval_add, Bt.rval_one, Nat.pow_succ, Nat.mod_mul, h]
  have hp : 0 < 2 ^ j := Nat.pow_pos (by decide)
  constructor
  · intro e
    exact Nat.eq_of_mul_eq_mul_left hp (by omega)
  · intro e
    rw [e]
theorem like_bit (s : ByteArray) (k c n j : Nat) (hj : j < n) (h : Like s k (rev c n) j) : ((((Bt.bitAt s (k + j)).toNat : Nat) : Int) == bits .and .i64 ((c : Int) / 2 ^ (n - 1 - j)) 1) = true ↔ Like s k (rev c n) (j + 1) := by
  rw [like_succ s k _ j h, rev_bit c n j hj, i64_and1, beq_iff_eq]
  have e : (c : Int) / 2 ^ (n - 1 - j) % 2 = ((c / 2 ^ (n - 1 - j) % 2 : Nat) : Int) := by simp
  rw [e]
  omega
theorem Like.less {s : ByteArray} {k path j i : Nat} (h : Like s k path j) (hi : i ≤ j) : Like s k path i := by
  unfold Like at *
  have e : j = i + (j - i) := by omega
  have h1 : Bt.rval s k j % 2 ^ i = path % 2 ^ j % 2 ^ i := by rw [h]
  rw [Tb.mod_mod hi] at h1
  rw [← h1]
  conv => rhs; rw [e]
  rw [Bt.rval_mod]

/-- All bits of symbol i are there; the bits that are there begin it. -/
def Full (f path : Nat → Nat) (s : ByteArray) (k i : Nat) : Prop := f i ≠ 0 ∧ k + f i ≤ 8 * s.size ∧ Like s k (path i) (f i)
def Begs (f path : Nat → Nat) (s : ByteArray) (k i : Nat) : Prop := f i ≠ 0 ∧ 8 * s.size < k + f i ∧ Like s k (path i) (8 * s.size - k)

/-- What the document answers. -/
def RefAns (f path : Nat → Nat) (len : Nat) (s : ByteArray) (k : Nat) (e : Ending) : Prop :=
  (∃ i, i < len ∧ Full f path s k i ∧ e = .returned (.tuple #[.int .i64 (i : Nat), .int .i64 (f i : Nat), .int .i64 0])) ∨
  ((∀ i, i < len → ¬ Full f path s k i) ∧ (∃ i, i < len ∧ Begs f path s k i) ∧ e = .returned (.tuple #[.int .i64 0, .int .i64 0, .int .i64 3])) ∨
  ((∀ i, i < len → ¬ Full f path s k i) ∧ (∀ i, i < len → ¬ Begs f path s k i) ∧ e = .returned (.tuple #[.int .i64 0, .int .i64 0, .int .i64 5]))

theorem some_skip {P : Nat → Prop} {j : Nat} {b : Bool} (h : b = true ↔ ∃ i, i < j ∧ P i) (hn : ¬ P j) : b = true ↔ ∃ i, i < j + 1 ∧ P i := by
  rw [h]
  constructor
  · rintro ⟨i, h1, h2⟩; exact ⟨i, by omega, h2⟩
  · rintro ⟨i, h1, h2⟩
    by_cases e : i = j
    · subst e; exact absurd h2 hn
    · exact ⟨i, by omega, h2⟩
theorem none_skip {P : Nat → Prop} {j : Nat} (h : ∀ i, i < j → ¬ P i) (hn : ¬ P j) : ∀ i, i < j + 1 → ¬ P i := by
  intro i hi
  by_cases e : i = j
  · subst e; exact hn
  · exact h i (by omega)

end Go.Proofs.YtffjkceedbblgaaGreatDoor

/- What Next answers is what the document answers; condition: the lengths make a table. -/
namespace Go.Proofs.YtffjkceedbblgaaGreatDoor
open Go.RowKit

/-- The symbols that have a code. -/
def Laid (f : Nat → Nat) (len i : Nat) : Prop := i < len ∧ f i ≠ 0

theorem err_ok {f : Nat → Nat} {len : Nat} (h : errOf f len = 0) : rm f len ≤ 2 ^ 15 ∧ (rm f len = 2 ^ 15 ∨ usedTo f len = 0 ∨ (usedTo f len = 1 ∧ rm f len = 16384)) := by
  unfold errOf at h
  rw [show (2 : Nat) ^ 15 = 32768 by rfl]
  by_cases a : 32768 < rm f len
  · rw [if_pos a] at h; omega
  · rw [if_neg a] at h
    by_cases b : rm f len < 32768 ∧ 0 < usedTo f len ∧ ¬ (usedTo f len = 1 ∧ rm f len = 16384)
    · rw [if_pos b] at h; omega
    · exact ⟨by omega, by omega⟩

/-- Bits that are there, as many as fifteen. -/
theorem rval_upto (s : ByteArray) (t m n : Nat) (h : n ≤ m) : Bt.rval s t m % 2 ^ n = Bt.rval s t n := by
  have e : m = n + (m - n) := by omega
  rw [e, Bt.rval_mod]

theorem full_fits {f path : Nat → Nat} {s : ByteArray} {t i : Nat} (h15 : f i ≤ 15) (hlt : path i < 2 ^ f i) (h : Full f path s t i) : Bt.rval s t (min 15 (8 * s.size - t)) % 2 ^ f i = path i := by
  obtain ⟨h0, h1, h2⟩ := h
  rw [rval_upto s t _ _ (by omega)]
  unfold Like at h2
  rw [h2, Nat.mod_eq_of_lt hlt]
theorem fits_full {f path : Nat → Nat} {s : ByteArray} {t i : Nat} (h15 : f i ≤ 15) (hlt : path i < 2 ^ f i) (h0 : f i ≠ 0) (h1 : t + f i ≤ 8 * s.size) (h : Bt.rval s t (min 15 (8 * s.size - t)) % 2 ^ f i = path i) : Full f path s t i := by
  refine ⟨h0, h1, ?_⟩
  rw [rval_upto s t _ _ (by omega)] at h
  unfold Like
  rw [h, Nat.mod_eq_of_lt hlt]
theorem fits_begs {f path : Nat → Nat} {s : ByteArray} {t i : Nat} (h15 : f i ≤ 15) (h0 : f i ≠ 0) (h1 : 8 * s.size < t + f i) (h : Bt.rval s t (min 15 (8 * s.size - t)) % 2 ^ f i = path i) : Begs f path s t i := by
  refine ⟨h0, h1, ?_⟩
  have e : min 15 (8 * s.size - t) = 8 * s.size - t := by omega
  rw [e] at h
  unfold Like
  rw [← h, Tb.mod_mod (by omega), Nat.mod_eq_of_lt (Bt.rval_lt s t _)]

theorem fits_one {f path : Nat → Nat} {laid : Nat → Prop} (hs : Tb.Sym laid f path) {p i j : Nat} (hi : laid i) (hj : laid j) (h1 : p % 2 ^ f i = path i) (h2 : p % 2 ^ f j = path j) : i = j := by
  rcases Nat.le_total (f i) (f j) with h | h
  · exact hs.apart i j hi hj h (by rw [← h2, Tb.mod_mod h]; exact h1)
  · exact (hs.apart j i hj hi h (by rw [← h1, Tb.mod_mod h]; exact h2)).symm

/-- The same symbol, as many bits, the same error. -/
def Both (s : ByteArray) (t r : Nat) (w : World) (e e' : Ending) (w' : World) (f : Nat → Nat) (len : Nat) : Prop :=
  (∃ i, Laid f len i ∧ t + f i ≤ 8 * s.size ∧ e = .returned (.tuple #[.int .i64 (i : Nat), .int .i64 0]) ∧ e' = .returned (.tuple #[.int .i64 (i : Nat), .int .i64 (f i : Nat), .int .i64 0]) ∧ RStep w w' r s (t + f i)) ∨
  (∃ g : Int, (g = 3 ∨ g = 5) ∧ e = .returned (.tuple #[.int .i64 0, .int .i64 g]) ∧ e' = .returned (.tuple #[.int .i64 0, .int .i64 0, .int .i64 g]) ∧ RStep w w' r s t)

theorem ans_same {f : Nat → Nat} {len : Nat} (hf : ∀ i, f i ≤ 15) (he : errOf f len = 0) {s : ByteArray} {t r : Nat} {w w' : World} {e e' : Ending} (ht : t ≤ 8 * s.size)
    (h : Answer (Laid f len) f (pathOf f len) (Bt.rval s t (min 15 (8 * s.size - t))) s t r w e w') (h' : RefAns f (pathOf f len) len s t e') : Both s t r w e e' w' f len := by
  obtain ⟨hr, hk⟩ := err_ok he
  have hs : Tb.Sym (Laid f len) f (pathOf f len) := sym_of f hf len hr
  rcases h with ⟨i, hi, hp, hl, h1, h2⟩ | ⟨i, hi, hp, hl, h1, h2⟩ | ⟨hn, h1, h2⟩
  · rcases h' with ⟨j, hj, hfu, h3⟩ | ⟨hno, _⟩ | ⟨hno, _⟩
    · obtain rfl := fits_one hs (j := i) (i := j) ⟨hj, hfu.1⟩ hi (full_fits (hf j) (hs.lt j ⟨hj, hfu.1⟩) hfu) hp
      exact .inl ⟨j, hi, hl, h1, h3, h2⟩
    · exact absurd (fits_full (hf i) (hs.lt i hi) hi.2 hl hp) (hno i hi.1)
    · exact absurd (fits_full (hf i) (hs.lt i hi) hi.2 hl hp) (hno i hi.1)
  · rcases h' with ⟨j, hj, hfu, h3⟩ | ⟨hno, _, h3⟩ | ⟨hno, hnb, _⟩
    · obtain rfl := fits_one hs (j := i) (i := j) ⟨hj, hfu.1⟩ hi (full_fits (hf j) (hs.lt j ⟨hj, hfu.1⟩) hfu) hp
      have := hfu.2.1
      omega
    · exact .inr ⟨3, .inl rfl, h1, h3, h2⟩
    · exact absurd (fits_begs (hf i) hi.2 hl hp) (hnb i hi.1)
  · rcases h' with ⟨j, hj, hfu, h3⟩ | ⟨hno, ⟨j, hj, hb⟩, h3⟩ | ⟨hno, hnb, h3⟩
    · exact absurd (full_fits (hf j) (hs.lt j ⟨hj, hfu.1⟩) hfu) (hn j ⟨hj, hfu.1⟩)
    · exfalso
      rcases hk with hk | hk | ⟨hk1, hk2⟩
      · obtain ⟨i, hi, hp⟩ := full f hf len hk (Bt.rval s t (min 15 (8 * s.size - t)))
        exact hn i hi hp
      · exact hb.1 (used_zero f len hk j hj)
      · obtain ⟨m, hm, h1m, hpm, hone⟩ := half_path f hf len hk1 hk2
        have hjm := hone j hj hb.1
        subst hjm
        have := hb.2.1
        have hz : 8 * s.size - t = 0 := by omega
        refine hn j ⟨hm, by omega⟩ ?_
        rw [hz, Nat.min_zero, Bt.rval_zero, hpm, Nat.zero_mod]
    · exact .inr ⟨5, .inr rfl, h1, h3, h2⟩

end Go.Proofs.YtffjkceedbblgaaGreatDoor

/- Length and Distance of any number, the program's and the document's. -/
namespace Go.Proofs.YtffjkceedbblgaaGreatDoor
open Go.RowKit

/-- How many bits more a length's symbol has; the least length. -/
def lb (s : Nat) : Nat := if s < 265 ∨ s = 285 then 0 else (s - 261) / 4
def ll : Nat → Nat
  | 0 => 3
  | s + 1 => ll s + 2 ^ lb (257 + s)
def lenN (s : Nat) : Nat := if s = 285 then 258 else ll (s - 257)
def db (s : Nat) : Nat := if s < 4 then 0 else s / 2 - 1
def dl : Nat → Nat
  | 0 => 1
  | s + 1 => dl s + 2 ^ db s

theorem len_out (x : Int) (w : World) (h : x < 257 ∨ 285 < x) : Calls Tryz.prog 81 #[.int .i64 x] w fun e w' => e = .returned (.tuple #[.int .i64 0, .int .i64 0, .bool false]) ∧ w' = w := by
  rcases h with h | h
  · go_enter Tryz.func81, Tryz.ntmps81
    go_wp2
    go_ret3
    exact ⟨rfl, rfl⟩
  · have h' : ¬ x < 257 := by omega
    go_enter Tryz.func81, Tryz.ntmps81
    go_wp2
    go_ret3
    exact ⟨rfl, rfl⟩

set_option maxRecDepth 10000 in
set_option maxHeartbeats 4000000 in
theorem len_in (x : Nat) (w : World) (h : 257 ≤ x) (h2 : x ≤ 285) : Calls Tryz.prog 81 #[.int .i64 (x : Nat)] w fun e w' => e = .returned (.tuple #[.int .i64 (lenN x : Nat), .int .i64 (lb x : Nat), .bool true]) ∧ w' = w := by
  have hx : x = 257 ∨ x = 258 ∨ x = 259 ∨ x = 260 ∨ x = 261 ∨ x = 262 ∨ x = 263 ∨ x = 264 ∨ x = 265 ∨ x = 266 ∨ x = 267 ∨ x = 268 ∨ x = 269 ∨ x = 270 ∨ x = 271 ∨ x = 272 ∨ x = 273 ∨ x = 274 ∨ x = 275 ∨ x = 276 ∨ x = 277 ∨ x = 278 ∨ x = 279 ∨ x = 280 ∨ x = 281 ∨ x = 282 ∨ x = 283 ∨ x = 284 ∨ x = 285 := by omega
  rcases hx with rfl | rfl | rfl | rfl | rfl | rfl | rfl | rfl | rfl | rfl | rfl | rfl | rfl | rfl | rfl | rfl | rfl | rfl | rfl | rfl | rfl | rfl | rfl | rfl | rfl | rfl | rfl | rfl | rfl
  all_goals
    go_enter Tryz.func81, Tryz.ntmps81
    go_wp2
    go_ret3
    exact ⟨rfl, rfl⟩

theorem dist_out (x : Int) (w : World) (h : x < 0 ∨ 30 ≤ x) : Calls Tryz.prog 82 #[.int .i64 x] w fun e w' => e = .returned (.tuple #[.int .i64 0, .int .i64 0, .bool false]) ∧ w' = w := by
  rcases h with h | h
  · go_enter Tryz.func82, Tryz.ntmps82
    go_wp2
    go_ret3
    exact ⟨rfl, rfl⟩
  · have h' : ¬ x < 0 := by omega
    go_enter Tryz.func82, Tryz.ntmps82
    go_wp2
    go_ret3
    exact ⟨rfl, rfl⟩

set_option maxRecDepth 10000 in
set_option maxHeartbeats 4000000 in
theorem dist_in (x : Nat) (w : World) (h2 : x ≤ 29) : Calls Tryz.prog 82 #[.int .i64 (x : Nat)] w fun e w' => e = .returned (.tuple #[.int .i64 (dl x : Nat), .int .i64 (db x : Nat), .bool true]) ∧ w' = w := by
  have hx : x = 0 ∨ x = 1 ∨ x = 2 ∨ x = 3 ∨ x = 4 ∨ x = 5 ∨ x = 6 ∨ x = 7 ∨ x = 8 ∨ x = 9 ∨ x = 10 ∨ x = 11 ∨ x = 12 ∨ x = 13 ∨ x = 14 ∨ x = 15 ∨ x = 16 ∨ x = 17 ∨ x = 18 ∨ x = 19 ∨ x = 20 ∨ x = 21 ∨ x = 22 ∨ x = 23 ∨ x = 24 ∨ x = 25 ∨ x = 26 ∨ x = 27 ∨ x = 28 ∨ x = 29 := by omega
  rcases hx with rfl | rfl | rfl | rfl | rfl | rfl | rfl | rfl | rfl | rfl | rfl | rfl | rfl | rfl | rfl | rfl | rfl | rfl | rfl | rfl | rfl | rfl | rfl | rfl | rfl | rfl | rfl | rfl | rfl | rfl
  all_goals
    go_enter Tryz.func82, Tryz.ntmps82
    go_wp2
    go_ret3
    exact ⟨rfl, rfl⟩
end Go.Proofs.YtffjkceedbblgaaGreatDoor
