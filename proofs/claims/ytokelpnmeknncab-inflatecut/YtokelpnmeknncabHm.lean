/- Plain facts on canonical codes: how many codes of each length there are, the room they take, the next code; no condition. -/
import Derived.Test.YtokelpnmeknncabCo
namespace Go.Proofs.Ytokelpnmeknncab

/-- How many codes of each length the first k lengths make. -/
def cOf (f : Nat → Nat) (k n : Nat) : Nat := if n = 0 then 0 else cntTo f n k

theorem cOf_le (f : Nat → Nat) (k n : Nat) : cOf f k n ≤ k := by
  unfold cOf
  split
  · omega
  · exact cntTo_le f n k

/-- The room of the first k lengths; how many of them have a code. -/
def rm (f : Nat → Nat) : Nat → Nat
  | 0 => 0
  | k + 1 => rm f k + (if f k = 0 then 0 else 2 ^ (15 - f k))
def usedTo (f : Nat → Nat) : Nat → Nat
  | 0 => 0
  | k + 1 => usedTo f k + (if f k = 0 then 0 else 1)

theorem roomTo_add (c : Nat → Nat) (m : Nat) : ∀ K, roomTo (fun n => c n + (if n = m then 1 else 0)) K = roomTo c K + (if m < K then 2 ^ (15 - m) else 0)
  | 0 => by simp [roomTo]
  | K + 1 => by
    simp only [roomTo, roomTo_add c m K]
    by_cases e : K = m
    · subst e
      simp [Nat.add_mul]
      omega
    · rw [if_neg e, Nat.add_zero]
      by_cases e2 : m < K
      · rw [if_pos e2, if_pos (by omega)]; omega
      · rw [if_neg e2, if_neg (by omega)]; omega
theorem sumTo_add (c : Nat → Nat) (m : Nat) : ∀ K, sumTo (fun n => c n + (if n = m then 1 else 0)) K = sumTo c K + (if m < K then 1 else 0)
  | 0 => by simp [sumTo]
  | K + 1 => by
    simp only [sumTo, sumTo_add c m K]
    by_cases e : K = m
    · subst e
      simp
      omega
    · rw [if_neg e]
      by_cases e2 : m < K
      · rw [if_pos e2, if_pos (by omega)]; omega
      · rw [if_neg e2, if_neg (by omega)]; omega

theorem cOf_succ (f : Nat → Nat) (k : Nat) (h : f k ≠ 0) : cOf f (k + 1) = fun n => cOf f k n + (if n = f k then 1 else 0) := by
  funext n
  unfold cOf
  by_cases e : n = 0
  · subst e
    rw [if_pos rfl, if_pos rfl, if_neg (fun h' => h h'.symm)]
  · rw [if_neg e, if_neg e, cntTo]
    by_cases e2 : f k = n
    · rw [if_pos e2, if_pos e2.symm]
    · rw [if_neg e2, if_neg (fun h' => e2 h'.symm)]
theorem cOf_skip (f : Nat → Nat) (k : Nat) (h : f k = 0) : cOf f (k + 1) = cOf f k := by
  funext n
  unfold cOf
  by_cases e : n = 0
  · rw [if_pos e, if_pos e]
  · rw [if_neg e, if_neg e, cntTo, if_neg (by omega), Nat.add_zero]

theorem room_eq (f : Nat → Nat) (hf : ∀ i, f i ≤ 15) : ∀ k, roomTo (cOf f k) 16 = rm f k ∧ sumTo (cOf f k) 16 = usedTo f k
  | 0 => by
    have : cOf f 0 = fun _ => 0 := by funext n; unfold cOf cntTo; split <;> rfl
    rw [this]
    exact ⟨rfl, rfl⟩
  | k + 1 => by
    obtain ⟨h1, h2⟩ := room_eq f hf k
    simp only [rm, usedTo]
    by_cases e : f k = 0
    · rw [cOf_skip f k e, if_pos e, if_pos e]
      exact ⟨h1, h2⟩
    · rw [cOf_succ f k e, roomTo_add, sumTo_add, if_neg e, if_neg e, h1, h2]
      have := hf k
      rw [if_pos (by omega), if_pos (by omega)]
      exact ⟨rfl, rfl⟩

theorem rm_le' (f : Nat → Nat) (P : Nat) (hP : ∀ m, 2 ^ (15 - m) ≤ P) : ∀ k, rm f k ≤ k * P
  | 0 => by simp [rm]
  | k + 1 => by
    have h1 := rm_le' f P hP k
    have h2 := hP (f k)
    rw [rm, Nat.add_mul, Nat.one_mul]
    by_cases e : f k = 0
    · rw [if_pos e]; omega
    · rw [if_neg e]; omega
theorem rm_le (f : Nat → Nat) (k : Nat) : rm f k ≤ k * 32768 :=
  rm_le' f 32768 (fun m => Nat.le_trans (Nat.pow_le_pow_right (by decide) (Nat.sub_le 15 m)) (by decide)) k
theorem used_le (f : Nat → Nat) : ∀ k, usedTo f k ≤ k
  | 0 => by simp [usedTo]
  | k + 1 => by have := used_le f k; simp only [usedTo]; split <;> omega

theorem sum_zero (c : Nat → Nat) : ∀ K, sumTo c K = 0 → roomTo c K = 0 ∧ ∀ j, j < K → c j = 0
  | 0, _ => ⟨rfl, fun _ h => by omega⟩
  | K + 1, h => by
    rw [sumTo] at h
    obtain ⟨h1, h2⟩ := sum_zero c K (by omega)
    have hk : c K = 0 := by omega
    refine ⟨by rw [roomTo, h1, hk]; simp, fun j hj => ?_⟩
    by_cases e : j = K
    · rw [e]; exact hk
    · exact h2 j (by omega)

theorem sum_one (c : Nat → Nat) : ∀ K, sumTo c K = 1 → ∃ m, m < K ∧ c m = 1 ∧ roomTo c K = 2 ^ (15 - m) ∧ ∀ j, j < K → j ≠ m → c j = 0
  | 0, h => by simp [sumTo] at h
  | K + 1, h => by
    rw [sumTo] at h
    by_cases e : c K = 0
    · obtain ⟨m, hm, h1, h2, h3⟩ := sum_one c K (by omega)
      refine ⟨m, by omega, h1, by rw [roomTo, h2, e]; simp, fun j hj hne => ?_⟩
      by_cases e2 : j = K
      · rw [e2]; exact e
      · exact h3 j (by omega) hne
    · obtain ⟨h1, h2⟩ := sum_zero c K (by omega)
      have hk : c K = 1 := by omega
      exact ⟨K, by omega, hk, by rw [roomTo, h1, hk]; simp, fun j hj hne => h2 j (by omega)⟩

theorem half_room : ∀ m, m < 16 → (2 ^ (15 - m) = 16384 ↔ m = 1) := by decide

/-- One code alone takes half of the room just where it has one bit. -/
theorem one_bit (c : Nat → Nat) (h : sumTo c 16 = 1) : roomTo c 16 = 16384 ↔ c 1 = 1 := by
  obtain ⟨m, hm, h1, h2, h3⟩ := sum_one c 16 h
  rw [h2, half_room m hm]
  constructor
  · rintro rfl; exact h1
  · intro e
    by_cases e2 : 1 = m
    · exact e2.symm
    · have := h3 1 (by omega) e2; omega

/-- The same error by the room and by the number of codes. -/
def errOf (f : Nat → Nat) (len : Nat) : Nat := if 32768 < rm f len then 6 else if rm f len < 32768 ∧ 0 < usedTo f len ∧ ¬ (usedTo f len = 1 ∧ rm f len = 16384) then 7 else 0

theorem err_eq (f : Nat → Nat) (hf : ∀ i, f i ≤ 15) (len : Nat) : roomErr (cOf f len) = errOf f len := by
  obtain ⟨h1, h2⟩ := room_eq f hf len
  have h3 := one_bit (cOf f len)
  unfold roomErr errOf
  rw [h1, h2] at *
  by_cases a : 32768 < rm f len
  · rw [if_pos a, if_pos a]
  · rw [if_neg a, if_neg a]
    by_cases b : rm f len = 32768
    · rw [if_pos (.inl b), if_neg (by omega)]
    · by_cases c : usedTo f len = 0
      · rw [if_pos (.inr (.inl c)), if_neg (by omega)]
      · by_cases d : usedTo f len = 1
        · have h3 := h3 d
          by_cases e : cOf f len 1 = 1
          · rw [if_pos (.inr (.inr ⟨d, e⟩)), if_neg (fun h => h.2.2 ⟨d, h3.2 e⟩)]
          · rw [if_neg (by omega), if_pos ⟨by omega, by omega, fun h => e (h3.1 h.2)⟩]
        · rw [if_neg (by omega), if_pos ⟨by omega, by omega, fun h => d h.1⟩]

/-- The next code of length n, where the last one given is code, of length last. -/
def Nx (c f : Nat → Nat) (n s code last : Nat) : Prop :=
  last ≤ n ∧ (last = 0 → code = 0) ∧ firsts c n + cntTo f n s = (if last = 0 then 0 else (code + 1) * 2 ^ (n - last))

theorem Nx.start (c f : Nat → Nat) (h : c 0 = 0) : Nx c f 1 0 0 0 := ⟨by omega, fun _ => rfl, by simp [firsts, cntTo, h]⟩
theorem Nx.skip {c f : Nat → Nat} {n s code last : Nat} (h : Nx c f n s code last) (e : f s ≠ n) : Nx c f n (s + 1) code last := by
  obtain ⟨h1, h2, h3⟩ := h
  exact ⟨h1, h2, by rw [cntTo, if_neg e, Nat.add_zero]; exact h3⟩
theorem Nx.give {c f : Nat → Nat} {n s code last : Nat} (h : Nx c f n s code last) (e : f s = n) (hn : n ≠ 0) : codeOf c f s = (if last = 0 then 0 else (code + 1) * 2 ^ (n - last)) ∧ Nx c f n (s + 1) (codeOf c f s) n := by
  obtain ⟨h1, h2, h3⟩ := h
  have hc : codeOf c f s = firsts c n + cntTo f n s := by unfold codeOf; rw [e, if_neg hn]
  refine ⟨by rw [hc]; exact h3, Nat.le_refl _, fun h => absurd h hn, ?_⟩
  rw [cntTo, if_pos e, if_neg hn, hc, Nat.sub_self]
  omega
theorem Nx.next {f : Nat → Nat} {n len code last : Nat} (h : Nx (cOf f len) f n len code last) (hn : n ≠ 0) : Nx (cOf f len) f (n + 1) 0 code last := by
  obtain ⟨h1, h2, h3⟩ := h
  refine ⟨by omega, h2, ?_⟩
  have hc : cOf f len n = cntTo f n len := by unfold cOf; rw [if_neg hn]
  simp only [firsts, cntTo, Nat.add_zero]
  rw [hc, h3]
  by_cases e : last = 0
  · rw [if_pos e, if_pos e]
  · rw [if_neg e, if_neg e, show n + 1 - last = (n - last) + 1 by omega, Nat.pow_succ, Nat.mul_assoc]

end Go.Proofs.Ytokelpnmeknncab
