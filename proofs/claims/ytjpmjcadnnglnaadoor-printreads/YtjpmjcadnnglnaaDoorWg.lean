/- JSON, plain: what a text in quotes tells, by the document's steps, is what it tells by the program's; no condition. -/
import Derived.Test.YtjpmjcadnnglnaaDoorWf
namespace Go.Proofs.YtjpmjcadnnglnaaDoor
open Go.RowKit
open Go.Lib

theorem ustep_ok {s : ByteArray} {p x u : Nat} (h : uStep s p = .ok (x, u)) : p + 4 ≤ u ∧ u ≤ s.size := by
  unfold uStep at h
  split at h
  · cases h
  · rename_i a v hv
    have h1 := unitE_ok hv
    split at h
    · split at h
      · cases h
      · rename_i c v2 hv2
        have h2 := unitE_ok hv2
        split at h
        · simp only [Except.ok.injEq, Prod.mk.injEq] at h
          omega
        · simp only [Except.ok.injEq, Prod.mk.injEq] at h
          omega
    · simp only [Except.ok.injEq, Prod.mk.injEq] at h
      omega
theorem td_fuel (s : ByteArray) : ∀ (k k' t : Nat) (out : Bs), t ≤ s.size → s.size + 1 ≤ t + k → s.size + 1 ≤ t + k' → tdF s k t out = tdF s k' t out
  | 0, k', t, out, h1, h2, h3 => by omega
  | k + 1, 0, t, out, h1, h2, h3 => by omega
  | k + 1, k' + 1, t, out, h1, h2, h3 => by
    rw [tdF, tdF]
    split
    · rfl
    split
    · rfl
    rename_i n32
    have hlt : t < s.size := lk_in2 (by omega)
    split
    · split
      · split
        · rfl
        · rename_i x u hu
          have := ustep_ok hu
          exact td_fuel s k k' u _ (by omega) (by omega) (by omega)
      · split
        · rename_i c hc
          have : t + 1 < s.size := lk_in2 (by
            intro e
            rw [e] at hc
            unfold letB at hc
            rw [if_pos rfl] at hc
            cases hc)
          exact td_fuel s k k' (t + 2) _ (by omega) (by omega) (by omega)
        · rfl
    · exact td_fuel s k k' (t + 1) _ (by omega) (by omega) (by omega)
theorem us_acc (s : ByteArray) : ∀ (f t : Nat) (us0 : List Nat), usF s f t us0 = match usF s f t [] with
    | .error e => .error e
    | .ok (us, u) => .ok (us0 ++ us, u)
  | 0, t, us0 => by
    rw [usF, usF]
    simp
  | f + 1, t, us0 => by
    rw [usF, usF]
    split
    · split
      · rfl
      · rename_i n v hv
        rw [us_acc s f v (us0 ++ [n]), us_acc s f v ([] ++ [n])]
        cases usF s f v [] with
        | error e => rfl
        | ok p => simp
    · simp
theorem us_step {s : ByteArray} {f t n u : Nat} (h : isU s t = true) (hv : unitE s (t + 2) = .ok (n, u)) : usF s (f + 1) t [] = match usF s f u [] with
    | .error e => .error e
    | .ok (us, v) => .ok (n :: us, v) := by
  rw [usF, if_pos h, hv]
  simp only
  rw [us_acc]
  rfl
theorem us_none {s : ByteArray} {f t : Nat} (h : ¬ isU s t = true) : usF s f t [] = .ok ([], t) := by
  match f with
  | 0 => rw [usF]
  | f + 1 => rw [usF, if_neg h]
theorem us_bad {s : ByteArray} {f t e : Nat} (h : isU s t = true) (hv : unitE s (t + 2) = .error e) : usF s (f + 1) t [] = .error e := by
  rw [usF, if_pos h, hv]
/-- What is told of a row of numbers. -/
def RunIs (s : ByteArray) (k t : Nat) (out : Bs) : Except Nat (List Nat × Nat) → Prop
  | .error e => tdF s k t out = .error e
  | .ok (us, u) => t ≤ u ∧ u ≤ s.size ∧ tdF s k t out = tdF s k u (out ++ (suL us).flatMap ub)
theorem td_u {s : ByteArray} {k t : Nat} {out : Bs} (h : isU s t = true) : tdF s (k + 1) t out = match uStep s (t + 2) with
    | .error e => .error e
    | .ok (x, u) => tdF s k u (out ++ ub x) := by
  obtain ⟨h1, h2, _, _⟩ := isU_iff h
  rw [tdF, if_neg (by rw [h1]; decide), if_neg (by rw [h1]; decide), if_pos h1, if_pos h2]
  rfl
theorem suL_cons {a : Nat} {us : List Nat} (h : ∀ c, us.head? = some c → ¬ (hiB a ∧ loB c)) : suL (a :: us) = lone a :: suL us := by
  match us with
  | [] => rfl
  | c :: us => rw [suL, if_neg (h c rfl)]
theorem run_is (s : ByteArray) : ∀ (m f : Nat), f ≤ m → ∀ (t k : Nat) (out : Bs), t ≤ s.size → s.size ≤ t + f → s.size + 1 ≤ t + k → RunIs s k t out (usF s f t [])
  | 0, f, hm, t, k, out, h1, h2, h3 => by
    obtain rfl : f = 0 := by omega
    rw [usF]
    exact ⟨Nat.le_refl _, h1, by simp [suL]⟩
  | m + 1, f, hm, t, k, out, h1, h2, h3 => by
    by_cases hu : isU s t = true
    · obtain ⟨_, _, hsz, _⟩ := isU_iff hu
      obtain ⟨f1, rfl⟩ : ∃ f1, f = f1 + 1 := ⟨f - 1, by omega⟩
      obtain ⟨k1, rfl⟩ : ∃ k1, k = k1 + 1 := ⟨k - 1, by omega⟩
      cases hv : unitE s (t + 2) with
      | error e =>
        rw [us_bad hu hv]
        show tdF s (k1 + 1) t out = .error e
        rw [td_u hu]
        unfold uStep
        rw [hv]
      | ok p =>
        obtain ⟨a, u⟩ := p
        have hk := unitE_ok hv
        obtain rfl : u = t + 6 := by omega
        rw [us_step hu hv]
        have IH := fun o => run_is s m f1 (by omega) (t + 6) k1 o (by omega) (by omega) (by omega)
        by_cases hh : hiB a ∧ isU s (t + 6) = true
        · obtain ⟨hhi, hu2⟩ := hh
          obtain ⟨_, _, hsz2, _⟩ := isU_iff hu2
          obtain ⟨f2, rfl⟩ : ∃ f2, f1 = f2 + 1 := ⟨f1 - 1, by omega⟩
          have hlone : lone a = 65533 := if_pos (by unfold hiB at hhi; omega)
          cases hv2 : unitE s (t + 8) with
          | error e =>
            rw [us_bad hu2 hv2]
            show tdF s (k1 + 1) t out = .error e
            rw [td_u hu]
            unfold uStep
            rw [hv]
            simp only
            rw [if_pos ⟨hhi, hu2⟩, hv2]
          | ok p2 =>
            obtain ⟨c, u2⟩ := p2
            have hk2 := unitE_ok hv2
            obtain rfl : u2 = t + 12 := by omega
            have hstep : tdF s (k1 + 1) t out = if loB c then tdF s k1 (t + 12) (out ++ ub (joinU a c)) else tdF s k1 (t + 6) (out ++ ub 65533) := by
              rw [td_u hu]
              unfold uStep
              rw [hv]
              simp only
              rw [if_pos ⟨hhi, hu2⟩, hv2]
              simp only
              by_cases hl : loB c
              · rw [if_pos hl, if_pos hl]
              · rw [if_neg hl, if_neg hl]
            have IH2 := fun o => run_is s m f2 (by omega) (t + 12) k1 o (by omega) (by omega) (by omega)
            rw [us_step hu2 hv2] at IH ⊢
            by_cases hlo : loB c
            · rw [if_pos hlo] at hstep
              have I := IH2 (out ++ ub (joinU a c))
              cases hr : usF s f2 (t + 12) [] with
              | error e =>
                rw [hr] at I
                show tdF s (k1 + 1) t out = .error e
                rw [hstep]
                exact I
              | ok q =>
                obtain ⟨us, v⟩ := q
                rw [hr] at I
                obtain ⟨i1, i2, i3⟩ := I
                refine ⟨by omega, i2, ?_⟩
                rw [hstep, i3, suL, if_pos ⟨hhi, hlo⟩, List.flatMap_cons, List.append_assoc]
                exact td_fuel s _ _ _ _ i2 (by omega) (by omega)
            · rw [if_neg hlo] at hstep
              have I := IH (out ++ ub 65533)
              cases hr : usF s f2 (t + 12) [] with
              | error e =>
                rw [hr] at I
                show tdF s (k1 + 1) t out = .error e
                rw [hstep]
                exact I
              | ok q =>
                obtain ⟨us, v⟩ := q
                rw [hr] at I
                obtain ⟨i1, i2, i3⟩ := I
                refine ⟨by omega, i2, ?_⟩
                rw [hstep, i3, suL_cons (us := c :: us) (fun c' e => by cases e; exact fun x => hlo x.2), hlone, List.flatMap_cons, List.append_assoc]
                exact td_fuel s _ _ _ _ i2 (by omega) (by omega)
        · have hstep : tdF s (k1 + 1) t out = tdF s k1 (t + 6) (out ++ ub (lone a)) := by
            rw [td_u hu]
            unfold uStep
            rw [hv]
            simp only
            rw [if_neg hh]
          have I := IH (out ++ ub (lone a))
          cases hr : usF s f1 (t + 6) [] with
          | error e =>
            rw [hr] at I
            show tdF s (k1 + 1) t out = .error e
            rw [hstep]
            exact I
          | ok q =>
            obtain ⟨us, v⟩ := q
            rw [hr] at I
            obtain ⟨i1, i2, i3⟩ := I
            refine ⟨by omega, i2, ?_⟩
            rw [hstep, i3, suL_cons (fun c e x => by
              apply hh
              refine ⟨x.1, ?_⟩
              by_cases hu2 : isU s (t + 6) = true
              · exact hu2
              · rw [us_none hu2] at hr
                cases hr
                cases e), List.flatMap_cons, List.append_assoc]
            exact td_fuel s _ _ _ _ i2 (by omega) (by omega)
    · rw [us_none hu]
      exact ⟨Nat.le_refl _, h1, by simp [suL]⟩
/-- Both ways tell the same. -/
theorem qd_td (s : ByteArray) : ∀ (k t : Nat) (out : Bs), t ≤ s.size → s.size + 1 ≤ t + k → qdF s k t out = tdF s k t out
  | 0, t, out, h1, h2 => by omega
  | k + 1, t, out, h1, h2 => by
    rw [qdF]
    by_cases hq : lk s t = 34
    · rw [if_pos hq, tdF, if_pos hq]
    rw [if_neg hq]
    by_cases h32 : lk s t < 32
    · rw [if_pos h32, tdF, if_neg hq, if_pos h32]
    rw [if_neg h32]
    have hlt : t < s.size := lk_in2 (by omega)
    by_cases h92 : lk s t = 92
    · rw [if_pos h92]
      unfold escE
      by_cases hu : isU s t = true
      · rw [if_pos hu]
        have R := run_is s s.size s.size (Nat.le_refl _) t (k + 1) out h1 (by omega) h2
        unfold usE
        cases hr : usF s s.size t [] with
        | error e =>
          rw [hr] at R
          exact R.symm
        | ok p =>
          obtain ⟨us, u⟩ := p
          rw [hr] at R
          obtain ⟨r1, r2, r3⟩ := R
          have hus := us_lt s s.size t [] us u hr (fun x hx => by simp at hx)
          have hgt : t < u := by
            have := (usF_ok s s.size t [] us u h1 hr).1
            obtain ⟨f1, hf1⟩ : ∃ f1, s.size = f1 + 1 := ⟨s.size - 1, by omega⟩
            rw [hf1] at hr
            cases hv : unitE s (t + 2) with
            | error e => rw [us_bad hu hv] at hr; cases hr
            | ok q =>
              obtain ⟨n, v⟩ := q
              rw [us_step hu hv] at hr
              cases hr2 : usF s f1 v [] with
              | error e => rw [hr2] at hr; cases hr
              | ok q2 =>
                obtain ⟨us2, v2⟩ := q2
                rw [hr2] at hr
                cases hr
                simp only [List.length_nil, List.length_cons] at this
                omega
          simp only
          rw [qd_td s k u _ r2 (by omega), r3, su_is us hus]
          exact td_fuel s _ _ _ _ r2 (by omega) (by omega)
      · rw [if_neg hu]
        have h117 : ¬ lk s (t + 1) = 117 := by
          intro e
          apply hu
          unfold isU
          rw [decide_eq_true h92, decide_eq_true e]
          rfl
        rw [tdF, if_neg hq, if_neg h32, if_pos h92, if_neg h117]
        cases hl : letB (lk s (t + 1)) with
        | none => rfl
        | some c =>
          have : t + 1 < s.size := lk_in2 (by
            intro e
            rw [e] at hl
            unfold letB at hl
            rw [if_pos rfl] at hl
            cases hl)
          exact qd_td s k (t + 2) _ (by omega) (by omega)
    · rw [if_neg h92, tdF, if_neg hq, if_neg h32, if_neg h92]
      exact qd_td s k (t + 1) _ (by omega) (by omega)
theorem quot_quot2 (s : ByteArray) (t : Nat) (ht : t ≤ s.size) : quotE s t = quot2 s t := by
  unfold quotE quot2
  cases hn : needE s [34] t with
  | error e => rfl
  | ok u =>
    have := need_ok s [34] t u ht hn
    exact qd_td s _ u [] this.2 (by omega)
end Go.Proofs.YtjpmjcadnnglnaaDoor
