/- Texts of this proof, one behind the other: what each says stands ahead of it. -/
import Derived.Test.YtabhlhgfacpohaaDoorQVq
import Derived.Test.YtabhlhgfacpohaaDoorM19
/- JSON, plain: what a text in quotes tells, by the document's steps, is what it tells by the program's; no condition. -/
namespace Go.Proofs.YtabhlhgfacpohaaDoor
open Go.RowKit
open Go.Lib

def hiB (a : Nat) : Prop := 55296 ≤ a ∧ a < 56320
def loB (a : Nat) : Prop := 56320 ≤ a ∧ a ≤ 57343
instance (a : Nat) : Decidable (hiB a) := inferInstanceAs (Decidable (_ ∧ _))
instance (a : Nat) : Decidable (loB a) := inferInstanceAs (Decidable (_ ∧ _))
def joinU (a c : Nat) : Nat := 65536 + 1024 * (a - 55296) + (c - 56320)
def lone (a : Nat) : Nat := if 55296 ≤ a ∧ a ≤ 57343 then 65533 else a
/-- A number of 16 bits, or two that belong together: the scalar, and where it ends. -/
def uStep (s : ByteArray) (p : Nat) : Except Nat (Nat × Nat) := match unitE s p with
  | .error k => .error k
  | .ok (a, _) => if hiB a ∧ isU s (p + 4) = true then
      match unitE s (p + 6) with
      | .error k => .error k
      | .ok (c, _) => if loB c then .ok (joinU a c, p + 10) else .ok (65533, p + 4)
    else .ok (lone a, p + 4)
/-- What a text in quotes tells, by the document's steps. -/
def tdF (s : ByteArray) : Nat → Nat → Bs → Except Nat (Bs × Nat)
  | 0, t, _ => .error t
  | k + 1, t, out => if lk s t = 34 then .ok (out, t + 1) else if lk s t < 32 then .error t else if lk s t = 92 then
      if lk s (t + 1) = 117 then
        match uStep s (t + 2) with
        | .error e => .error e
        | .ok (x, u) => tdF s k u (out ++ ub x)
      else match letB (lk s (t + 1)) with
        | some c => tdF s k (t + 2) (out ++ [c])
        | none => .error (t + 1)
    else tdF s k (t + 1) (out ++ [(lk s t).toNat.toUInt8])
def quot2 (s : ByteArray) (t : Nat) : Except Nat (Bs × Nat) := match needE s [34] t with
  | .error e => .error e
  | .ok u => tdF s (s.size + 1) u []
theorem letB_of (c : Nat) (hc : c < 256) (h1 : c ≠ 34) (h2 : c ≠ 92) (h3 : c ≠ 47) (h4 : c ≠ 98) (h5 : c ≠ 116) (h6 : c ≠ 110) (h7 : c ≠ 102) (h8 : c ≠ 114) : letB (c : Int) = none := by
  have h : ∀ c : Fin 256, (decide (c.val = 34) || decide (c.val = 92) || decide (c.val = 47) || decide (c.val = 98) || decide (c.val = 116) || decide (c.val = 110) || decide (c.val = 102) || decide (c.val = 114) || (letB (c.val : Int)).isNone) = true := by decide +kernel
  have := h ⟨c, hc⟩
  simp only [h1, h2, h3, h4, h5, h6, h7, h8, decide_false, Bool.false_or] at this
  exact Option.isNone_iff_eq_none.1 this
theorem unit_err {s : ByteArray} : ∀ {k t n e : Nat}, unF s k t n = .error e → t ≤ s.size → t ≤ e ∧ e ≤ s.size
  | 0, t, n, e, h, _ => by
    rw [unF] at h
    cases h
  | k + 1, t, n, e, h, ht => by
    rw [unF] at h
    split at h
    · cases h
      omega
    · rename_i hx
      have := hexV_lt hx
      have := unit_err h (by omega)
      omega
theorem lone_sc {a : Nat} (h : a < 65536) : isSc (lone a) := by
  unfold lone isSc
  split <;> omega
theorem join_sc {a c : Nat} (h1 : hiB a) (h2 : loB c) : isSc (joinU a c) ∧ 65536 ≤ joinU a c := by
  unfold hiB at h1
  unfold loB at h2
  unfold joinU isSc
  omega

/-- Scalars of a row of numbers of 16 bits. -/
def suL : List Nat → List Nat
  | [] => []
  | [a] => [lone a]
  | a :: c :: rest => if hiB a ∧ loB c then joinU a c :: suL rest else lone a :: suL (c :: rest)
theorem row_unit (us : List Nat) (hus : ∀ x ∈ us, x < 65536) (j : Nat) : unitB (rowS us) (2 + 2 * j) = match us[j]? with | some x => (x : Int) | none => -1 := by
  have hz := rowS_size us
  by_cases hj : j < us.length
  · rw [List.getElem?_eq_getElem hj]
    simp only
    have hx := hus us[j] (List.getElem_mem hj)
    have hb : ∀ (l : List Nat) (j : Nat) (h : j < l.length), (l.flatMap (fun n => [(n / 256).toUInt8, (n % 256).toUInt8]))[2 * j]? = some (l[j] / 256).toUInt8 ∧ (l.flatMap (fun n => [(n / 256).toUInt8, (n % 256).toUInt8]))[2 * j + 1]? = some (l[j] % 256).toUInt8 := by
      intro l
      induction l with
      | nil => intro j h; simp at h
      | cons a l ih =>
        intro j h
        match j with
        | 0 => exact ⟨rfl, rfl⟩
        | j + 1 =>
          have := ih j (by simpa using h)
          rw [List.flatMap_cons]
          rw [show 2 * (j + 1) = 2 * j + 2 by omega]
          exact this
    have hbb := hb us j hj
    have e1 : byN (rowS us) (2 + 2 * j) = us[j] / 256 := by
      have h1 : 2 + 2 * j < (rowS us).size := by omega
      rw [← by_get _ _ h1]
      have e := at_opt (rowS us) _ h1
      have e' : (rowS us).data.toList[2 + 2 * j]? = some (us[j] / 256).toUInt8 := by
        show (rowB us)[2 + 2 * j]? = _
        unfold rowB
        rw [show 2 + 2 * j = 2 * j + 1 + 1 by omega, List.getElem?_cons_succ, List.getElem?_cons_succ]
        exact hbb.1
      rw [e'] at e
      have e2 := Option.some.inj e
      rw [← e2]
      simp
      omega
    have e2 : byN (rowS us) (2 + 2 * j + 1) = us[j] % 256 := by
      have h1 : 2 + 2 * j + 1 < (rowS us).size := by omega
      rw [← by_get _ _ h1]
      have e := at_opt (rowS us) _ h1
      have e' : (rowS us).data.toList[2 + 2 * j + 1]? = some (us[j] % 256).toUInt8 := by
        show (rowB us)[2 + 2 * j + 1]? = _
        unfold rowB
        rw [show 2 + 2 * j + 1 = 2 * j + 1 + 1 + 1 by omega, List.getElem?_cons_succ, List.getElem?_cons_succ]
        exact hbb.2
      rw [e'] at e
      have e2 := Option.some.inj e
      rw [← e2]
      simp
    unfold unitB
    rw [if_neg (by omega), e1, e2]
    omega
  · rw [List.getElem?_eq_none (by omega)]
    unfold unitB
    rw [if_pos (by omega)]
theorem drop_two {us : List Nat} {j : Nat} (h : j < us.length) : us.drop j = us[j] :: us.drop (j + 1) := List.drop_eq_getElem_cons h
theorem scC_suL (us : List Nat) (hus : ∀ x ∈ us, x < 65536) : ∀ (k j : Nat), us.length < j + k → (scC (rowS us) 3 k (2 + 2 * j)).map Int.toNat = suL (us.drop j)
  | 0, j, h => by
    rw [List.drop_eq_nil_of_le (by omega)]
    rfl
  | k + 1, j, h => by
    have hz := rowS_size us
    rw [scC]
    by_cases hj : j < us.length
    · rw [if_pos (by omega)]
      have u0 := row_unit us hus j
      rw [List.getElem?_eq_getElem hj] at u0
      simp only at u0
      have hx := hus us[j] (List.getElem_mem hj)
      have htk : tkAt (rowS us) 3 (2 + 2 * j) = tk16 (unitB (rowS us)) (2 + 2 * j) := by
        rw [tkAt3]
        rfl
      have u1 := row_unit us hus (j + 1)
      rw [show 2 + 2 * (j + 1) = 2 + 2 * j + 2 by omega] at u1
      rw [drop_two hj]
      have n1 : ¬ ((us[j] : Nat) : Int) = -1 := by omega
      by_cases hs : 55296 ≤ us[j] ∧ us[j] < 57344
      · have n2 : ¬ ¬ (55296 ≤ ((us[j] : Nat) : Int) ∧ ((us[j] : Nat) : Int) < 57344) := by omega
        have hl : lone us[j] = 65533 := if_pos (by omega)
        by_cases hj2 : j + 1 < us.length
        · rw [List.getElem?_eq_getElem hj2] at u1
          simp only at u1
          by_cases hp : hiB us[j] ∧ loB us[j + 1]
          · have e : tkAt (rowS us) 3 (2 + 2 * j) = (65536 + (((us[j] : Nat) : Int) - 55296) * 1024 + ((us[j + 1] : Nat) : Int) - 56320, 4) := by
              rw [htk]
              unfold tk16
              rw [u0, u1, if_neg n1, if_neg n2, if_neg (by unfold hiB loB at hp; omega)]
            rw [e, drop_two hj2, suL, if_pos hp]
            unfold hiB loB at hp
            rw [if_neg (show ¬ (65536 + (((us[j] : Nat) : Int) - 55296) * 1024 + ((us[j + 1] : Nat) : Int) - 56320) = -1 from by omega), List.map_cons]
            have := scC_suL us hus k (j + 2) (by omega)
            rw [show 2 + 2 * (j + 2) = 2 + 2 * j + 4 by omega] at this
            rw [this]
            have hv : Int.toNat (65536 + (((us[j] : Nat) : Int) - 55296) * 1024 + ((us[j + 1] : Nat) : Int) - 56320) = joinU us[j] us[j + 1] := by
              unfold joinU
              omega
            exact List.cons_eq_cons.2 ⟨hv, rfl⟩
          · have e : tkAt (rowS us) 3 (2 + 2 * j) = (-1, 2) := by
              rw [htk]
              unfold tk16
              rw [u0, u1, if_neg n1, if_neg n2, if_pos (by unfold hiB loB at hp; omega)]
            rw [e, drop_two hj2, suL, if_neg hp, hl, if_pos rfl, List.map_cons]
            have := scC_suL us hus k (j + 1) (by omega)
            rw [show 2 + 2 * (j + 1) = 2 + 2 * j + 2 by omega, drop_two hj2] at this
            rw [this]
            rfl
        · rw [List.getElem?_eq_none (by omega)] at u1
          simp only at u1
          have e : tkAt (rowS us) 3 (2 + 2 * j) = (-1, 2) := by
            rw [htk]
            unfold tk16
            rw [u0, u1, if_neg n1, if_neg n2, if_pos (by omega)]
          have := scC_suL us hus k (j + 1) (by omega)
          rw [show 2 + 2 * (j + 1) = 2 + 2 * j + 2 by omega, List.drop_eq_nil_of_le (by omega)] at this
          rw [e, List.drop_eq_nil_of_le (by omega), suL, hl, if_pos rfl, List.map_cons, this]
          rfl
      · have n2 : ¬ (55296 ≤ ((us[j] : Nat) : Int) ∧ ((us[j] : Nat) : Int) < 57344) := by omega
        have e : tkAt (rowS us) 3 (2 + 2 * j) = (((us[j] : Nat) : Int), 2) := by
          rw [htk]
          unfold tk16
          rw [u0, if_neg n1, if_pos n2]
        have := scC_suL us hus k (j + 1) (by omega)
        rw [show 2 + 2 * (j + 1) = 2 + 2 * j + 2 by omega] at this
        have hl : lone us[j] = us[j] := if_neg (by omega)
        rw [e, if_neg n1, List.map_cons, this]
        by_cases hj2 : j + 1 < us.length
        · rw [drop_two hj2, suL, if_neg (by unfold hiB; omega), hl]
          rfl
        · rw [List.drop_eq_nil_of_le (by omega)]
          show _ = [lone us[j]]
          rw [hl]
          rfl
    · rw [if_neg (by omega), List.drop_eq_nil_of_le (by omega)]
      rfl
theorem us_lt (s : ByteArray) : ∀ (f t : Nat) (us0 us : List Nat) (u : Nat), usF s f t us0 = .ok (us, u) → (∀ x ∈ us0, x < 65536) → ∀ x ∈ us, x < 65536
  | 0, t, us0, us, u, h, h0 => by
    rw [usF] at h
    cases h
    exact h0
  | f + 1, t, us0, us, u, h, h0 => by
    rw [usF] at h
    split at h
    · split at h
      · cases h
      · rename_i n v hv
        have hk := unitE_ok hv
        refine us_lt s f v _ us u h ?_
        intro x hx
        rcases List.mem_append.1 hx with hx | hx
        · exact h0 x hx
        · rw [List.mem_singleton.1 hx]
          exact hk.2.1
    · cases h
      exact h0
theorem su_is (us : List Nat) (hus : ∀ x ∈ us, x < 65536) : su us = suL us := by
  have := scC_suL us hus (1 + 2 * us.length) 0 (by omega)
  rw [List.drop_zero] at this
  exact this
end Go.Proofs.YtabhlhgfacpohaaDoor

/- JSON, plain: what a text in quotes tells, by the document's steps, is what it tells by the program's; no condition. -/
namespace Go.Proofs.YtabhlhgfacpohaaDoor
open Go.RowKit
open Go.Lib

theorem ustep_ok {s : ByteArray} {p x u : Nat} (h : uStep s p = .ok (x, u)) : p + 4 ≤ u ∧ u ≤ s.size := by
  unfold uStep at h
  split at h
  · cases h
  · rename_i a v hv
    have h1 := unitE_ok hv
    split at h
    · split at h
      · cases h
      · rename_i c v2 hv2
        have h2 := unitE_ok hv2
        split at h
        · simp only [Except.ok.injEq, Prod.mk.injEq] at h
          omega
        · simp only [Except.ok.injEq, Prod.mk.injEq] at h
          omega
    · simp only [Except.ok.injEq, Prod.mk.injEq] at h
      omega
theorem td_fuel (s : ByteArray) : ∀ (k k' t : Nat) (out : Bs), t ≤ s.size → s.size + 1 ≤ t + k → s.size + 1 ≤ t + k' → tdF s k t out = tdF s k' t out
  | 0, k', t, out, h1, h2, h3 => by omega
  | k + 1, 0, t, out, h1, h2, h3 => by omega
  | k + 1, k' + 1, t, out, h1, h2, h3 => by
    rw [tdF, tdF]
    split
    · rfl
    split
    · rfl
    rename_i n32
    have hlt : t < s.size := lk_in2 (by omega)
    split
    · split
      · split
        · rfl
        · rename_i x u hu
          have := ustep_ok hu
          exact td_fuel s k k' u _ (by omega) (by omega) (by omega)
      · split
        · rename_i c hc
          have : t + 1 < s.size := lk_in2 (by
            intro e
            rw [e] at hc
            unfold letB at hc
            rw [if_pos rfl] at hc
            cases hc)
          exact td_fuel s k k' (t + 2) _ (by omega) (by omega) (by omega)
        · rfl
    · exact td_fuel s k k' (t + 1) _ (by omega) (by omega) (by omega)
theorem us_acc (s : ByteArray) : ∀ (f t : Nat) (us0 : List Nat), usF s f t us0 = match usF s f t [] with
    | .error e => .error e
    | .ok (us, u) => .ok (us0 ++ us, u)
  | 0, t, us0 => by
    rw [usF, usF]
    simp
  | f + 1, t, us0 => by
    rw [usF, usF]
    split
    · split
      · rfl
      · rename_i n v hv
        rw [us_acc s f v (us0 ++ [n]), us_acc s f v ([] ++ [n])]
        cases usF s f v [] with
        | error e => rfl
        | ok p => simp
    · simp
theorem us_step {s : ByteArray} {f t n u : Nat} (h : isU s t = true) (hv : unitE s (t + 2) = .ok (n, u)) : usF s (f + 1) t [] = match usF s f u [] with
    | .error e => .error e
    | .ok (us, v) => .ok (n :: us, v) := by
  rw [usF, if_pos h, hv]
  simp only
  rw [us_acc]
  rfl
theorem us_none {s : ByteArray} {f t : Nat} (h : ¬ isU s t = true) : usF s f t [] = .ok ([], t) := by
  match f with
  | 0 => rw [usF]
  | f + 1 => rw [usF, if_neg h]
theorem us_bad {s : ByteArray} {f t e : Nat} (h : isU s t = true) (hv : unitE s (t + 2) = .error e) : usF s (f + 1) t [] = .error e := by
  rw [usF, if_pos h, hv]
/-- What is told of a row of numbers. -/
def RunIs (s : ByteArray) (k t : Nat) (out : Bs) : Except Nat (List Nat × Nat) → Prop
  | .error e => tdF s k t out = .error e
  | .ok (us, u) => t ≤ u ∧ u ≤ s.size ∧ tdF s k t out = tdF s k u (out ++ (suL us).flatMap ub)
theorem td_u {s : ByteArray} {k t : Nat} {out : Bs} (h : isU s t = true) : tdF s (k + 1) t out = match uStep s (t + 2) with
    | .error e => .error e
    | .ok (x, u) => tdF s k u (out ++ ub x) := by
  obtain ⟨h1, h2, _, _⟩ := isU_iff h
  rw [tdF, if_neg (by rw [h1]; decide), if_neg (by rw [h1]; decide), if_pos h1, if_pos h2]
  rfl
theorem suL_cons {a : Nat} {us : List Nat} (h : ∀ c, us.head? = some c → ¬ (hiB a ∧ loB c)) : suL (a :: us) = lone a :: suL us := by
  match us with
  | [] => rfl
  | c :: us => rw [suL, if_neg (h c rfl)]
theorem run_is (s : ByteArray) : ∀ (m f : Nat), f ≤ m → ∀ (t k : Nat) (out : Bs), t ≤ s.size → s.size ≤ t + f → s.size + 1 ≤ t + k → RunIs s k t out (usF s f t [])
  | 0, f, hm, t, k, out, h1, h2, h3 => by
    obtain rfl : f = 0 := by omega
    rw [usF]
    exact ⟨Nat.le_refl _, h1, by simp [suL]⟩
  | m + 1, f, hm, t, k, out, h1, h2, h3 => by
    by_cases hu : isU s t = true
    · obtain ⟨_, _, hsz, _⟩ := isU_iff hu
      obtain ⟨f1, rfl⟩ : ∃ f1, f = f1 + 1 := ⟨f - 1, by omega⟩
      obtain ⟨k1, rfl⟩ : ∃ k1, k = k1 + 1 := ⟨k - 1, by omega⟩
      cases hv : unitE s (t + 2) with
      | error e =>
        rw [us_bad hu hv]
        show tdF s (k1 + 1) t out = .error e
        rw [td_u hu]
        unfold uStep
        rw [hv]
      | ok p =>
        obtain ⟨a, u⟩ := p
        have hk := unitE_ok hv
        obtain rfl : u = t + 6 := by omega
        rw [us_step hu hv]
        have IH := fun o => run_is s m f1 (by omega) (t + 6) k1 o (by omega) (by omega) (by omega)
        by_cases hh : hiB a ∧ isU s (t + 6) = true
        · obtain ⟨hhi, hu2⟩ := hh
          obtain ⟨_, _, hsz2, _⟩ := isU_iff hu2
          obtain ⟨f2, rfl⟩ : ∃ f2, f1 = f2 + 1 := ⟨f1 - 1, by omega⟩
          have hlone : lone a = 65533 := if_pos (by unfold hiB at hhi; omega)
          cases hv2 : unitE s (t + 8) with
          | error e =>
            rw [us_bad hu2 hv2]
            show tdF s (k1 + 1) t out = .error e
            rw [td_u hu]
            unfold uStep
            rw [hv]
            simp only
            rw [if_pos ⟨hhi, hu2⟩, hv2]
          | ok p2 =>
            obtain ⟨c, u2⟩ := p2
            have hk2 := unitE_ok hv2
            obtain rfl : u2 = t + 12 := by omega
            have hstep : tdF s (k1 + 1) t out = if loB c then tdF s k1 (t + 12) (out ++ ub (joinU a c)) else tdF s k1 (t + 6) (out ++ ub 65533) := by
              rw [td_u hu]
              unfold uStep
              rw [hv]
              simp only
              rw [if_pos ⟨hhi, hu2⟩, hv2]
              simp only
              by_cases hl : loB c
              · rw [if_pos hl, if_pos hl]
              · rw [if_neg hl, if_neg hl]
            have IH2 := fun o => run_is s m f2 (by omega) (t + 12) k1 o (by omega) (by omega) (by omega)
            rw [us_step hu2 hv2] at IH ⊢
            by_cases hlo : loB c
            · rw [if_pos hlo] at hstep
              have I := IH2 (out ++ ub (joinU a c))
              cases hr : usF s f2 (t + 12) [] with
              | error e =>
                rw [hr] at I
                show tdF s (k1 + 1) t out = .error e
                rw [hstep]
                exact I
              | ok q =>
                obtain ⟨us, v⟩ := q
                rw [hr] at I
                obtain ⟨i1, i2, i3⟩ := I
                refine ⟨by omega, i2, ?_⟩
                rw [hstep, i3, suL, if_pos ⟨hhi, hlo⟩, List.flatMap_cons, List.append_assoc]
                exact td_fuel s _ _ _ _ i2 (by omega) (by omega)
            · rw [if_neg hlo] at hstep
              have I := IH (out ++ ub 65533)
              cases hr : usF s f2 (t + 12) [] with
              | error e =>
                rw [hr] at I
                show tdF s (k1 + 1) t out = .error e
                rw [hstep]
                exact I
              | ok q =>
                obtain ⟨us, v⟩ := q
                rw [hr] at I
                obtain ⟨i1, i2, i3⟩ := I
                refine ⟨by omega, i2, ?_⟩
                rw [hstep, i3, suL_cons (us := c :: us) (fun c' e => by cases e; exact fun x => hlo x.2), hlone, List.flatMap_cons, List.append_assoc]
                exact td_fuel s _ _ _ _ i2 (by omega) (by omega)
        · have hstep : tdF s (k1 + 1) t out = tdF s k1 (t + 6) (out ++ ub (lone a)) := by
            rw [td_u hu]
            unfold uStep
            rw [hv]
            simp only
            rw [if_neg hh]
          have I := IH (out ++ ub (lone a))
          cases hr : usF s f1 (t + 6) [] with
          | error e =>
            rw [hr] at I
            show tdF s (k1 + 1) t out = .error e
            rw [hstep]
            exact I
          | ok q =>
            obtain ⟨us, v⟩ := q
            rw [hr] at I
            obtain ⟨i1, i2, i3⟩ := I
            refine ⟨by omega, i2, ?_⟩
            rw [hstep, i3, suL_cons (fun c e x => by
              apply hh
              refine ⟨x.1, ?_⟩
              by_cases hu2 : isU s (t + 6) = true
              · exact hu2
              · rw [us_none hu2] at hr
                cases hr
                cases e), List.flatMap_cons, List.append_assoc]
            exact td_fuel s _ _ _ _ i2 (by omega) (by omega)
    · rw [us_none hu]
      exact ⟨Nat.le_refl _, h1, by simp [suL]⟩
/-- Both ways tell the same. -/
theorem qd_td (s : ByteArray) : ∀ (k t : Nat) (out : Bs), t ≤ s.size → s.size + 1 ≤ t + k → qdF s k t out = tdF s k t out
  | 0, t, out, h1, h2 => by omega
  | k + 1, t, out, h1, h2 => by
    rw [qdF]
    by_cases hq : lk s t = 34
    · rw [if_pos hq, tdF, if_pos hq]
    rw [if_neg hq]
    by_cases h32 : lk s t < 32
    · rw [if_pos h32, tdF, if_neg hq, if_pos h32]
    rw [if_neg h32]
    have hlt : t < s.size := lk_in2 (by omega)
    by_cases h92 : lk s t = 92
    · rw [if_pos h92]
      unfold escE
      by_cases hu : isU s t = true
      · rw [if_pos hu]
        have R := run_is s s.size s.size (Nat.le_refl _) t (k + 1) out h1 (by omega) h2
        unfold usE
        cases hr : usF s s.size t [] with
        | error e =>
          rw [hr] at R
          exact R.symm
        | ok p =>
          obtain ⟨us, u⟩ := p
          rw [hr] at R
          obtain ⟨r1, r2, r3⟩ := R
          have hus := us_lt s s.size t [] us u hr (fun x hx => by simp at hx)
          have hgt : t < u := by
            have := (usF_ok s s.size t [] us u h1 hr).1
            obtain ⟨f1, hf1⟩ : ∃ f1, s.size = f1 + 1 := ⟨s.size - 1, by omega⟩
            rw [hf1] at hr
            cases hv : unitE s (t + 2) with
            | error e => rw [us_bad hu hv] at hr; cases hr
            | ok q =>
              obtain ⟨n, v⟩ := q
              rw [us_step hu hv] at hr
              cases hr2 : usF s f1 v [] with
              | error e => rw [hr2] at hr; cases hr
              | ok q2 =>
                obtain ⟨us2, v2⟩ := q2
                rw [hr2] at hr
                cases hr
                simp only [List.length_nil, List.length_cons] at this
                omega
          simp only
          rw [qd_td s k u _ r2 (by omega), r3, su_is us hus]
          exact td_fuel s _ _ _ _ r2 (by omega) (by omega)
      · rw [if_neg hu]
        have h117 : ¬ lk s (t + 1) = 117 := by
          intro e
          apply hu
          unfold isU
          rw [decide_eq_true h92, decide_eq_true e]
          rfl
        rw [tdF, if_neg hq, if_neg h32, if_pos h92, if_neg h117]
        cases hl : letB (lk s (t + 1)) with
        | none => rfl
        | some c =>
          have : t + 1 < s.size := lk_in2 (by
            intro e
            rw [e] at hl
            unfold letB at hl
            rw [if_pos rfl] at hl
            cases hl)
          exact qd_td s k (t + 2) _ (by omega) (by omega)
    · rw [if_neg h92, tdF, if_neg hq, if_neg h32, if_neg h92]
      exact qd_td s k (t + 1) _ (by omega) (by omega)
theorem quot_quot2 (s : ByteArray) (t : Nat) (ht : t ≤ s.size) : quotE s t = quot2 s t := by
  unfold quotE quot2
  cases hn : needE s [34] t with
  | error e => rfl
  | ok u =>
    have := need_ok s [34] t u ht hn
    exact qd_td s _ u [] this.2 (by omega)
end Go.Proofs.YtabhlhgfacpohaaDoor
