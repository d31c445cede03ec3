/- JSON, plain: what a text in quotes tells, by the document's steps, is what it tells by the program's; no condition. -/
import Derived.Test.YtjpmjcadnnglnaaDoorQVq
import Derived.Test.YtjpmjcadnnglnaaDoorM11
namespace Go.Proofs.YtjpmjcadnnglnaaDoor
open Go.RowKit
open Go.Lib

def hiB (a : Nat) : Prop := 55296 ≤ a ∧ a < 56320
def loB (a : Nat) : Prop := 56320 ≤ a ∧ a ≤ 57343
instance (a : Nat) : Decidable (hiB a) := inferInstanceAs (Decidable (_ ∧ _))
instance (a : Nat) : Decidable (loB a) := inferInstanceAs (Decidable (_ ∧ _))
def joinU (a c : Nat) : Nat := 65536 + 1024 * (a - 55296) + (c - 56320)
def lone (a : Nat) : Nat := if 55296 ≤ a ∧ a ≤ 57343 then 65533 else a
/-- A number of 16 bits, or two that belong together: the scalar, and where it ends. -/
def uStep (s : ByteArray) (p : Nat) : Except Nat (Nat × Nat) := match unitE s p with
  | .error k => .error k
  | .ok (a, _) => if hiB a ∧ isU s (p + 4) = true then
      match unitE s (p + 6) with
      | .error k => .error k
      | .ok (c, _) => if loB c then .ok (joinU a c, p + 10) else .ok (65533, p + 4)
    else .ok (lone a, p + 4)
/-- What a text in quotes tells, by the document's steps. -/
def tdF (s : ByteArray) : Nat → Nat → Bs → Except Nat (Bs × Nat)
  | 0, t, _ => .error t
  | k + 1, t, out => if lk s t = 34 then .ok (out, t + 1) else if lk s t < 32 then .error t else if lk s t = 92 then
      if lk s (t + 1) = 117 then
        match uStep s (t + 2) with
        | .error e => .error e
        | .ok (x, u) => tdF s k u (out ++ ub x)
      else match letB (lk s (t + 1)) with
        | some c => tdF s k (t + 2) (out ++ [c])
        | none => .error (t + 1)
    else tdF s k (t + 1) (out ++ [(lk s t).toNat.toUInt8])
def quot2 (s : ByteArray) (t : Nat) : Except Nat (Bs × Nat) := match needE s [34] t with
  | .error e => .error e
  | .ok u => tdF s (s.size + 1) u []
theorem letB_of (c : Nat) (hc : c < 256) (h1 : c ≠ 34) (h2 : c ≠ 92) (h3 : c ≠ 47) (h4 : c ≠ 98) (h5 : c ≠ 116) (h6 : c ≠ 110) (h7 : c ≠ 102) (h8 : c ≠ 114) : letB (c : Int) = none := by
  have h : ∀ c : Fin 256, (decide (c.val = 34) || decide (c.val = 92) || decide (c.val = 47) || decide (c.val = 98) || decide (c.val = 116) || decide (c.val = 110) || decide (c.val = 102) || decide (c.val = 114) || (letB (c.val : Int)).isNone) = true := by decide +kernel
  have := h ⟨c, hc⟩
  simp only [h1, h2, h3, h4, h5, h6, h7, h8, decide_false, Bool.false_or] at this
  exact Option.isNone_iff_eq_none.1 this
theorem unit_err {s : ByteArray} : ∀ {k t n e : Nat}, unF s k t n = .error e → t ≤ s.size → t ≤ e ∧ e ≤ s.size
  | 0, t, n, e, h, _ => by
    rw [unF] at h
    cases h
  | k + 1, t, n, e, h, ht => by
    rw [unF] at h
    split at h
    · cases h
      omega
    · rename_i hx
      have := hexV_lt hx
      have := unit_err h (by omega)
      omega
theorem lone_sc {a : Nat} (h : a < 65536) : isSc (lone a) := by
  unfold lone isSc
  split <;> omega
theorem join_sc {a c : Nat} (h1 : hiB a) (h2 : loB c) : isSc (joinU a c) ∧ 65536 ≤ joinU a c := by
  unfold hiB at h1
  unfold loB at h2
  unfold joinU isSc
  omega

/-- Scalars of a row of numbers of 16 bits. -/
def suL : List Nat → List Nat
  | [] => []
  | [a] => [lone a]
  | a :: c :: rest => if hiB a ∧ loB c then joinU a c :: suL rest else lone a :: suL (c :: rest)
theorem row_unit (us : List Nat) (hus : ∀ x ∈ us, x < 65536) (j : Nat) : unitB (rowS us) (2 + 2 * j) = match us[j]? with | some x => (x : Int) | none => -1 := by
  have hz := rowS_size us
  by_cases hj : j < us.length
  · rw [List.getElem?_eq_getElem hj]
    simp only
    have hx := hus us[j] (List.getElem_mem hj)
    have hb : ∀ (l : List Nat) (j : Nat) (h : j < l.length), (l.flatMap (fun n => [(n / 256).toUInt8, (n % 256).toUInt8]))[2 * j]? = some (l[j] / 256).toUInt8 ∧ (l.flatMap (fun n => [(n / 256).toUInt8, (n % 256).toUInt8]))[2 * j + 1]? = some (l[j] % 256).toUInt8 := by
      intro l
      induction l with
      | nil => intro j h; simp at h
      | cons a l ih =>
        intro j h
        match j with
        | 0 => exact ⟨rfl, rfl⟩
        | j + 1 =>
          have := ih j (by simpa using h)
          rw [List.flatMap_cons]
          rw [show 2 * (j + 1) = 2 * j + 2 by omega]
          exact this
    have hbb := hb us j hj
    have e1 : byN (rowS us) (2 + 2 * j) = us[j] / 256 := by
      have h1 : 2 + 2 * j < (rowS us).size := by omega
      rw [← by_get _ _ h1]
      have e := at_opt (rowS us) _ h1
      have e' : (rowS us).data.toList[2 + 2 * j]? = some (us[j] / 256).toUInt8 := by
        show (rowB us)[2 + 2 * j]? = _
        unfold rowB
        rw [show 2 + 2 * j = 2 * j + 1 + 1 by omega, List.getElem?_cons_succ, List.getElem?_cons_succ]
        exact hbb.1
      rw [e'] at e
      have e2 := Option.some.inj e
      rw [← e2]
      simp
      omega
    have e2 : byN (rowS us) (2 + 2 * j + 1) = us[j] % 256 := by
      have h1 : 2 + 2 * j + 1 < (rowS us).size := by omega
      rw [← by_get _ _ h1]
      have e := at_opt (rowS us) _ h1
      have e' : (rowS us).data.toList[2 + 2 * j + 1]? = some (us[j] % 256).toUInt8 := by
        show (rowB us)[2 + 2 * j + 1]? = _
        unfold rowB
        rw [show 2 + 2 * j + 1 = 2 * j + 1 + 1 + 1 by omega, List.getElem?_cons_succ, List.getElem?_cons_succ]
        exact hbb.2
      rw [e'] at e
      have e2 := Option.some.inj e
      rw [← e2]
      simp
    unfold unitB
    rw [if_neg (by omega), e1, e2]
    omega
  · rw [List.getElem?_eq_none (by omega)]
    unfold unitB
    rw [if_pos (by omega)]
theorem drop_two {us : List Nat} {j : Nat} (h : j < us.length) : us.drop j = us[j] :: us.drop (j + 1) := List.drop_eq_getElem_cons h
theorem scC_suL (us : List Nat) (hus : ∀ x ∈ us, x < 65536) : ∀ (k j : Nat), us.length < j + k → (scC (rowS us) 3 k (2 + 2 * j)).map Int.toNat = suL (us.drop j)
  | 0, j, h => by
    rw [List.drop_eq_nil_of_le (by omega)]
    rfl
  | k + 1, j, h => by
    have hz := rowS_size us
    rw [scC]
    by_cases hj : j < us.length
    · rw [if_pos (by omega)]
      have u0 := row_unit us hus j
      rw [List.getElem?_eq_getElem hj] at u0
      simp only at u0
      have hx := hus us[j] (List.getElem_mem hj)
      have htk : tkAt (rowS us) 3 (2 + 2 * j) = tk16 (unitB (rowS us)) (2 + 2 * j) := by
        rw [tkAt3]
        rfl
      have u1 := row_unit us hus (j + 1)
      rw [show 2 + 2 * (j + 1) = 2 + 2 * j + 2 by omega] at u1
      rw [drop_two hj]
      have n1 : ¬ ((us[j] : Nat) : Int) = -1 := by omega
      by_cases hs : 55296 ≤ us[j] ∧ us[j] < 57344
      · have n2 : ¬ ¬ (55296 ≤ ((us[j] : Nat) : Int) ∧ ((us[j] : Nat) : Int) < 57344) := by omega
        have hl : lone us[j] = 65533 := if_pos (by omega)
        by_cases hj2 : j + 1 < us.length
        · rw [List.getElem?_eq_getElem hj2] at u1
          simp only at u1
          by_cases hp : hiB us[j] ∧ loB us[j + 1]
          · have e : tkAt (rowS us) 3 (2 + 2 * j) = (65536 + (((us[j] : Nat) : Int) - 55296) * 1024 + ((us[j + 1] : Nat) : Int) - 56320, 4) := by
              rw [htk]
              unfold tk16
              rw [u0, u1, if_neg n1, if_neg n2, if_neg (by unfold hiB loB at hp; omega)]
            rw [e, drop_two hj2, suL, if_pos hp]
            unfold hiB loB at hp
            rw [if_neg (show ¬ (65536 + (((us[j] : Nat) : Int) - 55296) * 1024 + ((us[j + 1] : Nat) : Int) - 56320) = -1 from by omega), List.map_cons]
            have := scC_suL us hus k (j + 2) (by omega)
            rw [show 2 + 2 * (j + 2) = 2 + 2 * j + 4 by omega] at this
            rw [this]
            have hv : Int.toNat (65536 + (((us[j] : Nat) : Int) - 55296) * 1024 + ((us[j + 1] : Nat) : Int) - 56320) = joinU us[j] us[j + 1] := by
              unfold joinU
              omega
            exact List.cons_eq_cons.2 ⟨hv, rfl⟩
          · have e : tkAt (rowS us) 3 (2 + 2 * j) = (-1, 2) := by
              rw [htk]
              unfold tk16
              rw [u0, u1, if_neg n1, if_neg n2, if_pos (by unfold hiB loB at hp; omega)]
            rw [e, drop_two hj2, suL, if_neg hp, hl, if_pos rfl, List.map_cons]
            have := scC_suL us hus k (j + 1) (by omega)
            rw [show 2 + 2 * (j + 1) = 2 + 2 * j + 2 by omega, drop_two hj2] at this
            rw [this]
            rfl
        · rw [List.getElem?_eq_none (by omega)] at u1
          simp only at u1
          have e : tkAt (rowS us) 3 (2 + 2 * j) = (-1, 2) := by
            rw [htk]
            unfold tk16
            rw [u0, u1, if_neg n1, if_neg n2, if_pos (by omega)]
          have := scC_suL us hus k (j + 1) (by omega)
          rw [show 2 + 2 * (j + 1) = 2 + 2 * j + 2 by omega, List.drop_eq_nil_of_le (by omega)] at this
          rw [e, List.drop_eq_nil_of_le (by omega), suL, hl, if_pos rfl, List.map_cons, this]
          rfl
      · have n2 : ¬ (55296 ≤ ((us[j] : Nat) : Int) ∧ ((us[j] : Nat) : Int) < 57344) := by omega
        have e : tkAt (rowS us) 3 (2 + 2 * j) = (((us[j] : Nat) : Int), 2) := by
          rw [htk]
          unfold tk16
          rw [u0, if_neg n1, if_pos n2]
        have := scC_suL us hus k (j + 1) (by omega)
        rw [show 2 + 2 * (j + 1) = 2 + 2 * j + 2 by omega] at this
        have hl : lone us[j] = us[j] := if_neg (by omega)
        rw [e, if_neg n1, List.map_cons, this]
        by_cases hj2 : j + 1 < us.length
        · rw [drop_two hj2, suL, if_neg (by unfold hiB; omega), hl]
          rfl
        · rw [List.drop_eq_nil_of_le (by omega)]
          show _ = [lone us[j]]
          rw [hl]
          rfl
    · rw [if_neg (by omega), List.drop_eq_nil_of_le (by omega)]
      rfl
theorem us_lt (s : ByteArray) : ∀ (f t : Nat) (us0 us : List Nat) (u : Nat), usF s f t us0 = .ok (us, u) → (∀ x ∈ us0, x < 65536) → ∀ x ∈ us, x < 65536
  | 0, t, us0, us, u, h, h0 => by
    rw [usF] at h
    cases h
    exact h0
  | f + 1, t, us0, us, u, h, h0 => by
    rw [usF] at h
    split at h
    · split at h
      · cases h
      · rename_i n v hv
        have hk := unitE_ok hv
        refine us_lt s f v _ us u h ?_
        intro x hx
        rcases List.mem_append.1 hx with hx | hx
        · exact h0 x hx
        · rw [List.mem_singleton.1 hx]
          exact hk.2.1
    · cases h
      exact h0
theorem su_is (us : List Nat) (hus : ∀ x ∈ us, x < 65536) : su us = suL us := by
  have := scC_suL us hus (1 + 2 * us.length) 0 (by omega)
  rw [List.drop_zero] at this
  exact this
end Go.Proofs.YtjpmjcadnnglnaaDoor
