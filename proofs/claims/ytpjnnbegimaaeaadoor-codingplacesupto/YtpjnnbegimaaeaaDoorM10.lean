/- Texts of this proof, one behind the other: what each says stands ahead of it. -/
import Derived.Test.YtpjnnbegimaaeaaDoorM7
import Derived.Test.YtpjnnbegimaaeaaDoorM9
import Derived.Test.YtpjnnbegimaaeaaDoorM2
/- What stands at a place where a scalar's bytes lie, and the other way round: plain; no condition beside those told. -/
namespace Go.Proofs.YtpjnnbegimaaeaaDoor
open Go.RowKit
open Go.Lib

/-- Such bytes lie from a place on. -/
def Lays (s : ByteArray) (i : Nat) (l : List Int) : Prop := ∀ j (h : j < l.length), i + j < s.size ∧ (byN s (i + j) : Int) = l[j]
theorem Lays.nil (s : ByteArray) (i : Nat) : Lays s i [] := fun j h => by simp at h
theorem Lays.left {s : ByteArray} {i : Nat} {a b : List Int} (h : Lays s i (a ++ b)) : Lays s i a := fun j hj => by
  obtain ⟨h1, h2⟩ := h j (by simp; omega)
  exact ⟨h1, by rw [h2, List.getElem_append_left hj]⟩
theorem Lays.right {s : ByteArray} {i : Nat} {a b : List Int} (h : Lays s i (a ++ b)) : Lays s (i + a.length) b := fun j hj => by
  obtain ⟨h1, h2⟩ := h (a.length + j) (by simp; omega)
  refine ⟨by omega, ?_⟩
  rw [show i + a.length + j = i + (a.length + j) by omega, h2, List.getElem_append_right (by omega)]
  congr 1
  omega
def lead3 (b : Nat) : Lead := ⟨if b = 224 then 224 else if b ≤ 236 then 225 else if b = 237 then 237 else 238, if b = 224 then 224 else if b ≤ 236 then 236 else if b = 237 then 237 else 239, 2, if b = 224 then 160 else 128, if b = 237 then 159 else 191⟩
def lead4 (b : Nat) : Lead := ⟨if b = 240 then 240 else if b ≤ 243 then 241 else 244, if b = 240 then 240 else if b ≤ 243 then 243 else 244, 3, if b = 240 then 144 else 128, if b = 244 then 143 else 191⟩
def leadT (l : Lead) : List Nat := [l.first, l.last, l.more, l.low, l.high]
def leadF (b : Nat) : Option Lead := if b < 128 then some ⟨0, 127, 0, 0, 0⟩ else if b < 194 then none else if b < 224 then some ⟨194, 223, 1, 128, 191⟩ else if b < 240 then some (lead3 b) else if b < 245 then some (lead4 b) else none
theorem leadT_one {a b : Option Lead} (h : a.map leadT = b.map leadT) : a = b := by
  rcases a with _ | ⟨a0, a1, a2, a3, a4⟩ <;> rcases b with _ | ⟨b0, b1, b2, b3, b4⟩ <;> simp [leadT] at h ⊢
  exact h
theorem leadOf_t : ∀ b, b < 256 → (leadOf b).map leadT = (leadF b).map leadT := by decide +kernel
theorem leadOf_eq (b : Nat) (h : b < 256) : leadOf b = if b < 128 then some ⟨0, 127, 0, 0, 0⟩ else if b < 194 then none else if b < 224 then some ⟨194, 223, 1, 128, 191⟩ else if b < 240 then some (lead3 b) else if b < 245 then some (lead4 b) else none := leadT_one (leadOf_t b h)
theorem tk8_eq (s : ByteArray) : tk8 s = if byN s 0 < 128 then ((byN s 0 : Int), 1) else if byN s 0 < 194 then (-1, 1)
    else if byN s 0 < 224 then (if 1 = s.size ∨ byN s 1 < 128 ∨ 191 < byN s 1 then (-1, 1) else (((64 * (byN s 0 % 64) + byN s 1 % 64 : Nat) : Int), 2))
    else if byN s 0 < 240 then (if 1 = s.size ∨ byN s 1 < (if byN s 0 = 224 then 160 else 128) ∨ (if byN s 0 = 237 then 159 else 191) < byN s 1 then (-1, 1) else if 2 = s.size ∨ byN s 2 < 128 ∨ 191 < byN s 2 then (-1, 2) else (((64 * (64 * (byN s 0 % 32) + byN s 1 % 64) + byN s 2 % 64 : Nat) : Int), 3))
    else if byN s 0 < 245 then (if 1 = s.size ∨ byN s 1 < (if byN s 0 = 240 then 144 else 128) ∨ (if byN s 0 = 244 then 143 else 191) < byN s 1 then (-1, 1) else if 2 = s.size ∨ byN s 2 < 128 ∨ 191 < byN s 2 then (-1, 2) else if 3 = s.size ∨ byN s 3 < 128 ∨ 191 < byN s 3 then (-1, 3) else (((64 * (64 * (64 * (byN s 0 % 16) + byN s 1 % 64) + byN s 2 % 64) + byN s 3 % 64 : Nat) : Int), 4))
    else (-1, 1) := by
  have hb := by_lt s 0
  unfold tk8
  rw [leadOf_eq _ hb]
  generalize byN s 0 = b at *
  by_cases c1 : b < 128
  · rw [if_pos c1, if_pos c1]
    show (((b % 2 ^ 7 : Nat) : Int), 1) = _
    rw [show b % 2 ^ 7 = b by omega]
  rw [if_neg c1, if_neg c1]
  by_cases c2 : b < 194
  · rw [if_pos c2, if_pos c2]
  rw [if_neg c2, if_neg c2]
  by_cases c3 : b < 224
  · rw [if_pos c3, if_pos c3]
    rfl
  rw [if_neg c3, if_neg c3]
  by_cases c4 : b < 240
  · rw [if_pos c4, if_pos c4]
    rfl
  rw [if_neg c4, if_neg c4]
  by_cases c5 : b < 245
  · rw [if_pos c5, if_pos c5]
    rfl
  rw [if_neg c5, if_neg c5]

/-- Bytes behind a place. -/
theorem rest_by {s : ByteArray} {i j : Nat} (h : i + j < s.size) : byN (s.extract i s.size) j = byN s (i + j) := by_extract s i j h
theorem rest_size (s : ByteArray) (i : Nat) : (s.extract i s.size).size = s.size - i := size_rest s i
theorem tk8_fwd (s : ByteArray) (i : Nat) (x : Int) (hx : scB x = true) (h : Lays s i (en8 x)) : tk8 (s.extract i s.size) = (x, (en8 x).length) := by
  rw [scB_iff] at hx
  rw [tk8_eq, rest_size]
  unfold en8 at h ⊢
  by_cases h1 : x < 128
  · rw [if_pos h1] at h ⊢
    obtain ⟨p0, q0⟩ := h 0 (by simp)
    rw [rest_by p0]
    simp at q0
    simp only [Nat.add_zero]
    rw [if_pos (by omega)]
    simp [q0]
  · rw [if_neg h1] at h ⊢
    by_cases h2 : x < 2048
    · rw [if_pos h2] at h ⊢
      obtain ⟨p0, q0⟩ := h 0 (by simp)
      obtain ⟨p1, q1⟩ := h 1 (by simp)
      rw [rest_by p0, rest_by p1]
      simp only [List.getElem_cons_zero, List.getElem_cons_succ] at q0 q1
      rw [if_neg (by omega), if_neg (by omega), if_pos (by omega), if_neg (by omega)]
      refine Prod.ext ?_ rfl
      dsimp only
      omega
    · rw [if_neg h2] at h ⊢
      by_cases h3 : x < 65536
      · rw [if_pos h3] at h ⊢
        obtain ⟨p0, q0⟩ := h 0 (by simp)
        obtain ⟨p1, q1⟩ := h 1 (by simp)
        obtain ⟨p2, q2⟩ := h 2 (by simp)
        rw [rest_by p0, rest_by p1, rest_by p2]
        simp only [List.getElem_cons_zero, List.getElem_cons_succ] at q0 q1 q2
        rw [if_neg (by omega), if_neg (by omega), if_neg (by omega), if_pos (by omega), if_neg (by split <;> split <;> omega), if_neg (by omega)]
        refine Prod.ext ?_ rfl
        dsimp only
        omega
      · rw [if_neg h3] at h ⊢
        obtain ⟨p0, q0⟩ := h 0 (by simp)
        obtain ⟨p1, q1⟩ := h 1 (by simp)
        obtain ⟨p2, q2⟩ := h 2 (by simp)
        obtain ⟨p3, q3⟩ := h 3 (by simp)
        rw [rest_by p0, rest_by p1, rest_by p2, rest_by p3]
        simp only [List.getElem_cons_zero, List.getElem_cons_succ] at q0 q1 q2 q3
        rw [if_neg (by omega), if_neg (by omega), if_neg (by omega), if_neg (by omega), if_pos (by omega), if_neg (by split <;> split <;> omega), if_neg (by omega), if_neg (by omega)]
        refine Prod.ext ?_ rfl
        dsimp only
        omega
theorem tk8_bwd (s : ByteArray) (i : Nat) (hi : i < s.size) (hx : (tk8 (s.extract i s.size)).1 ≠ -1) : scB (tk8 (s.extract i s.size)).1 = true ∧ Lays s i (en8 (tk8 (s.extract i s.size)).1) ∧ (tk8 (s.extract i s.size)).2 = (en8 (tk8 (s.extract i s.size)).1).length := by
  obtain ⟨r, hr⟩ : ∃ r, r = s.extract i s.size := ⟨_, rfl⟩
  have hsz : r.size = s.size - i := by rw [hr]; exact rest_size s i
  have hby : ∀ j, i + j < s.size → byN r j = byN s (i + j) := fun j h => by rw [hr]; exact rest_by h
  rw [← hr] at hx ⊢
  clear hr
  have b0 := by_lt r 0
  have e0 := hby 0 (by omega)
  rw [tk8_eq] at hx ⊢
  by_cases c1 : byN r 0 < 128
  · rw [if_pos c1]
    have hen : en8 (byN r 0 : Int) = [(byN r 0 : Int)] := by
      unfold en8
      rw [if_pos (by omega)]
    refine ⟨(scB_iff _).2 (by dsimp only; omega), ?_, ?_⟩
    · dsimp only
      rw [hen]
      intro j hj
      obtain rfl : j = 0 := by simp at hj; exact hj
      exact ⟨by omega, by rw [← e0]; rfl⟩
    · dsimp only
      rw [hen]
      rfl
  rw [if_neg c1] at hx ⊢
  by_cases c2 : byN r 0 < 194
  · rw [if_pos c2] at hx
    exact absurd rfl hx
  rw [if_neg c2] at hx ⊢
  by_cases c3 : byN r 0 < 224
  · rw [if_pos c3] at hx ⊢
    by_cases d1 : 1 = r.size ∨ byN r 1 < 128 ∨ 191 < byN r 1
    · rw [if_pos d1] at hx
      exact absurd rfl hx
    rw [if_neg d1]
    have e1 := hby 1 (by omega)
    have hen : en8 ((64 * (byN r 0 % 64) + byN r 1 % 64 : Nat) : Int) = [(byN r 0 : Int), (byN r 1 : Int)] := by
      unfold en8
      rw [if_neg (by omega), if_pos (by omega), show 192 + ((64 * (byN r 0 % 64) + byN r 1 % 64 : Nat) : Int) / 64 = (byN r 0 : Int) by omega, show 128 + ((64 * (byN r 0 % 64) + byN r 1 % 64 : Nat) : Int) % 64 = (byN r 1 : Int) by omega]
    refine ⟨(scB_iff _).2 (by dsimp only; omega), ?_, ?_⟩
    · dsimp only
      rw [hen]
      intro j hj
      rcases (show j = 0 ∨ j = 1 by simp at hj; omega) with rfl | rfl
      · exact ⟨by omega, by rw [← e0]; rfl⟩
      · exact ⟨by omega, by rw [← e1]; rfl⟩
    · dsimp only
      rw [hen]
      rfl
  rw [if_neg c3] at hx ⊢
  by_cases c4 : byN r 0 < 240
  · rw [if_pos c4] at hx ⊢
    by_cases d1 : 1 = r.size ∨ byN r 1 < (if byN r 0 = 224 then 160 else 128) ∨ (if byN r 0 = 237 then 159 else 191) < byN r 1
    · rw [if_pos d1] at hx
      exact absurd rfl hx
    rw [if_neg d1] at hx ⊢
    by_cases d2 : 2 = r.size ∨ byN r 2 < 128 ∨ 191 < byN r 2
    · rw [if_pos d2] at hx
      exact absurd rfl hx
    rw [if_neg d2]
    have e1 := hby 1 (by omega)
    have e2 := hby 2 (by omega)
    obtain ⟨x, hxx⟩ : ∃ x : Int, x = ((64 * (64 * (byN r 0 % 32) + byN r 1 % 64) + byN r 2 % 64 : Nat) : Int) := ⟨_, rfl⟩
    rw [← hxx]
    have hlo : 2048 ≤ x ∧ x < 65536 ∧ (x < 55296 ∨ 57344 ≤ x) := by
      split at d1 <;> split at d1 <;> omega
    have hlow : 128 ≤ byN r 1 ∧ byN r 1 ≤ 191 := by
      split at d1 <;> split at d1 <;> omega
    have hen : en8 x = [(byN r 0 : Int), (byN r 1 : Int), (byN r 2 : Int)] := by
      unfold en8
      rw [if_neg (by omega), if_neg (by omega), if_pos (by omega), show 224 + x / 4096 = (byN r 0 : Int) by omega, show 128 + x / 64 % 64 = (byN r 1 : Int) by omega, show 128 + x % 64 = (byN r 2 : Int) by omega]
    refine ⟨(scB_iff _).2 (by dsimp only; omega), ?_, ?_⟩
    · dsimp only
      rw [hen]
      intro j hj
      rcases (show j = 0 ∨ j = 1 ∨ j = 2 by simp at hj; omega) with rfl | rfl | rfl
      · exact ⟨by omega, by rw [← e0]; rfl⟩
      · exact ⟨by omega, by rw [← e1]; rfl⟩
      · exact ⟨by omega, by rw [← e2]; rfl⟩
    · dsimp only
      rw [hen]
      rfl
  rw [if_neg c4] at hx ⊢
  by_cases c5 : byN r 0 < 245
  · rw [if_pos c5] at hx ⊢
    by_cases d1 : 1 = r.size ∨ byN r 1 < (if byN r 0 = 240 then 144 else 128) ∨ (if byN r 0 = 244 then 143 else 191) < byN r 1
    · rw [if_pos d1] at hx
      exact absurd rfl hx
    rw [if_neg d1] at hx ⊢
    by_cases d2 : 2 = r.size ∨ byN r 2 < 128 ∨ 191 < byN r 2
    · rw [if_pos d2] at hx
      exact absurd rfl hx
    rw [if_neg d2] at hx ⊢
    by_cases d3 : 3 = r.size ∨ byN r 3 < 128 ∨ 191 < byN r 3
    · rw [if_pos d3] at hx
      exact absurd rfl hx
    rw [if_neg d3]
    have e1 := hby 1 (by omega)
    have e2 := hby 2 (by omega)
    have e3 := hby 3 (by omega)
    obtain ⟨x, hxx⟩ : ∃ x : Int, x = ((64 * (64 * (64 * (byN r 0 % 16) + byN r 1 % 64) + byN r 2 % 64) + byN r 3 % 64 : Nat) : Int) := ⟨_, rfl⟩
    rw [← hxx]
    have hlo : 65536 ≤ x ∧ x ≤ 1114111 := by
      split at d1 <;> split at d1 <;> omega
    have hlow : 128 ≤ byN r 1 ∧ byN r 1 ≤ 191 := by
      split at d1 <;> split at d1 <;> omega
    have hen : en8 x = [(byN r 0 : Int), (byN r 1 : Int), (byN r 2 : Int), (byN r 3 : Int)] := by
      unfold en8
      rw [if_neg (by omega), if_neg (by omega), if_neg (by omega), show 240 + x / 262144 = (byN r 0 : Int) by omega, show 128 + x / 4096 % 64 = (byN r 1 : Int) by omega, show 128 + x / 64 % 64 = (byN r 2 : Int) by omega, show 128 + x % 64 = (byN r 3 : Int) by omega]
    refine ⟨(scB_iff _).2 (by dsimp only; omega), ?_, ?_⟩
    · dsimp only
      rw [hen]
      intro j hj
      rcases (show j = 0 ∨ j = 1 ∨ j = 2 ∨ j = 3 by simp at hj; omega) with rfl | rfl | rfl | rfl
      · exact ⟨by omega, by rw [← e0]; rfl⟩
      · exact ⟨by omega, by rw [← e1]; rfl⟩
      · exact ⟨by omega, by rw [← e2]; rfl⟩
      · exact ⟨by omega, by rw [← e3]; rfl⟩
    · dsimp only
      rw [hen]
      rfl
  rw [if_neg c5] at hx
  exact absurd rfl hx
end Go.Proofs.YtpjnnbegimaaeaaDoor

/- Every coding: what a scalar's bytes tell, and what Decode makes of the bytes of scalars one behind the other: plain; no condition beside those told. -/
namespace Go.Proofs.YtpjnnbegimaaeaaDoor
open Go.RowKit
open Go.Lib

def unitF (f : Nat) (s : ByteArray) : Nat → Int := if f = 34 then unitL s else unitB s
theorem unit_fwd (f : Nat) (s : ByteArray) (i : Nat) (r : Int) (h : Lays s i (enU f r)) : unitF f s i = r := by
  unfold unitF
  unfold enU at h
  by_cases hf : f = 34
  · rw [if_pos hf] at h ⊢
    obtain ⟨p0, q0⟩ := h 0 (by simp)
    obtain ⟨p1, q1⟩ := h 1 (by simp)
    simp only [List.getElem_cons_zero, List.getElem_cons_succ, Nat.add_zero] at q0 q1
    unfold unitL
    rw [if_neg (by omega)]
    omega
  · rw [if_neg hf] at h ⊢
    obtain ⟨p0, q0⟩ := h 0 (by simp)
    obtain ⟨p1, q1⟩ := h 1 (by simp)
    simp only [List.getElem_cons_zero, List.getElem_cons_succ, Nat.add_zero] at q0 q1
    unfold unitB
    rw [if_neg (by omega)]
    omega
theorem unit_bwd (f : Nat) (s : ByteArray) (i : Nat) (h : unitF f s i ≠ -1) : Lays s i (enU f (unitF f s i)) ∧ 0 ≤ unitF f s i ∧ unitF f s i ≤ 65535 := by
  have b0 := by_lt s i
  have b1 := by_lt s (i + 1)
  unfold unitF at h ⊢
  unfold enU
  by_cases hf : f = 34
  · simp only [if_pos hf] at h ⊢
    unfold unitL at h ⊢
    by_cases hs : s.size < i + 2
    · rw [if_pos hs] at h
      exact absurd rfl h
    · rw [if_neg hs]
      refine ⟨fun j hj => ?_, by omega, by omega⟩
      rcases (show j = 0 ∨ j = 1 by simp at hj; omega) with rfl | rfl
      · exact ⟨by omega, by simp only [List.getElem_cons_zero, Nat.add_zero]; omega⟩
      · exact ⟨by omega, by simp only [List.getElem_cons_zero, List.getElem_cons_succ]; omega⟩
  · simp only [if_neg hf] at h ⊢
    unfold unitB at h ⊢
    by_cases hs : s.size < i + 2
    · rw [if_pos hs] at h
      exact absurd rfl h
    · rw [if_neg hs]
      refine ⟨fun j hj => ?_, by omega, by omega⟩
      rcases (show j = 0 ∨ j = 1 by simp at hj; omega) with rfl | rfl
      · exact ⟨by omega, by simp only [List.getElem_cons_zero, Nat.add_zero]; omega⟩
      · exact ⟨by omega, by simp only [List.getElem_cons_zero, List.getElem_cons_succ]; omega⟩
theorem unit_in (f : Nat) (s : ByteArray) (i : Nat) : -1 ≤ unitF f s i ∧ unitF f s i ≤ 65535 := by
  unfold unitF
  split
  · exact unitL_in s i
  · exact unitB_in s i
theorem enU_len (f : Nat) (r : Int) : (enU f r).length = 2 := by
  unfold enU
  split <;> rfl
theorem Lays.app {s : ByteArray} {i : Nat} {a b : List Int} (h : Lays s i a) (h2 : Lays s (i + a.length) b) : Lays s i (a ++ b) := fun j hj => by
  by_cases hl : j < a.length
  · obtain ⟨h1, h2⟩ := h j hl
    exact ⟨h1, by rw [h2, List.getElem_append_left hl]⟩
  · obtain ⟨h1, h2⟩ := h2 (j - a.length) (by simp at hj; omega)
    rw [show i + a.length + (j - a.length) = i + j by omega] at h1 h2
    exact ⟨h1, by rw [h2, List.getElem_append_right (by omega)]⟩
theorem tk16_fwd (f : Nat) (s : ByteArray) (i : Nat) (x : Int) (hx : scB x = true) (h : Lays s i (en16 f x)) : tk16 (unitF f s) i = (x, (en16 f x).length) := by
  rw [scB_iff] at hx
  unfold en16 at h ⊢
  unfold tk16
  by_cases h1 : x < 65536
  · rw [if_pos h1] at h ⊢
    rw [unit_fwd f s i x h, if_neg (by omega), if_pos (by omega), enU_len]
  · rw [if_neg h1] at h ⊢
    have r := h.right
    rw [enU_len] at r
    rw [unit_fwd f s i _ h.left, unit_fwd f s (i + 2) _ r, if_neg (by omega), if_neg (by omega), if_neg (by omega), List.length_append, enU_len, enU_len]
    refine Prod.ext ?_ rfl
    dsimp only
    omega
theorem tk16_bwd (f : Nat) (s : ByteArray) (i : Nat) (hx : (tk16 (unitF f s) i).1 ≠ -1) : scB (tk16 (unitF f s) i).1 = true ∧ Lays s i (en16 f (tk16 (unitF f s) i).1) ∧ (tk16 (unitF f s) i).2 = (en16 f (tk16 (unitF f s) i).1).length := by
  unfold tk16 at hx ⊢
  by_cases c0 : unitF f s i = -1
  · rw [if_pos c0] at hx
    exact absurd rfl hx
  rw [if_neg c0] at hx ⊢
  obtain ⟨u1, u2, u3⟩ := unit_bwd f s i c0
  by_cases c1 : ¬ (55296 ≤ unitF f s i ∧ unitF f s i < 57344)
  · rw [if_pos c1]
    have hen : en16 f (unitF f s i) = enU f (unitF f s i) := by
      unfold en16
      rw [if_pos (by omega)]
    refine ⟨(scB_iff _).2 (by dsimp only; omega), ?_, ?_⟩
    · dsimp only
      rw [hen]
      exact u1
    · dsimp only
      rw [hen, enU_len]
  rw [if_neg c1] at hx ⊢
  by_cases c2 : 56320 ≤ unitF f s i ∨ unitF f s (i + 2) < 56320 ∨ 57344 ≤ unitF f s (i + 2)
  · rw [if_pos c2] at hx
    exact absurd rfl hx
  rw [if_neg c2]
  obtain ⟨v1, v2, v3⟩ := unit_bwd f s (i + 2) (by omega)
  obtain ⟨x, hxx⟩ : ∃ x : Int, x = 65536 + (unitF f s i - 55296) * 1024 + unitF f s (i + 2) - 56320 := ⟨_, rfl⟩
  rw [← hxx]
  have hen : en16 f x = enU f (unitF f s i) ++ enU f (unitF f s (i + 2)) := by
    unfold en16
    rw [if_neg (by omega), show 55296 + (x - 65536) / 1024 = unitF f s i by omega, show 56320 + (x - 65536) % 1024 = unitF f s (i + 2) by omega]
  refine ⟨(scB_iff _).2 (by dsimp only; omega), ?_, ?_⟩
  · dsimp only
    rw [hen]
    refine u1.app ?_
    rw [enU_len]
    exact v1
  · dsimp only
    rw [hen, List.length_append, enU_len, enU_len]

theorem tkAt1 (s : ByteArray) (i : Nat) : tkAt s 1 i = tk8 (s.extract i s.size) := by
  unfold tkAt
  rw [if_neg (by decide), if_neg (by decide), if_neg (by decide)]
theorem tkAt2 (s : ByteArray) (i : Nat) : tkAt s 2 i = tk16 (unitF 34 s) i := by
  unfold tkAt unitF
  rw [if_pos rfl, if_pos rfl]
theorem tkAt3 (s : ByteArray) (i : Nat) : tkAt s 3 i = tk16 (unitF 35 s) i := by
  unfold tkAt unitF
  rw [if_neg (by decide), if_pos rfl, if_neg (by decide)]
theorem tkAt4 (s : ByteArray) (i : Nat) : tkAt s 4 i = ((byN s i : Int), 1) := by
  unfold tkAt
  rw [if_neg (by decide), if_neg (by decide), if_pos rfl]
theorem enc1 (x : Int) : enc 1 x = en8 x := by
  unfold enc
  rw [if_pos rfl]
theorem enc2 (x : Int) : enc 2 x = en16 34 x := by
  unfold enc
  rw [if_neg (by decide), if_pos rfl]
theorem enc3 (x : Int) : enc 3 x = en16 35 x := by
  unfold enc
  rw [if_neg (by decide), if_neg (by decide), if_pos rfl]
theorem enc4 (x : Int) : enc 4 x = [x] := by
  unfold enc
  rw [if_neg (by decide), if_neg (by decide), if_neg (by decide)]
theorem okc_sc {c : Nat} {x : Int} (h : okc c x = true) : scB x = true := by
  unfold okc at h
  rw [Bool.and_eq_true] at h
  exact h.1
theorem tkAt_fwd (c : Nat) (hc : c = 1 ∨ c = 2 ∨ c = 3 ∨ c = 4) (s : ByteArray) (i : Nat) (x : Int) (hx : okc c x = true) (h : Lays s i (enc c x)) : tkAt s c i = (x, (enc c x).length) := by
  rcases hc with rfl | rfl | rfl | rfl
  · rw [tkAt1, enc1]
    rw [enc1] at h
    exact tk8_fwd s i x (okc_sc hx) h
  · rw [tkAt2, enc2]
    rw [enc2] at h
    exact tk16_fwd 34 s i x (okc_sc hx) h
  · rw [tkAt3, enc3]
    rw [enc3] at h
    exact tk16_fwd 35 s i x (okc_sc hx) h
  · rw [enc4] at h ⊢
    obtain ⟨_, q0⟩ := h 0 (by simp)
    rw [Nat.add_zero, List.getElem_cons_zero] at q0
    rw [tkAt4, q0]
    rfl
theorem tkAt_bwd (c : Nat) (hc : c = 1 ∨ c = 2 ∨ c = 3 ∨ c = 4) (s : ByteArray) (i : Nat) (hi : i < s.size) (hx : (tkAt s c i).1 ≠ -1) : okc c (tkAt s c i).1 = true ∧ Lays s i (enc c (tkAt s c i).1) ∧ (tkAt s c i).2 = (enc c (tkAt s c i).1).length := by
  have ok : ∀ d, d ≠ 4 → ∀ x, scB x = true → okc d x = true := fun d hd x h => by
    unfold okc
    rw [h, decide_eq_true hd]
    rfl
  rcases hc with rfl | rfl | rfl | rfl
  · rw [tkAt1] at hx ⊢
    rw [enc1]
    obtain ⟨h1, h2, h3⟩ := tk8_bwd s i hi hx
    exact ⟨ok 1 (by decide) _ h1, h2, h3⟩
  · rw [tkAt2] at hx ⊢
    rw [enc2]
    obtain ⟨h1, h2, h3⟩ := tk16_bwd 34 s i hx
    exact ⟨ok 2 (by decide) _ h1, h2, h3⟩
  · rw [tkAt3] at hx ⊢
    rw [enc3]
    obtain ⟨h1, h2, h3⟩ := tk16_bwd 35 s i hx
    exact ⟨ok 3 (by decide) _ h1, h2, h3⟩
  · have hb := by_lt s i
    rw [tkAt4, enc4]
    refine ⟨?_, ?_, rfl⟩
    · unfold okc
      rw [Bool.and_eq_true, scB_iff]
      refine ⟨by dsimp only; omega, ?_⟩
      rw [decide_eq_true (show (byN s i : Int) ≤ 255 by omega)]
      rfl
    · intro j hj
      obtain rfl : j = 0 := by
        have : j < 1 := hj
        omega
      exact ⟨by omega, rfl⟩
theorem enc_pos (c : Nat) (x : Int) : 0 < (enc c x).length := by
  unfold enc en8 en16 enU
  repeat' split
  all_goals simp

/-- Scalars' bytes one behind the other, to the end, are decoded as these. -/
theorem dc_fwd (c : Nat) (hc : c = 1 ∨ c = 2 ∨ c = 3 ∨ c = 4) (s : ByteArray) (strict : Bool) : ∀ (l : List Int) (k i : Nat) (rs ps : List Int) (bad : Nat), l.all (okc c) = true → Lays s i (l.flatMap (enc c)) → s.size = i + (l.flatMap (enc c)).length → s.size ≤ i + k →
    ∃ ps', dcGo s c strict k i rs ps bad = (none, rs ++ l, ps', bad)
  | [], k, i, rs, ps, bad, _, _, he, _ => by
    simp only [List.flatMap_nil, List.length_nil, Nat.add_zero] at he
    exact ⟨ps, by rw [dc_end (by omega), List.append_nil]⟩
  | x :: l, k, i, rs, ps, bad, ha, hl, he, hk => by
    rw [List.all_cons, Bool.and_eq_true] at ha
    rw [List.flatMap_cons] at hl he
    rw [List.length_append] at he
    have hp := enc_pos c x
    have ht := tkAt_fwd c hc s i x ha.1 hl.left
    obtain ⟨k, rfl⟩ : ∃ j, k = j + 1 := ⟨k - 1, by omega⟩
    have hx := (okc_in ha.1).1
    rw [dc_step (by omega), ht, if_neg (by dsimp only; omega)]
    obtain ⟨ps', h⟩ := dc_fwd c hc s strict l k (i + (enc c x).length) (rs ++ [x]) (ps ++ [(i : Int)]) bad ha.2 hl.right (by omega) (by omega)
    exact ⟨ps', by rw [h, List.append_assoc]; rfl⟩
end Go.Proofs.YtpjnnbegimaaeaaDoor
