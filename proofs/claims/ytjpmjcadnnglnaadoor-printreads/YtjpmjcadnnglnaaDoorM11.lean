/- Texts of this proof, one behind the other: what each says stands ahead of it. -/
import Derived.Test.YtjpmjcadnnglnaaDoorM10
import Derived.Test.YtjpmjcadnnglnaaDoorM4
import Derived.Test.YtjpmjcadnnglnaaDoorM7
/- What stands at a place where a scalar's bytes lie, and the other way round: plain; no condition beside those told. -/
namespace Go.Proofs.YtjpmjcadnnglnaaDoor
open Go.RowKit
open Go.Lib

/-- Such bytes lie from a place on. -/
def Lays (s : ByteArray) (i : Nat) (l : List Int) : Prop := ∀ j (h : j < l.length), i + j < s.size ∧ (byN s (i + j) : Int) = l[j]
theorem Lays.nil (s : ByteArray) (i : Nat) : Lays s i [] := fun j h => by simp at h
theorem Lays.left {s : ByteArray} {i : Nat} {a b : List Int} (h : Lays s i (a ++ b)) : Lays s i a := fun j hj => by
  obtain ⟨h1, h2⟩ := h j (by simp; omega)
  exact ⟨h1, by rw [h2, List.getElem_append_left hj]⟩
theorem Lays.right {s : ByteArray} {i : Nat} {a b : List Int} (h : Lays s i (a ++ b)) : Lays s (i + a.length) b := fun j hj => by
  obtain ⟨h1, h2⟩ := h (a.length + j) (by simp; omega)
  refine ⟨by omega, ?_⟩
  rw [show i + a.length + j = i + (a.length + j) by omega, h2, List.getElem_append_right (by omega)]
  congr 1
  omega
def lead3 (b : Nat) : Lead := ⟨if b = 224 then 224 else if b ≤ 236 then 225 else if b = 237 then 237 else 238, if b = 224 then 224 else if b ≤ 236 then 236 else if b = 237 then 237 else 239, 2, if b = 224 then 160 else 128, if b = 237 then 159 else 191⟩
def lead4 (b : Nat) : Lead := ⟨if b = 240 then 240 else if b ≤ 243 then 241 else 244, if b = 240 then 240 else if b ≤ 243 then 243 else 244, 3, if b = 240 then 144 else 128, if b = 244 then 143 else 191⟩
def leadT (l : Lead) : List Nat := [l.first, l.last, l.more, l.low, l.high]
def leadF (b : Nat) : Option Lead := if b < 128 then some ⟨0, 127, 0, 0, 0⟩ else if b < 194 then none else if b < 224 then some ⟨194, 223, 1, 128, 191⟩ else if b < 240 then some (lead3 b) else if b < 245 then some (lead4 b) else none
theorem leadT_one {a b : Option Lead} (h : a.map leadT = b.map leadT) : a = b := by
  rcases a with _ | ⟨a0, a1, a2, a3, a4⟩ <;> rcases b with _ | ⟨b0, b1, b2, b3, b4⟩ <;> simp [leadT] at h ⊢
  exact h
theorem leadOf_t : ∀ b, b < 256 → (leadOf b).map leadT = (leadF b).map leadT := by decide +kernel
theorem leadOf_eq (b : Nat) (h : b < 256) : leadOf b = if b < 128 then some ⟨0, 127, 0, 0, 0⟩ else if b < 194 then none else if b < 224 then some ⟨194, 223, 1, 128, 191⟩ else if b < 240 then some (lead3 b) else if b < 245 then some (lead4 b) else none := leadT_one (leadOf_t b h)
theorem tk8_eq (s : ByteArray) : tk8 s = if byN s 0 < 128 then ((byN s 0 : Int), 1) else if byN s 0 < 194 then (-1, 1)
    else if byN s 0 < 224 then (if 1 = s.size ∨ byN s 1 < 128 ∨ 191 < byN s 1 then (-1, 1) else (((64 * (byN s 0 % 64) + byN s 1 % 64 : Nat) : Int), 2))
    else if byN s 0 < 240 then (if 1 = s.size ∨ byN s 1 < (if byN s 0 = 224 then 160 else 128) ∨ (if byN s 0 = 237 then 159 else 191) < byN s 1 then (-1, 1) else if 2 = s.size ∨ byN s 2 < 128 ∨ 191 < byN s 2 then (-1, 2) else (((64 * (64 * (byN s 0 % 32) + byN s 1 % 64) + byN s 2 % 64 : Nat) : Int), 3))
    else if byN s 0 < 245 then (if 1 = s.size ∨ byN s 1 < (if byN s 0 = 240 then 144 else 128) ∨ (if byN s 0 = 244 then 143 else 191) < byN s 1 then (-1, 1) else if 2 = s.size ∨ byN s 2 < 128 ∨ 191 < byN s 2 then (-1, 2) else if 3 = s.size ∨ byN s 3 < 128 ∨ 191 < byN s 3 then (-1, 3) else (((64 * (64 * (64 * (byN s 0 % 16) + byN s 1 % 64) + byN s 2 % 64) + byN s 3 % 64 : Nat) : Int), 4))
    else (-1, 1) := by
  have hb := by_lt s 0
  unfold tk8
  rw [leadOf_eq _ hb]
  generalize byN s 0 = b at *
  by_cases c1 : b < 128
  · rw [if_pos c1, if_pos c1]
    show (((b % 2 ^ 7 : Nat) : Int), 1) = _
    rw [show b % 2 ^ 7 = b by omega]
  rw [if_neg c1, if_neg c1]
  by_cases c2 : b < 194
  · rw [if_pos c2, if_pos c2]
  rw [if_neg c2, if_neg c2]
  by_cases c3 : b < 224
  · rw [if_pos c3, if_pos c3]
    rfl
  rw [if_neg c3, if_neg c3]
  by_cases c4 : b < 240
  · rw [if_pos c4, if_pos c4]
    rfl
  rw [if_neg c4, if_neg c4]
  by_cases c5 : b < 245
  · rw [if_pos c5, if_pos c5]
    rfl
  rw [if_neg c5, if_neg c5]

/-- Bytes behind a place. -/
theorem rest_by {s : ByteArray} {i j : Nat} (h : i + j < s.size) : byN (s.extract i s.size) j = byN s (i + j) := by_extract s i j h
theorem rest_size (s : ByteArray) (i : Nat) : (s.extract i s.size).size = s.size - i := size_rest s i
theorem tk8_fwd (s : ByteArray) (i : Nat) (x : Int) (hx : scB x = true) (h : Lays s i (en8 x)) : tk8 (s.extract i s.size) = (x, (en8 x).length) := by
  rw [scB_iff] at hx
  rw [tk8_eq, rest_size]
  unfold en8 at h ⊢
  by_cases h1 : x < 128
  · rw [if_pos h1] at h ⊢
    obtain ⟨p0, q0⟩ := h 0 (by simp)
    rw [rest_by p0]
    simp at q0
    simp only [Nat.add_zero]
    rw [if_pos (by omega)]
    simp [q0]
  · rw [if_neg h1] at h ⊢
    by_cases h2 : x < 2048
    · rw [if_pos h2] at h ⊢
      obtain ⟨p0, q0⟩ := h 0 (by simp)
      obtain ⟨p1, q1⟩ := h 1 (by simp)
      rw [rest_by p0, rest_by p1]
      simp only [List.getElem_cons_zero, List.getElem_cons_succ] at q0 q1
      rw [if_neg (by omega), if_neg (by omega), if_pos (by omega), if_neg (by omega)]
      refine Prod.ext ?_ rfl
      dsimp only
      omega
    · rw [if_neg h2] at h ⊢
      by_cases h3 : x < 65536
      · rw [if_pos h3] at h ⊢
        obtain ⟨p0, q0⟩ := h 0 (by simp)
        obtain ⟨p1, q1⟩ := h 1 (by simp)
        obtain ⟨p2, q2⟩ := h 2 (by simp)
        rw [rest_by p0, rest_by p1, rest_by p2]
        simp only [List.getElem_cons_zero, List.getElem_cons_succ] at q0 q1 q2
        rw [if_neg (by omega), if_neg (by omega), if_neg (by omega), if_pos (by omega), if_neg (by split <;> split <;> omega), if_neg (by omega)]
        refine Prod.ext ?_ rfl
        dsimp only
        omega
      · rw [if_neg h3] at h ⊢
        obtain ⟨p0, q0⟩ := h 0 (by simp)
        obtain ⟨p1, q1⟩ := h 1 (by simp)
        obtain ⟨p2, q2⟩ := h 2 (by simp)
        obtain ⟨p3, q3⟩ := h 3 (by simp)
        rw [rest_by p0, rest_by p1, rest_by p2, rest_by p3]
        simp only [List.getElem_cons_zero, List.getElem_cons_succ] at q0 q1 q2 q3
        rw [if_neg (by omega), if_neg (by omega), if_neg (by omega), if_neg (by omega), if_pos (by omega), if_neg (by split <;> split <;> omega), if_neg (by omega), if_neg (by omega)]
        refine Prod.ext ?_ rfl
        dsimp only
        omega
theorem tk8_bwd (s : ByteArray) (i : Nat) (hi : i < s.size) (hx : (tk8 (s.extract i s.size)).1 ≠ -1) : scB (tk8 (s.extract i s.size)).1 = true ∧ Lays s i (en8 (tk8 (s.extract i s.size)).1) ∧ (tk8 (s.extract i s.size)).2 = (en8 (tk8 (s.extract i s.size)).1).length := by
  obtain ⟨r, hr⟩ : ∃ r, r = s.extract i s.size := ⟨_, rfl⟩
  have hsz : r.size = s.size - i := by rw [hr]; exact rest_size s i
  have hby : ∀ j, i + j < s.size → byN r j = byN s (i + j) := fun j h => by rw [hr]; exact rest_by h
  rw [← hr] at hx ⊢
  clear hr
  have b0 := by_lt r 0
  have e0 := hby 0 (by omega)
  rw [tk8_eq] at hx ⊢
  by_cases c1 : byN r 0 < 128
  · rw [if_pos c1]
    have hen : en8 (byN r 0 : Int) = [(byN r 0 : Int)] := by
      unfold en8
      rw [if_pos (by omega)]
    refine ⟨(scB_iff _).2 (by dsimp only; omega), ?_, ?_⟩
    · dsimp only
      rw [hen]
      intro j hj
      obtain rfl : j = 0 := by simp at hj; exact hj
      exact ⟨by omega, by rw [← e0]; rfl⟩
    · dsimp only
      rw [hen]
      rfl
  rw [if_neg c1] at hx ⊢
  by_cases c2 : byN r 0 < 194
  · rw [if_pos c2] at hx
    exact absurd rfl hx
  rw [if_neg c2] at hx ⊢
  by_cases c3 : byN r 0 < 224
  · rw [if_pos c3] at hx ⊢
    by_cases d1 : 1 = r.size ∨ byN r 1 < 128 ∨ 191 < byN r 1
    · rw [if_pos d1] at hx
      exact absurd rfl hx
    rw [if_neg d1]
    have e1 := hby 1 (by omega)
    have hen : en8 ((64 * (byN r 0 % 64) + byN r 1 % 64 : Nat) : Int) = [(byN r 0 : Int), (byN r 1 : Int)] := by
      unfold en8
      rw [if_neg (by omega), if_pos (by omega), show 192 + ((64 * (byN r 0 % 64) + byN r 1 % 64 : Nat) : Int) / 64 = (byN r 0 : Int) by omega, show 128 + ((64 * (byN r 0 % 64) + byN r 1 % 64 : Nat) : Int) % 64 = (byN r 1 : Int) by omega]
    refine ⟨(scB_iff _).2 (by dsimp only; omega), ?_, ?_⟩
    · dsimp only
      rw [hen]
      intro j hj
      rcases (show j = 0 ∨ j = 1 by simp at hj; omega) with rfl | rfl
      · exact ⟨by omega, by rw [← e0]; rfl⟩
      · exact ⟨by omega, by rw [← e1]; rfl⟩
    · dsimp only
      rw [hen]
      rfl
  rw [if_neg c3] at hx ⊢
  by_cases c4 : byN r 0 < 240
  · rw [if_pos c4] at hx ⊢
    by_cases d1 : 1 = r.size ∨ byN r 1 < (if byN r 0 = 224 then 160 else 128) ∨ (if byN r 0 = 237 then 159 else 191) < byN r 1
    · rw [if_pos d1] at hx
      exact absurd rfl hx
    rw [if_neg d1] at hx ⊢
    by_cases d2 : 2 = r.size ∨ byN r 2 < 128 ∨ 191 < byN r 2
    · rw [if_pos d2] at hx
      exact absurd rfl hx
    rw [if_neg d2]
    have e1 := hby 1 (by omega)
    have e2 := hby 2 (by omega)
    obtain ⟨x, hxx⟩ : ∃ x : Int, x = ((64 * (64 * (byN r 0 % 32) + byN r 1 % 64) + byN r 2 % 64 : Nat) : Int) := ⟨_, rfl⟩
    rw [← hxx]
    have hlo : 2048 ≤ x ∧ x < 65536 ∧ (x < 55296 ∨ 57344 ≤ x) := by
      split at d1 <;> split at d1 <;> omega
    have hlow : 128 ≤ byN r 1 ∧ byN r 1 ≤ 191 := by
      split at d1 <;> split at d1 <;> omega
    have hen : en8 x = [(byN r 0 : Int), (byN r 1 : Int), (byN r 2 : Int)] := by
      unfold en8
      rw [if_neg (by omega), if_neg (by omega), if_pos (by omega), show 224 + x / 4096 = (byN r 0 : Int) by omega, show 128 + x / 64 % 64 = (byN r 1 : Int) by omega, show 128 + x % 64 = (byN r 2 : Int) by omega]
    refine ⟨(scB_iff _).2 (by dsimp only; omega), ?_, ?_⟩
    · dsimp only
      rw [hen]
      intro j hj
      rcases (show j = 0 ∨ j = 1 ∨ j = 2 by simp at hj; omega) with rfl | rfl | rfl
      · exact ⟨by omega, by rw [← e0]; rfl⟩
      · exact ⟨by omega, by rw [← e1]; rfl⟩
      · exact ⟨by omega, by rw [← e2]; rfl⟩
    · dsimp only
      rw [hen]
      rfl
  rw [if_neg c4] at hx ⊢
  by_cases c5 : byN r 0 < 245
  · rw [if_pos c5] at hx ⊢
    by_cases d1 : 1 = r.size ∨ byN r 1 < (if byN r 0 = 240 then 144 else 128) ∨ (if byN r 0 = 244 then 143 else 191) < byN r 1
    · rw [if_pos d1] at hx
      exact absurd rfl hx
    rw [if_neg d1] at hx ⊢
    by_cases d2 : 2 = r.size ∨ byN r 2 < 128 ∨ 191 < byN r 2
    · rw [if_pos d2] at hx
      exact absurd rfl hx
    rw [if_neg d2] at hx ⊢
    by_cases d3 : 3 = r.size ∨ byN r 3 < 128 ∨ 191 < byN r 3
    · rw [if_pos d3] at hx
      exact absurd rfl hx
    rw [if_neg d3]
    have e1 := hby 1 (by omega)
    have e2 := hby 2 (by omega)
    have e3 := hby 3 (by omega)
    obtain ⟨x, hxx⟩ : ∃ x : Int, x = ((64 * (64 * (64 * (byN r 0 % 16) + byN r 1 % 64) + byN r 2 % 64) + byN r 3 % 64 : Nat) : Int) := ⟨_, rfl⟩
    rw [← hxx]
    have hlo : 65536 ≤ x ∧ x ≤ 1114111 := by
      split at d1 <;> split at d1 <;> omega
    have hlow : 128 ≤ byN r 1 ∧ byN r 1 ≤ 191 := by
      split at d1 <;> split at d1 <;> omega
    have hen : en8 x = [(byN r 0 : Int), (byN r 1 : Int), (byN r 2 : Int), (byN r 3 : Int)] := by
      unfold en8
      rw [if_neg (by omega), if_neg (by omega), if_neg (by omega), show 240 + x / 262144 = (byN r 0 : Int) by omega, show 128 + x / 4096 % 64 = (byN r 1 : Int) by omega, show 128 + x / 64 % 64 = (byN r 2 : Int) by omega, show 128 + x % 64 = (byN r 3 : Int) by omega]
    refine ⟨(scB_iff _).2 (by dsimp only; omega), ?_, ?_⟩
    · dsimp only
      rw [hen]
      intro j hj
      rcases (show j = 0 ∨ j = 1 ∨ j = 2 ∨ j = 3 by simp at hj; omega) with rfl | rfl | rfl | rfl
      · exact ⟨by omega, by rw [← e0]; rfl⟩
      · exact ⟨by omega, by rw [← e1]; rfl⟩
      · exact ⟨by omega, by rw [← e2]; rfl⟩
      · exact ⟨by omega, by rw [← e3]; rfl⟩
    · dsimp only
      rw [hen]
      rfl
  rw [if_neg c5] at hx
  exact absurd rfl hx
end Go.Proofs.YtjpmjcadnnglnaaDoor

/- Every coding: what a scalar's bytes tell, and what Decode makes of the bytes of scalars one behind the other: plain; no condition beside those told. -/
namespace Go.Proofs.YtjpmjcadnnglnaaDoor
open Go.RowKit
open Go.Lib

def unitF (f : Nat) (s : ByteArray) : Nat → Int := if f = 50 then unitL s else unitB s
theorem unit_fwd (f : Nat) (s : ByteArray) (i : Nat) (r : Int) (h : Lays s i (enU f r)) : unitF f s i = r := by
  unfold unitF
  unfold enU at h
  by_cases hf : f = 50
  · rw [if_pos hf] at h ⊢
    obtain ⟨p0, q0⟩ := h 0 (by simp)
    obtain ⟨p1, q1⟩ := h 1 (by simp)
    simp only [List.getElem_cons_zero, List.getElem_cons_succ, Nat.add_zero] at q0 q1
    unfold unitL
    rw [if_neg (by omega)]
    omega
  · rw [if_neg hf] at h ⊢
    obtain ⟨p0, q0⟩ := h 0 (by simp)
    obtain ⟨p1, q1⟩ := h 1 (by simp)
    simp only [List.getElem_cons_zero, List.getElem_cons_succ, Nat.add_zero] at q0 q1
    unfold unitB
    rw [if_neg (by omega)]
    omega
theorem unit_bwd (f : Nat) (s : ByteArray) (i : Nat) (h : unitF f s i ≠ -1) : Lays s i (enU f (unitF f s i)) ∧ 0 ≤ unitF f s i ∧ unitF f s i ≤ 65535 := by
  have b0 := by_lt s i
  have b1 := by_lt s (i + 1)
  unfold unitF at h ⊢
  unfold enU
  by_cases hf : f = 50
  · simp only [if_pos hf] at h ⊢
    unfold unitL at h ⊢
    by_cases hs : s.size < i + 2
    · rw [if_pos hs] at h
      exact absurd rfl h
    · rw [if_neg hs]
      refine ⟨fun j hj => ?_, by omega, by omega⟩
      rcases (show j = 0 ∨ j = 1 by simp at hj; omega) with rfl | rfl
      · exact ⟨by omega, by simp only [List.getElem_cons_zero, Nat.add_zero]; omega⟩
      · exact ⟨by omega, by simp only [List.getElem_cons_zero, List.getElem_cons_succ]; omega⟩
  · simp only [if_neg hf] at h ⊢
    unfold unitB at h ⊢
    by_cases hs : s.size < i + 2
    · rw [if_pos hs] at h
      exact absurd rfl h
    · rw [if_neg hs]
      refine ⟨fun j hj => ?_, by omega, by omega⟩
      rcases (show j = 0 ∨ j = 1 by simp at hj; omega) with rfl | rfl
      · exact ⟨by omega, by simp only [List.getElem_cons_zero, Nat.add_zero]; omega⟩
      · exact ⟨by omega, by simp only [List.getElem_cons_zero, List.getElem_cons_succ]; omega⟩
theorem unit_in (f : Nat) (s : ByteArray) (i : Nat) : -1 ≤ unitF f s i ∧ unitF f s i ≤ 65535 := by
  unfold unitF
  split
  · exact unitL_in s i
  · exact unitB_in s i
theorem enU_len (f : Nat) (r : Int) : (enU f r).length = 2 := by
  unfold enU
  split <;> rfl
theorem Lays.app {s : ByteArray} {i : Nat} {a b : List Int} (h : Lays s i a) (h2 : Lays s (i + a.length) b) : Lays s i (a ++ b) := fun j hj => by
  by_cases hl : j < a.length
  · obtain ⟨h1, h2⟩ := h j hl
    exact ⟨h1, by rw [h2, List.getElem_append_left hl]⟩
  · obtain ⟨h1, h2⟩ := h2 (j - a.length) (by simp at hj; omega)
    rw [show i + a.length + (j - a.length) = i + j by omega] at h1 h2
    exact ⟨h1, by rw [h2, List.getElem_append_right (by omega)]⟩
theorem tk16_fwd (f : Nat) (s : ByteArray) (i : Nat) (x : Int) (hx : scB x = true) (h : Lays s i (en16 f x)) : tk16 (unitF f s) i = (x, (en16 f x).length) := by
  rw [scB_iff] at hx
  unfold en16 at h ⊢
  unfold tk16
  by_cases h1 : x < 65536
  · rw [if_pos h1] at h ⊢
    rw [unit_fwd f s i x h, if_neg (by omega), if_pos (by omega), enU_len]
  · rw [if_neg h1] at h ⊢
    have r := h.right
    rw [enU_len] at r
    rw [unit_fwd f s i _ h.left, unit_fwd f s (i + 2) _ r, if_neg (by omega), if_neg (by omega), if_neg (by omega), List.length_append, enU_len, enU_len]
    refine Prod.ext ?_ rfl
    dsimp only
    omega
theorem tk16_bwd (f : Nat) (s : ByteArray) (i : Nat) (hx : (tk16 (unitF f s) i).1 ≠ -1) : scB (tk16 (unitF f s) i).1 = true ∧ Lays s i (en16 f (tk16 (unitF f s) i).1) ∧ (tk16 (unitF f s) i).2 = (en16 f (tk16 (unitF f s) i).1).length := by
  unfold tk16 at hx ⊢
  by_cases c0 : unitF f s i = -1
  · rw [if_pos c0] at hx
    exact absurd rfl hx
  rw [if_neg c0] at hx ⊢
  obtain ⟨u1, u2, u3⟩ := unit_bwd f s i c0
  by_cases c1 : ¬ (55296 ≤ unitF f s i ∧ unitF f s i < 57344)
  · rw [if_pos c1]
    have hen : en16 f (unitF f s i) = enU f (unitF f s i) := by
      unfold en16
      rw [if_pos (by omega)]
    refine ⟨(scB_iff _).2 (by dsimp only; omega), ?_, ?_⟩
    · dsimp only
      rw [hen]
      exact u1
    · dsimp only
      rw [hen, enU_len]
  rw [if_neg c1] at hx ⊢
  by_cases c2 : 56320 ≤ unitF f s i ∨ unitF f s (i + 2) < 56320 ∨ 57344 ≤ unitF f s (i + 2)
  · rw [if_pos c2] at hx
    exact absurd rfl hx
  rw [if_neg c2]
  obtain ⟨v1, v2, v3⟩ := unit_bwd f s (i + 2) (by omega)
  obtain ⟨x, hxx⟩ : ∃ x : Int, x = 65536 + (unitF f s i - 55296) * 1024 + unitF f s (i + 2) - 56320 := ⟨_, rfl⟩
  rw [← hxx]
  have hen : en16 f x = enU f (unitF f s i) ++ enU f (unitF f s (i + 2)) := by
    unfold en16
    rw [if_neg (by omega), show 55296 + (x - 65536) / 1024 = unitF f s i by omega, show 56320 + (x - 65536) % 1024 = unitF f s (i + 2) by omega]
  refine ⟨(scB_iff _).2 (by dsimp only; omega), ?_, ?_⟩
  · dsimp only
    rw [hen]
    refine u1.app ?_
    rw [enU_len]
    exact v1
  · dsimp only
    rw [hen, List.length_append, enU_len, enU_len]

theorem tkAt1 (s : ByteArray) (i : Nat) : tkAt s 1 i = tk8 (s.extract i s.size) := by
  unfold tkAt
  rw [if_neg (by decide), if_neg (by decide), if_neg (by decide)]
theorem tkAt2 (s : ByteArray) (i : Nat) : tkAt s 2 i = tk16 (unitF 50 s) i := by
  unfold tkAt unitF
  rw [if_pos rfl, if_pos rfl]
theorem tkAt3 (s : ByteArray) (i : Nat) : tkAt s 3 i = tk16 (unitF 51 s) i := by
  unfold tkAt unitF
  rw [if_neg (by decide), if_pos rfl, if_neg (by decide)]
theorem tkAt4 (s : ByteArray) (i : Nat) : tkAt s 4 i = ((byN s i : Int), 1) := by
  unfold tkAt
  rw [if_neg (by decide), if_neg (by decide), if_pos rfl]
theorem enc1 (x : Int) : enc 1 x = en8 x := by
  unfold enc
  rw [if_pos rfl]
theorem enc2 (x : Int) : enc 2 x = en16 50 x := by
  unfold enc
  rw [if_neg (by decide), if_pos rfl]
theorem enc3 (x : Int) : enc 3 x = en16 51 x := by
  unfold enc
  rw [if_neg (by decide), if_neg (by decide), if_pos rfl]
theorem enc4 (x : Int) : enc 4 x = [x] := by
  unfold enc
  rw [if_neg (by decide), if_neg (by decide), if_neg (by decide)]
theorem okc_sc {c : Nat} {x : Int} (h : okc c x = true) : scB x = true := by
  unfold okc at h
  rw [Bool.and_eq_true] at h
  exact h.1
theorem tkAt_fwd (c : Nat) (hc : c = 1 ∨ c = 2 ∨ c = 3 ∨ c = 4) (s : ByteArray) (i : Nat) (x : Int) (hx : okc c x = true) (h : Lays s i (enc c x)) : tkAt s c i = (x, (enc c x).length) := by
  rcases hc with rfl | rfl | rfl | rfl
  · rw [tkAt1, enc1]
    rw [enc1] at h
    exact tk8_fwd s i x (okc_sc hx) h
  · rw [tkAt2, enc2]
    rw [enc2] at h
    exact tk16_fwd 50 s i x (okc_sc hx) h
  · rw [tkAt3, enc3]
    rw [enc3] at h
    exact tk16_fwd 51 s i x (okc_sc hx) h
  · rw [enc4] at h ⊢
    obtain ⟨_, q0⟩ := h 0 (by simp)
    rw [Nat.add_zero, List.getElem_cons_zero] at q0
    rw [tkAt4, q0]
    rfl
theorem tkAt_bwd (c : Nat) (hc : c = 1 ∨ c = 2 ∨ c = 3 ∨ c = 4) (s : ByteArray) (i : Nat) (hi : i < s.size) (hx : (tkAt s c i).1 ≠ -1) : okc c (tkAt s c i).1 = true ∧ Lays s i (enc c (tkAt s c i).1) ∧ (tkAt s c i).2 = (enc c (tkAt s c i).1).length := by
  have ok : ∀ d, d ≠ 4 → ∀ x, scB x = true → okc d x = true := fun d hd x h => by
    unfold okc
    rw [h, decide_eq_true hd]
    rfl
  rcases hc with rfl | rfl | rfl | rfl
  · rw [tkAt1] at hx ⊢
    rw [enc1]
    obtain ⟨h1, h2, h3⟩ := tk8_bwd s i hi hx
    exact ⟨ok 1 (by decide) _ h1, h2, h3⟩
  · rw [tkAt2] at hx ⊢
    rw [enc2]
    obtain ⟨h1, h2, h3⟩ := tk16_bwd 50 s i hx
    exact ⟨ok 2 (by decide) _ h1, h2, h3⟩
  · rw [tkAt3] at hx ⊢
    rw [enc3]
    obtain ⟨h1, h2, h3⟩ := tk16_bwd 51 s i hx
    exact ⟨ok 3 (by decide) _ h1, h2, h3⟩
  · have hb := by_lt s i
    rw [tkAt4, enc4]
    refine ⟨?_, ?_, rfl⟩
    · unfold okc
      rw [Bool.and_eq_true, scB_iff]
      refine ⟨by dsimp only; omega, ?_⟩
      rw [decide_eq_true (show (byN s i : Int) ≤ 255 by omega)]
      rfl
    · intro j hj
      obtain rfl : j = 0 := by
        have : j < 1 := hj
        omega
      exact ⟨by omega, rfl⟩
theorem enc_pos (c : Nat) (x : Int) : 0 < (enc c x).length := by
  unfold enc en8 en16 enU
  repeat' split
  all_goals simp

/-- Scalars' bytes one behind the other, to the end, are decoded as these. -/
theorem dc_fwd (c : Nat) (hc : c = 1 ∨ c = 2 ∨ c = 3 ∨ c = 4) (s : ByteArray) (strict : Bool) : ∀ (l : List Int) (k i : Nat) (rs ps : List Int) (bad : Nat), l.all (okc c) = true → Lays s i (l.flatMap (enc c)) → s.size = i + (l.flatMap (enc c)).length → s.size ≤ i + k →
    ∃ ps', dcGo s c strict k i rs ps bad = (none, rs ++ l, ps', bad)
  | [], k, i, rs, ps, bad, _, _, he, _ => by
    simp only [List.flatMap_nil, List.length_nil, Nat.add_zero] at he
    exact ⟨ps, by rw [dc_end (by omega), List.append_nil]⟩
  | x :: l, k, i, rs, ps, bad, ha, hl, he, hk => by
    rw [List.all_cons, Bool.and_eq_true] at ha
    rw [List.flatMap_cons] at hl he
    rw [List.length_append] at he
    have hp := enc_pos c x
    have ht := tkAt_fwd c hc s i x ha.1 hl.left
    obtain ⟨k, rfl⟩ : ∃ j, k = j + 1 := ⟨k - 1, by omega⟩
    have hx := (okc_in ha.1).1
    rw [dc_step (by omega), ht, if_neg (by dsimp only; omega)]
    obtain ⟨ps', h⟩ := dc_fwd c hc s strict l k (i + (enc c x).length) (rs ++ [x]) (ps ++ [(i : Int)]) bad ha.2 hl.right (by omega) (by omega)
    exact ⟨ps', by rw [h, List.append_assoc]; rfl⟩
end Go.Proofs.YtjpmjcadnnglnaaDoor

/- Decode of what Encode makes, with and without marks: plain; no condition beside those told. -/
namespace Go.Proofs.YtjpmjcadnnglnaaDoor
open Go.RowKit
open Go.Lib

theorem ctoList_data (s : ByteArray) : s.toList = s.data.toList := by
  have go : ∀ (n i : Nat) (r : List UInt8), s.size - i = n → ByteArray.toList.loop s i r = r.reverse ++ s.data.toList.drop i := by
    intro n
    induction n with
    | zero =>
      intro i r h
      unfold ByteArray.toList.loop
      rw [if_neg (by omega), List.drop_eq_nil_of_le (by rw [Array.length_toList]; show s.size ≤ i; omega), List.append_nil]
    | succ n ih =>
      intro i r h
      have hi : i < s.size := by omega
      have hi' : i < s.data.toList.length := by rw [Array.length_toList]; exact hi
      unfold ByteArray.toList.loop
      rw [if_pos hi, ih (i + 1) _ (by omega), List.drop_eq_getElem_cons hi', List.reverse_cons, List.append_assoc]
      congr 1
      show s.get! i :: _ = _
      congr 1
      show s.data[i]! = _
      rw [getElem!_pos s.data i hi]
      rfl
  unfold ByteArray.toList
  rw [go _ 0 [] rfl]
  rfl
theorem beg_iff (s p : ByteArray) : begB s p = true ↔ Lays s 0 (nums p) := by
  have hl : (nums p).length = p.size := by unfold nums; rw [List.length_map, Array.length_toList]; rfl
  have hx : ∀ j (h : j < (nums p).length), (nums p)[j] = (byN p j : Int) := fun j h => by
    have hj : j < p.size := by omega
    unfold byN
    rw [dif_pos hj]
    have h' : j < (p.data.toList.map fun b => (b.toNat : Int)).length := h
    show (p.data.toList.map fun b => (b.toNat : Int))[j]'h' = _
    rw [List.getElem_map]
    rfl
  unfold begB
  rw [Bool.and_eq_true, decide_eq_true_eq, beq_iff_eq, ctoList_data, ctoList_data]
  constructor
  · rintro ⟨h1, h2⟩ j hj
    have hj2 : j < p.size := by omega
    have h3 : (s.extract 0 p.size).data.toList[j]? = p.data.toList[j]? := by rw [h2]
    have h4 : j < (s.extract 0 p.size).size := by rw [ByteArray.size_extract]; omega
    refine ⟨by omega, ?_⟩
    rw [hx j hj, Nat.zero_add]
    have h5 : j < s.size := by omega
    unfold byN
    rw [dif_pos h5, dif_pos hj2]
    have h6 : (s.extract 0 p.size)[j] = p[j] := by
      rw [List.getElem?_eq_getElem (by rw [Array.length_toList]; exact h4), List.getElem?_eq_getElem (by rw [Array.length_toList]; exact hj2), Option.some_inj] at h3
      exact h3
    rw [← h6, ByteArray.getElem_extract]
    simp
  · intro h
    have h1 : p.size ≤ s.size := by
      by_cases h0 : p.size = 0
      · omega
      · have := (h (p.size - 1) (by omega)).1
        omega
    refine ⟨h1, ?_⟩
    have hsz : (s.extract 0 p.size).size = p.size := by rw [ByteArray.size_extract]; omega
    apply List.ext_getElem
    · rw [Array.length_toList, Array.length_toList]
      exact hsz
    · intro j h2 h3
      have hj : j < p.size := by rw [Array.length_toList] at h3; exact h3
      have hq := (h j (by omega)).2
      have h5 : j < s.size := by omega
      rw [hx j (by omega), Nat.zero_add] at hq
      unfold byN at hq
      rw [dif_pos h5, dif_pos hj] at hq
      have h6 : s[j] = p[j] := UInt8.toNat_inj.1 (by omega)
      have h7 : (s.extract 0 p.size)[j]'(by omega) = s[j] := by rw [ByteArray.getElem_extract]; simp
      show (s.extract 0 p.size)[j]'(by omega) = p[j]
      rw [h7, h6]
theorem lay_str (l : List Int) (h : ∀ b ∈ l, 0 ≤ b ∧ b ≤ 255) : (strOfNums l).size = l.length ∧ Lays (strOfNums l) 0 l := by
  have hs : (strOfNums l).size = l.length := by
    show ((l.map fun n => UInt8.ofNat n.toNat).toArray).size = _
    simp
  refine ⟨hs, fun j hj => ?_⟩
  refine ⟨by omega, ?_⟩
  rw [Nat.zero_add]
  unfold byN
  rw [dif_pos (by omega)]
  have hb := h l[j] (List.getElem_mem hj)
  have h1 : (strOfNums l)[j]'(by omega) = UInt8.ofNat l[j].toNat := by
    show ((l.map fun n => UInt8.ofNat n.toNat).toArray)[j]'(by simp; exact hj) = _
    simp
  rw [h1, UInt8.toNat_ofNat']
  omega
theorem enc_in (c : Nat) (hc : c = 1 ∨ c = 2 ∨ c = 3 ∨ c = 4) (x : Int) (h : okc c x = true) : ∀ b ∈ enc c x, 0 ≤ b ∧ b ≤ 255 := by
  have hx := (scB_iff x).1 (okc_sc h)
  have h4 := okc_in h
  unfold topc at h4
  unfold enc en8 en16 enU
  repeat' split
  all_goals
    intro b hb
    simp only [List.mem_append, List.mem_cons, List.not_mem_nil, or_false] at hb
  all_goals first | (rcases hb with rfl | rfl | rfl | rfl <;> omega) | (rcases hb with rfl | rfl | rfl <;> omega) | (rcases hb with (rfl | rfl) | rfl | rfl <;> omega) | (rcases hb with rfl | rfl <;> omega) | (subst hb; split at h4 <;> omega)
theorem flat_in (c : Nat) (hc : c = 1 ∨ c = 2 ∨ c = 3 ∨ c = 4) (l : List Int) (h : l.all (okc c) = true) : ∀ b ∈ l.flatMap (enc c), 0 ≤ b ∧ b ≤ 255 := fun b hb => by
  obtain ⟨x, hx, hb⟩ := List.mem_flatMap.1 hb
  exact enc_in c hc x (List.all_eq_true.1 h x hx) b hb

theorem mk_enc (c : Nat) (hc : c = 1 ∨ c = 2 ∨ c = 3) : nums (mk c) = enc c 65279 ∧ (mk c).size = (enc c 65279).length ∧ okc c 65279 = true := by
  rcases hc with rfl | rfl | rfl <;> decide +kernel
/-- The scalars with their mark, if there is one. -/
def fullL (c : Nat) (mark : Bool) (l : List Int) : List Int := if mark = true ∧ c ≠ 4 then 65279 :: l else l
theorem full_flat (c : Nat) (hc : c = 1 ∨ c = 2 ∨ c = 3 ∨ c = 4) (mark : Bool) (l : List Int) : (if mark then nums (mk c) else []) ++ l.flatMap (enc c) = (fullL c mark l).flatMap (enc c) := by
  unfold fullL
  cases mark
  · simp
  · by_cases h4 : c = 4
    · subst h4
      rfl
    · rw [if_pos rfl, if_pos ⟨rfl, h4⟩, List.flatMap_cons, (mk_enc c (by omega)).1]
theorem full_ok (c : Nat) (hc : c = 1 ∨ c = 2 ∨ c = 3 ∨ c = 4) (mark : Bool) (l : List Int) (h : l.all (okc c) = true) : (fullL c mark l).all (okc c) = true := by
  unfold fullL
  split
  · rename_i hm
    rw [List.all_cons, (mk_enc c (by omega)).2.2, h]
    rfl
  · exact h
/-- What is left of scalars when a mark is passed over. -/
def dropM (c : Nat) (l : List Int) : List Int := if c ≠ 4 ∧ l.head? = some 65279 then l.tail else l
theorem dec_full (c : Nat) (hc : c = 1 ∨ c = 2 ∨ c = 3 ∨ c = 4) (strict : Bool) (l : List Int) (ha : l.all (okc c) = true) (s : ByteArray) (hl : Lays s 0 (l.flatMap (enc c))) (hs : s.size = (l.flatMap (enc c)).length) :
    (bg s c).1 = c ∧ ∃ ps, dcGo s c strict s.size (bg s c).2 [] [] 0 = (none, dropM c l, ps, 0) := by
  have hb : bg s c = if begB s (mk c) = true then (c, (mk c).size) else (c, 0) := by
    unfold bg
    rw [if_neg (by omega)]
  by_cases h4 : c = 4
  · subst h4
    have h0 : bg s 4 = (4, 0) := by rw [hb]; split <;> rfl
    rw [h0]
    refine ⟨rfl, ?_⟩
    obtain ⟨ps, h⟩ := dc_fwd 4 hc s strict l s.size 0 [] [] 0 ha hl (by omega) (by omega)
    exact ⟨ps, by rw [h]; rfl⟩
  obtain ⟨m1, m2, m3⟩ := mk_enc c (by omega)
  have mp := enc_pos c 65279
  by_cases hh : l.head? = some 65279
  · obtain ⟨t, rfl⟩ : ∃ t, l = 65279 :: t := by
      cases l with
      | nil => cases hh
      | cons x t =>
        simp at hh
        exact ⟨t, by rw [hh]⟩
    rw [List.flatMap_cons] at hl hs
    rw [List.length_append] at hs
    rw [List.all_cons, Bool.and_eq_true] at ha
    have hbeg : begB s (mk c) = true := (beg_iff s (mk c)).2 (by rw [m1]; exact hl.left)
    rw [if_pos hbeg] at hb
    rw [hb]
    refine ⟨rfl, ?_⟩
    have hr := hl.right
    rw [Nat.zero_add, ← m2] at hr
    obtain ⟨ps, h⟩ := dc_fwd c hc s strict t s.size (mk c).size [] [] 0 ha.2 hr (by omega) (by omega)
    refine ⟨ps, ?_⟩
    show dcGo s c strict s.size (mk c).size [] [] 0 = _
    rw [h]
    unfold dropM
    rw [if_pos ⟨h4, rfl⟩]
    rfl
  · have hbeg : ¬ begB s (mk c) = true := fun e => by
      have e1 := (beg_iff s (mk c)).1 e
      rw [m1] at e1
      have e2 := tkAt_fwd c hc s 0 65279 m3 e1
      cases l with
      | nil =>
        have := (e1 0 mp).1
        rw [List.flatMap_nil, List.length_nil] at hs
        omega
      | cons x t =>
        rw [List.all_cons, Bool.and_eq_true] at ha
        rw [List.flatMap_cons] at hl
        have e3 := tkAt_fwd c hc s 0 x ha.1 hl.left
        rw [e2] at e3
        apply hh
        rw [List.head?_cons, ← (Prod.mk.inj e3).1]
    rw [if_neg hbeg] at hb
    rw [hb]
    refine ⟨rfl, ?_⟩
    obtain ⟨ps, h⟩ := dc_fwd c hc s strict l s.size 0 [] [] 0 ha hl (by omega) (by omega)
    refine ⟨ps, ?_⟩
    show dcGo s c strict s.size 0 [] [] 0 = _
    rw [h]
    unfold dropM
    rw [if_neg (fun e => hh e.2)]
    rfl
theorem dec_auto (c : Nat) (hc : c = 1 ∨ c = 2 ∨ c = 3) (strict : Bool) (l : List Int) (ha : l.all (okc c) = true) (s : ByteArray) (hl : Lays s 0 ((65279 :: l).flatMap (enc c))) (hs : s.size = ((65279 :: l).flatMap (enc c)).length) :
    (bg s 0).1 = c ∧ ∃ ps, dcGo s c strict s.size (bg s 0).2 [] [] 0 = (none, l, ps, 0) := by
  obtain ⟨m1, m2, m3⟩ := mk_enc c hc
  rw [List.flatMap_cons] at hl hs
  rw [List.length_append] at hs
  have hbeg : begB s (mk c) = true := (beg_iff s (mk c)).2 (by rw [m1]; exact hl.left)
  have hno : ∀ d, (d = 1 ∨ d = 2) → d ≠ c → ¬ begB s (mk d) = true := fun d hd hdc e => by
    have e1 := (beg_iff s (mk d)).1 e
    have e2 := (beg_iff s (mk c)).1 hbeg
    have q1 : ∃ h : 0 < (nums (mk d)).length, (nums (mk d))[0] = if d = 1 then 239 else if d = 2 then 255 else 254 := by rcases hd with rfl | rfl <;> exact ⟨by decide, rfl⟩
    have q2 : ∃ h : 0 < (nums (mk c)).length, (nums (mk c))[0] = if c = 1 then 239 else if c = 2 then 255 else 254 := by rcases hc with rfl | rfl | rfl <;> exact ⟨by decide, rfl⟩
    obtain ⟨p1, q1⟩ := q1
    obtain ⟨p2, q2⟩ := q2
    have z1 := (e1 0 p1).2
    have z2 := (e2 0 p2).2
    rw [q1] at z1
    rw [q2] at z2
    rcases hd with rfl | rfl <;> rcases hc with rfl | rfl | rfl <;> simp at z1 z2 hdc <;> omega
  have hb : bg s 0 = (c, (mk c).size) := by
    show sn s 3 1 = _
    unfold sn
    rcases hc with rfl | rfl | rfl
    · rw [if_pos hbeg]
    · rw [if_neg (hno 1 (by omega) (by omega))]
      unfold sn
      rw [if_pos hbeg]
    · rw [if_neg (hno 1 (by omega) (by omega))]
      unfold sn
      rw [if_neg (hno 2 (by omega) (by omega))]
      unfold sn
      rw [if_pos hbeg]
  rw [hb]
  refine ⟨rfl, ?_⟩
  have hr := hl.right
  rw [Nat.zero_add, ← m2] at hr
  obtain ⟨ps, h⟩ := dc_fwd c (by omega) s strict l s.size (mk c).size [] [] 0 ha hr (by omega) (by omega)
  exact ⟨ps, h⟩
end Go.Proofs.YtjpmjcadnnglnaaDoor

/- What a number's text is like: plain; no condition. -/
namespace Go.Proofs.YtjpmjcadnnglnaaDoor
open Go.RowKit

def dig (s : ByteArray) (i : Nat) : Prop := i < s.size ∧ 48 ≤ byN s i ∧ byN s i ≤ 57
theorem dgn_digit : ∀ (cs : Bs) (i : Nat), i < dgn cs → ∃ c, cs[i]? = some c ∧ digB c = true
  | [], i, h => by simp [dgn] at h
  | c :: cs, i, h => by
    rw [dgn] at h
    split at h
    · rename_i hc
      cases i with
      | zero => exact ⟨c, rfl, hc⟩
      | succ i => exact dgn_digit cs i (by omega)
    · omega
theorem dgE_ok {s : ByteArray} {t u : Nat} (h : dgE s t = .ok u) : t < u ∧ ∀ i, t ≤ i → i < u → dig s i := by
  unfold dgE at h
  split at h
  · cases h
  · rename_i h0
    cases h
    refine ⟨by omega, fun i h1 h2 => ?_⟩
    obtain ⟨c, hc, hd⟩ := dgn_digit (s.data.toList.drop t) (i - t) (by omega)
    rw [List.getElem?_drop, show t + (i - t) = i by omega] at hc
    have hi : i < s.size := by
      have := (List.getElem?_eq_some_iff.1 hc).1
      rw [size_list] at this
      exact this
    rw [at_opt s i hi] at hc
    cases hc
    have := (dig_iff s[i]).1 hd
    rw [by_get s i hi] at this
    exact ⟨hi, this⟩
theorem lk_is {s : ByteArray} {t c : Nat} (h : lk s t = (c : Int)) : t < s.size ∧ byN s t = c := by
  have h1 := lk_lt h
  rw [lk_by, if_pos h1] at h
  exact ⟨h1, by omega⟩
theorem part1_ok {s : ByteArray} {t a : Nat} (h : part1 s t = .ok a) : stp s t 45 < a ∧ dig s (stp s t 45) ∧ dig s (a - 1) ∧ (byN s (stp s t 45) = 48 → a = stp s t 45 + 1) := by
  unfold part1 at h
  split at h
  · rename_i e
    obtain ⟨h1, h2⟩ := lk_is (c := 48) e
    cases h
    have hd : dig s (stp s t 45) := ⟨h1, by omega, by omega⟩
    exact ⟨by omega, hd, by rw [Nat.add_sub_cancel]; exact hd, fun _ => rfl⟩
  · rename_i e
    obtain ⟨h1, h2⟩ := dgE_ok h
    refine ⟨h1, h2 _ (Nat.le_refl _) h1, h2 _ (by omega) (by omega), fun h48 => absurd ?_ e⟩
    rw [lk_by, if_pos (h2 _ (Nat.le_refl _) h1).1, h48]
    rfl
theorem part2_ok {s : ByteArray} {t a : Nat} (h : part2 s t = .ok a) : a = t ∨ (t < s.size ∧ byN s t = 46 ∧ t < a ∧ dig s (a - 1)) := by
  unfold part2 at h
  split at h
  · rename_i e
    obtain ⟨h1, h2⟩ := lk_is (c := 46) e
    obtain ⟨h3, h4⟩ := dgE_ok h
    exact .inr ⟨h1, h2, by omega, h4 _ (by omega) (by omega)⟩
  · cases h
    exact .inl rfl
theorem sgn_ge (s : ByteArray) (t : Nat) : t ≤ sgn s t := by
  unfold sgn stp
  split
  · omega
  · split <;> omega
theorem part3_ok {s : ByteArray} {t a : Nat} (h : part3 s t = .ok a) : a = t ∨ (t < s.size ∧ (byN s t = 101 ∨ byN s t = 69) ∧ t < a ∧ dig s (a - 1)) := by
  unfold part3 at h
  split at h
  · rename_i e
    obtain ⟨h1, h2⟩ := lk_is (c := 101) e
    obtain ⟨h3, h4⟩ := dgE_ok h
    have := sgn_ge s (t + 1)
    exact .inr ⟨h1, .inl h2, by omega, h4 _ (by omega) (by omega)⟩
  · split at h
    · rename_i e
      obtain ⟨h1, h2⟩ := lk_is (c := 69) e
      obtain ⟨h3, h4⟩ := dgE_ok h
      have := sgn_ge s (t + 1)
      exact .inr ⟨h1, .inr h2, by omega, h4 _ (by omega) (by omega)⟩
    · cases h
      exact .inl rfl
theorem num_law {s : ByteArray} (h : numE s 0 = .ok s.size) : dig s (stp s 0 45) ∧ dig s (s.size - 1) ∧
    (byN s (stp s 0 45) ≠ 48 ∨ stp s 0 45 + 1 = s.size ∨ (stp s 0 45 + 1 < s.size ∧ (byN s (stp s 0 45 + 1) = 46 ∨ byN s (stp s 0 45 + 1) = 101 ∨ byN s (stp s 0 45 + 1) = 69))) := by
  unfold numE at h
  cases h1 : part1 s 0 with
  | error k => rw [h1] at h; cases h
  | ok a =>
    rw [h1] at h
    simp only at h
    cases h2 : part2 s a with
    | error k => rw [h2] at h; cases h
    | ok b =>
      rw [h2] at h
      simp only at h
      obtain ⟨p1, p2, p3, p4⟩ := part1_ok h1
      have q := part2_ok h2
      have r := part3_ok h
      generalize stp s 0 45 = t at *
      refine ⟨p2, ?_, ?_⟩
      · rcases r with r | r
        · rw [r]
          rcases q with q | q
          · rw [q]; exact p3
          · exact q.2.2.2
        · exact r.2.2.2
      · by_cases h48 : byN s t = 48
        · right
          have ha := p4 h48
          subst ha
          rcases q with q | q
          · rw [q] at r
            rcases r with r | r
            · exact .inl r.symm
            · exact .inr ⟨r.1, .inr r.2.1⟩
          · exact .inr ⟨q.1, .inl q.2.1⟩
        · exact .inl h48
end Go.Proofs.YtjpmjcadnnglnaaDoor
