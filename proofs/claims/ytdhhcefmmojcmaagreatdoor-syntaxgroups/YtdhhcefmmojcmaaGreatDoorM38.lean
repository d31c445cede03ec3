/- Texts of this proof, one behind the other: what each says stands ahead of it. -/
import Derived.Test.YtdhhcefmmojcmaaGreatDoorM10
import Derived.Test.YtdhhcefmmojcmaaGreatDoorM37
/- What the document's utf8 tells is what the program's takeUTF8 tells, plain facts; no condition beside those told. -/
namespace Go.Proofs.YtdhhcefmmojcmaaGreatDoor

def dkBad (m v : Nat) : Bool :=
  if m = 1 then false
  else if m = 2 then decide (64 * v + 63 < 2048) || (decide (55296 ≤ 64 * v) && decide (64 * v + 63 ≤ 57343))
  else decide (4096 * v + 4095 < 65536) || decide (1114111 < 4096 * v)
def dkGo (s : ByteArray) (a m : Nat) : Nat → Nat → Nat → Int × Nat
  | 0, _, v => ((v : Int), m + 1)
  | f + 1, k, v => if s.size ≤ a + k then (-1, k) else if byN s (a + k) < 128 ∨ 191 < byN s (a + k) then (-1, k) else if k = 1 ∧ dkBad m (64 * v + byN s (a + k) - 128) = true then (-1, 1) else dkGo s a m f (k + 1) (64 * v + byN s (a + k) - 128)
def dkLead (b : Nat) : Nat × Nat := if 194 ≤ b ∧ b ≤ 223 then (1, b - 192) else if 224 ≤ b ∧ b ≤ 239 then (2, b - 224) else if 240 ≤ b ∧ b ≤ 244 then (3, b - 240) else (0, 0)
def dk8 (s : ByteArray) (a : Nat) : Int × Nat := if byN s a < 128 then ((byN s a : Int), 1) else if (dkLead (byN s a)).1 = 0 then (-1, 1) else dkGo s a (dkLead (byN s a)).1 (dkLead (byN s a)).1 1 (dkLead (byN s a)).2

theorem by_extract (s : ByteArray) (a i : Nat) (h : a + i < s.size) : byN (s.extract a s.size) i = byN s (a + i) := by
  unfold byN
  have h1 : i < (s.extract a s.size).size := by rw [ByteArray.size_extract]; omega
  rw [dif_pos h1, dif_pos h, ByteArray.getElem_extract]
theorem size_rest (s : ByteArray) (a : Nat) : (s.extract a s.size).size = s.size - a := by rw [ByteArray.size_extract]; omega
/-- Behind the second byte both go alike. -/
theorem go_alike (s : ByteArray) (a m : Nat) (ha : a < s.size) : ∀ (f k v : Nat), 2 ≤ k → a + k ≤ s.size → dkGo s a m f k v = tkGo (s.extract a s.size) m f k v 128 191
  | 0, k, v, _, _ => by
    unfold dkGo tkGo
    rw [Nat.add_comm]
  | f + 1, k, v, hk, hak => by
    unfold dkGo tkGo
    rw [size_rest]
    by_cases h : s.size ≤ a + k
    · rw [if_pos h, if_pos (.inl (by omega))]
    · rw [if_neg h, by_extract s a k (by omega)]
      by_cases h2 : byN s (a + k) < 128 ∨ 191 < byN s (a + k)
      · rw [if_pos h2, if_pos (.inr h2)]
      · rw [if_neg h2, if_neg (by omega), if_neg (by omega)]
        have e : 64 * v + byN s (a + k) - 128 = 64 * v + byN s (a + k) % 64 := by
          have := by_lt s (a + k)
          omega
        rw [e]
        exact go_alike s a m ha f (k + 1) _ (by omega) (by omega)
/-- The second byte, by both. -/
theorem second_alike (s : ByteArray) (a m v lo hi : Nat) (hm : 1 ≤ m) (ha : a < s.size) (h : ∀ y, 128 ≤ y → y ≤ 191 → (dkBad m (64 * v + y - 128) = true ↔ (y < lo ∨ hi < y))) (hlo : 128 ≤ lo) (hhi : hi ≤ 191) :
    dkGo s a m m 1 v = tkGo (s.extract a s.size) m m 1 v lo hi := by
  obtain ⟨f, rfl⟩ : ∃ f, m = f + 1 := ⟨m - 1, by omega⟩
  unfold dkGo tkGo
  rw [size_rest]
  by_cases h1 : s.size ≤ a + 1
  · rw [if_pos h1, if_pos (.inl (by omega))]
  · rw [if_neg h1, by_extract s a 1 (by omega)]
    have hy := by_lt s (a + 1)
    by_cases h2 : byN s (a + 1) < 128 ∨ 191 < byN s (a + 1)
    · rw [if_pos h2, if_pos (by omega)]
    · rw [if_neg h2]
      have hb := h (byN s (a + 1)) (by omega) (by omega)
      by_cases h3 : byN s (a + 1) < lo ∨ hi < byN s (a + 1)
      · rw [if_pos ⟨rfl, hb.2 h3⟩, if_pos (.inr h3)]
      · rw [if_neg (fun q => h3 (hb.1 q.2)), if_neg (by omega)]
        have e : 64 * v + byN s (a + 1) - 128 = 64 * v + byN s (a + 1) % 64 := by omega
        rw [e]
        exact go_alike s a (f + 1) ha f 2 _ (Nat.le_refl _) (by omega)
theorem lead_low {b : Nat} (h : b < 128) : leadOf b = some ⟨0, 127, 0, 0, 0⟩ := by
  unfold leadOf leadsL
  rw [List.find?_cons_of_pos]
  unfold hasLead
  simp
  omega
theorem find_row (b : Nat) (pre post : List Lead) (l : Lead) (hp : ∀ x ∈ pre, hasLead b x = false) (h : hasLead b l = true) : (pre ++ l :: post).find? (hasLead b) = some l := by
  rw [List.find?_append, List.find?_eq_none.2 (fun x hx => by rw [hp x hx]; simp), List.find?_cons_of_pos h]
  rfl
theorem no_lead (b : Nat) (l : Lead) (h : b < l.first ∨ l.last < b) : hasLead b l = false := by
  unfold hasLead
  simp
  omega
theorem is_lead (b : Nat) (l : Lead) (h : l.first ≤ b ∧ b ≤ l.last) : hasLead b l = true := by
  unfold hasLead
  simp
  omega
theorem dk_tk (s : ByteArray) (a : Nat) (ha : a < s.size) : dk8 s a = tk8 (s.extract a s.size) := by
  have h0 : byN (s.extract a s.size) 0 = byN s a := by rw [by_extract s a 0 (by omega), Nat.add_zero]
  unfold dk8 tk8
  rw [h0]
  have hb := by_lt s a
  generalize byN s a = b at *
  by_cases h1 : b < 128
  · rw [if_pos h1, lead_low h1]
    show _ = tkGo _ 0 0 1 (b % 2 ^ 7) 0 0
    unfold tkGo
    rw [Nat.mod_eq_of_lt (by omega)]
  rw [if_neg h1]
  have row : ∀ (pre post : List Lead) (l : Lead), leadsL = pre ++ l :: post → (∀ x ∈ pre, b < x.first ∨ x.last < b) → l.first ≤ b ∧ b ≤ l.last → leadOf b = some l := fun pre post l e hp hl => by
    unfold leadOf
    rw [e]
    exact find_row b pre post l (fun x hx => no_lead b x (hp x hx)) (is_lead b l hl)
  have fin : ∀ (pre post : List Lead) (l : Lead), leadsL = pre ++ l :: post → (∀ x ∈ pre, b < x.first ∨ x.last < b) → l.first ≤ b ∧ b ≤ l.last → 1 ≤ l.more → 128 ≤ l.low → l.high ≤ 191 → (dkLead b).1 = l.more → (dkLead b).2 = b % 2 ^ (7 - l.more) → (∀ y, 128 ≤ y → y ≤ 191 → (dkBad l.more (64 * (dkLead b).2 + y - 128) = true ↔ (y < l.low ∨ l.high < y))) →
      (if (dkLead b).1 = 0 then ((-1 : Int), 1) else dkGo s a (dkLead b).1 (dkLead b).1 1 (dkLead b).2) = (match leadOf b with | none => (-1, 1) | some l => tkGo (s.extract a s.size) l.more l.more 1 (b % 2 ^ (7 - l.more)) l.low l.high) := fun pre post l e hp hl h1 h2 h3 h4 h5 h6 => by
    rw [row pre post l e hp hl, h4, if_neg (by omega)]
    show _ = tkGo (s.extract a s.size) l.more l.more 1 (b % 2 ^ (7 - l.more)) l.low l.high
    rw [← h5]
    exact second_alike s a l.more (dkLead b).2 l.low l.high h1 ha h6 h2 h3
  by_cases c1 : 194 ≤ b ∧ b ≤ 223
  · have hd : dkLead b = (1, b - 192) := by unfold dkLead; rw [if_pos (by omega)]
    refine fin [⟨0, 127, 0, 0, 0⟩] [⟨224, 224, 2, 160, 191⟩, ⟨225, 236, 2, 128, 191⟩, ⟨237, 237, 2, 128, 159⟩, ⟨238, 239, 2, 128, 191⟩, ⟨240, 240, 3, 144, 191⟩, ⟨241, 243, 3, 128, 191⟩, ⟨244, 244, 3, 128, 143⟩] ⟨194, 223, 1, 128, 191⟩ rfl (by simp; omega) c1 (by decide) (by decide) (by decide) (by rw [hd]) (by rw [hd]; show b - 192 = b % 64; omega) (fun y hy1 hy2 => ?_)
    rw [hd]
    show dkBad 1 (64 * (b - 192) + y - 128) = true ↔ (y < 128 ∨ 191 < y)
    simp [dkBad]
    omega
  by_cases c2 : 224 ≤ b ∧ b ≤ 224
  · have hd : dkLead b = (2, b - 224) := by unfold dkLead; rw [if_neg (by omega), if_pos (by omega)]
    refine fin [⟨0, 127, 0, 0, 0⟩, ⟨194, 223, 1, 128, 191⟩] [⟨225, 236, 2, 128, 191⟩, ⟨237, 237, 2, 128, 159⟩, ⟨238, 239, 2, 128, 191⟩, ⟨240, 240, 3, 144, 191⟩, ⟨241, 243, 3, 128, 191⟩, ⟨244, 244, 3, 128, 143⟩] ⟨224, 224, 2, 160, 191⟩ rfl (by simp; omega) c2 (by decide) (by decide) (by decide) (by rw [hd]) (by rw [hd]; show b - 224 = b % 32; omega) (fun y hy1 hy2 => ?_)
    rw [hd]
    show dkBad 2 (64 * (b - 224) + y - 128) = true ↔ (y < 160 ∨ 191 < y)
    simp [dkBad]
    omega
  by_cases c3 : 225 ≤ b ∧ b ≤ 236
  · have hd : dkLead b = (2, b - 224) := by unfold dkLead; rw [if_neg (by omega), if_pos (by omega)]
    refine fin [⟨0, 127, 0, 0, 0⟩, ⟨194, 223, 1, 128, 191⟩, ⟨224, 224, 2, 160, 191⟩] [⟨237, 237, 2, 128, 159⟩, ⟨238, 239, 2, 128, 191⟩, ⟨240, 240, 3, 144, 191⟩, ⟨241, 243, 3, 128, 191⟩, ⟨244, 244, 3, 128, 143⟩] ⟨225, 236, 2, 128, 191⟩ rfl (by simp; omega) c3 (by decide) (by decide) (by decide) (by rw [hd]) (by rw [hd]; show b - 224 = b % 32; omega) (fun y hy1 hy2 => ?_)
    rw [hd]
    show dkBad 2 (64 * (b - 224) + y - 128) = true ↔ (y < 128 ∨ 191 < y)
    simp [dkBad]
    omega
  by_cases c4 : 237 ≤ b ∧ b ≤ 237
  · have hd : dkLead b = (2, b - 224) := by unfold dkLead; rw [if_neg (by omega), if_pos (by omega)]
    refine fin [⟨0, 127, 0, 0, 0⟩, ⟨194, 223, 1, 128, 191⟩, ⟨224, 224, 2, 160, 191⟩, ⟨225, 236, 2, 128, 191⟩] [⟨238, 239, 2, 128, 191⟩, ⟨240, 240, 3, 144, 191⟩, ⟨241, 243, 3, 128, 191⟩, ⟨244, 244, 3, 128, 143⟩] ⟨237, 237, 2, 128, 159⟩ rfl (by simp; omega) c4 (by decide) (by decide) (by decide) (by rw [hd]) (by rw [hd]; show b - 224 = b % 32; omega) (fun y hy1 hy2 => ?_)
    rw [hd]
    show dkBad 2 (64 * (b - 224) + y - 128) = true ↔ (y < 128 ∨ 159 < y)
    simp [dkBad]
    omega
  by_cases c5 : 238 ≤ b ∧ b ≤ 239
  · have hd : dkLead b = (2, b - 224) := by unfold dkLead; rw [if_neg (by omega), if_pos (by omega)]
    refine fin [⟨0, 127, 0, 0, 0⟩, ⟨194, 223, 1, 128, 191⟩, ⟨224, 224, 2, 160, 191⟩, ⟨225, 236, 2, 128, 191⟩, ⟨237, 237, 2, 128, 159⟩] [⟨240, 240, 3, 144, 191⟩, ⟨241, 243, 3, 128, 191⟩, ⟨244, 244, 3, 128, 143⟩] ⟨238, 239, 2, 128, 191⟩ rfl (by simp; omega) c5 (by decide) (by decide) (by decide) (by rw [hd]) (by rw [hd]; show b - 224 = b % 32; omega) (fun y hy1 hy2 => ?_)
    rw [hd]
    show dkBad 2 (64 * (b - 224) + y - 128) = true ↔ (y < 128 ∨ 191 < y)
    simp [dkBad]
    omega
  by_cases c6 : 240 ≤ b ∧ b ≤ 240
  · have hd : dkLead b = (3, b - 240) := by unfold dkLead; rw [if_neg (by omega), if_neg (by omega), if_pos (by omega)]
    refine fin [⟨0, 127, 0, 0, 0⟩, ⟨194, 223, 1, 128, 191⟩, ⟨224, 224, 2, 160, 191⟩, ⟨225, 236, 2, 128, 191⟩, ⟨237, 237, 2, 128, 159⟩, ⟨238, 239, 2, 128, 191⟩] [⟨241, 243, 3, 128, 191⟩, ⟨244, 244, 3, 128, 143⟩] ⟨240, 240, 3, 144, 191⟩ rfl (by simp; omega) c6 (by decide) (by decide) (by decide) (by rw [hd]) (by rw [hd]; show b - 240 = b % 16; omega) (fun y hy1 hy2 => ?_)
    rw [hd]
    show dkBad 3 (64 * (b - 240) + y - 128) = true ↔ (y < 144 ∨ 191 < y)
    simp [dkBad]
    omega
  by_cases c7 : 241 ≤ b ∧ b ≤ 243
  · have hd : dkLead b = (3, b - 240) := by unfold dkLead; rw [if_neg (by omega), if_neg (by omega), if_pos (by omega)]
    refine fin [⟨0, 127, 0, 0, 0⟩, ⟨194, 223, 1, 128, 191⟩, ⟨224, 224, 2, 160, 191⟩, ⟨225, 236, 2, 128, 191⟩, ⟨237, 237, 2, 128, 159⟩, ⟨238, 239, 2, 128, 191⟩, ⟨240, 240, 3, 144, 191⟩] [⟨244, 244, 3, 128, 143⟩] ⟨241, 243, 3, 128, 191⟩ rfl (by simp; omega) c7 (by decide) (by decide) (by decide) (by rw [hd]) (by rw [hd]; show b - 240 = b % 16; omega) (fun y hy1 hy2 => ?_)
    rw [hd]
    show dkBad 3 (64 * (b - 240) + y - 128) = true ↔ (y < 128 ∨ 191 < y)
    simp [dkBad]
    omega
  by_cases c8 : 244 ≤ b ∧ b ≤ 244
  · have hd : dkLead b = (3, b - 240) := by unfold dkLead; rw [if_neg (by omega), if_neg (by omega), if_pos (by omega)]
    refine fin [⟨0, 127, 0, 0, 0⟩, ⟨194, 223, 1, 128, 191⟩, ⟨224, 224, 2, 160, 191⟩, ⟨225, 236, 2, 128, 191⟩, ⟨237, 237, 2, 128, 159⟩, ⟨238, 239, 2, 128, 191⟩, ⟨240, 240, 3, 144, 191⟩, ⟨241, 243, 3, 128, 191⟩] [] ⟨244, 244, 3, 128, 143⟩ rfl (by simp; omega) c8 (by decide) (by decide) (by decide) (by rw [hd]) (by rw [hd]; show b - 240 = b % 16; omega) (fun y hy1 hy2 => ?_)
    rw [hd]
    show dkBad 3 (64 * (b - 240) + y - 128) = true ↔ (y < 128 ∨ 143 < y)
    simp [dkBad]
    omega
  have hn : leadOf b = none := by
    unfold leadOf
    rw [List.find?_eq_none]
    intro x hx
    simp only [leadsL, List.mem_cons, List.not_mem_nil, or_false] at hx
    rw [no_lead b x (by rcases hx with rfl | rfl | rfl | rfl | rfl | rfl | rfl | rfl | rfl <;> dsimp only <;> omega)]
    simp
  rw [hn, show dkLead b = (0, 0) by unfold dkLead; rw [if_neg (by omega), if_neg (by omega), if_neg (by omega)]]
  rfl
end Go.Proofs.YtdhhcefmmojcmaaGreatDoor

/- What stands at a place where a scalar's bytes lie, and the other way round: plain; no condition beside those told. -/
namespace Go.Proofs.YtdhhcefmmojcmaaGreatDoor
open Go.RowKit
open Go.Lib

/-- Such bytes lie from a place on. -/
def Lays (s : ByteArray) (i : Nat) (l : List Int) : Prop := ∀ j (h : j < l.length), i + j < s.size ∧ (byN s (i + j) : Int) = l[j]
theorem Lays.nil (s : ByteArray) (i : Nat) : Lays s i [] := fun j h => by simp at h
theorem Lays.left {s : ByteArray} {i : Nat} {a b : List Int} (h : Lays s i (a ++ b)) : Lays s i a := fun j hj => by
  obtain ⟨h1, h2⟩ := h j (by simp; omega)
  exact ⟨h1, by rw [h2, List.getElem_append_left hj]⟩
theorem Lays.right {s : ByteArray} {i : Nat} {a b : List Int} (h : Lays s i (a ++ b)) : Lays s (i + a.length) b := fun j hj => by
  obtain ⟨h1, h2⟩ := h (a.length + j) (by simp; omega)
  refine ⟨by omega, ?_⟩
  rw [show i + a.length + j = i + (a.length + j) by omega, h2, List.getElem_append_right (by omega)]
  congr 1
  omega
def lead3 (b : Nat) : Lead := ⟨if b = 224 then 224 else if b ≤ 236 then 225 else if b = 237 then 237 else 238, if b = 224 then 224 else if b ≤ 236 then 236 else if b = 237 then 237 else 239, 2, if b = 224 then 160 else 128, if b = 237 then 159 else 191⟩
def lead4 (b : Nat) : Lead := ⟨if b = 240 then 240 else if b ≤ 243 then 241 else 244, if b = 240 then 240 else if b ≤ 243 then 243 else 244, 3, if b = 240 then 144 else 128, if b = 244 then 143 else 191⟩
def leadT (l : Lead) : List Nat := [l.first, l.last, l.more, l.low, l.high]
def leadF (b : Nat) : Option Lead := if b < 128 then some ⟨0, 127, 0, 0, 0⟩ else if b < 194 then none else if b < 224 then some ⟨194, 223, 1, 128, 191⟩ else if b < 240 then some (lead3 b) else if b < 245 then some (lead4 b) else none
theorem leadT_one {a b : Option Lead} (h : a.map leadT = b.map leadT) : a = b := by
  rcases a with _ | ⟨a0, a1, a2, a3, a4⟩ <;> rcases b with _ | ⟨b0, b1, b2, b3, b4⟩ <;> simp [leadT] at h ⊢
  exact h
theorem leadOf_t : ∀ b, b < 256 → (leadOf b).map leadT = (leadF b).map leadT := by decide +kernel
theorem leadOf_eq (b : Nat) (h : b < 256) : leadOf b = if b < 128 then some ⟨0, 127, 0, 0, 0⟩ else if b < 194 then none else if b < 224 then some ⟨194, 223, 1, 128, 191⟩ else if b < 240 then some (lead3 b) else if b < 245 then some (lead4 b) else none := leadT_one (leadOf_t b h)
theorem tk8_eq (s : ByteArray) : tk8 s = if byN s 0 < 128 then ((byN s 0 : Int), 1) else if byN s 0 < 194 then (-1, 1)
    else if byN s 0 < 224 then (if 1 = s.size ∨ byN s 1 < 128 ∨ 191 < byN s 1 then (-1, 1) else (((64 * (byN s 0 % 64) + byN s 1 % 64 : Nat) : Int), 2))
    else if byN s 0 < 240 then (if 1 = s.size ∨ byN s 1 < (if byN s 0 = 224 then 160 else 128) ∨ (if byN s 0 = 237 then 159 else 191) < byN s 1 then (-1, 1) else if 2 = s.size ∨ byN s 2 < 128 ∨ 191 < byN s 2 then (-1, 2) else (((64 * (64 * (byN s 0 % 32) + byN s 1 % 64) + byN s 2 % 64 : Nat) : Int), 3))
    else if byN s 0 < 245 then (if 1 = s.size ∨ byN s 1 < (if byN s 0 = 240 then 144 else 128) ∨ (if byN s 0 = 244 then 143 else 191) < byN s 1 then (-1, 1) else if 2 = s.size ∨ byN s 2 < 128 ∨ 191 < byN s 2 then (-1, 2) else if 3 = s.size ∨ byN s 3 < 128 ∨ 191 < byN s 3 then (-1, 3) else (((64 * (64 * (64 * (byN s 0 % 16) + byN s 1 % 64) + byN s 2 % 64) + byN s 3 % 64 : Nat) : Int), 4))
    else (-1, 1) := by
  have hb := by_lt s 0
  unfold tk8
  rw [leadOf_eq _ hb]
  generalize byN s 0 = b at *
  by_cases c1 : b < 128
  · rw [if_pos c1, if_pos c1]
    show (((b % 2 ^ 7 : Nat) : Int), 1) = _
    rw [show b % 2 ^ 7 = b by omega]
  rw [if_neg c1, if_neg c1]
  by_cases c2 : b < 194
  · rw [if_pos c2, if_pos c2]
  rw [if_neg c2, if_neg c2]
  by_cases c3 : b < 224
  · rw [if_pos c3, if_pos c3]
    rfl
  rw [if_neg c3, if_neg c3]
  by_cases c4 : b < 240
  · rw [if_pos c4, if_pos c4]
    rfl
  rw [if_neg c4, if_neg c4]
  by_cases c5 : b < 245
  · rw [if_pos c5, if_pos c5]
    rfl
  rw [if_neg c5, if_neg c5]

/-- Bytes behind a place. -/
theorem rest_by {s : ByteArray} {i j : Nat} (h : i + j < s.size) : byN (s.extract i s.size) j = byN s (i + j) := by_extract s i j h
theorem rest_size (s : ByteArray) (i : Nat) : (s.extract i s.size).size = s.size - i := size_rest s i
theorem tk8_fwd (s : ByteArray) (i : Nat) (x : Int) (hx : scB x = true) (h : Lays s i (en8 x)) : tk8 (s.extract i s.size) = (x, (en8 x).length) := by
  rw [scB_iff] at hx
  rw [tk8_eq, rest_size]
  unfold en8 at h ⊢
  by_cases h1 : x < 128
  · rw [if_pos h1] at h ⊢
    obtain ⟨p0, q0⟩ := h 0 (by simp)
    rw [rest_by p0]
    simp at q0
    simp only [Nat.add_zero]
    rw [if_pos (by omega)]
    simp [q0]
  · rw [if_neg h1] at h ⊢
    by_cases h2 : x < 2048
    · rw [if_pos h2] at h ⊢
      obtain ⟨p0, q0⟩ := h 0 (by simp)
      obtain ⟨p1, q1⟩ := h 1 (by simp)
      rw [rest_by p0, rest_by p1]
      simp only [List.getElem_cons_zero, List.getElem_cons_succ] at q0 q1
      rw [if_neg (by omega), if_neg (by omega), if_pos (by omega), if_neg (by omega)]
      refine Prod.ext ?_ rfl
      dsimp only
      omega
    · rw [if_neg h2] at h ⊢
      by_cases h3 : x < 65536
      · rw [if_pos h3] at h ⊢
        obtain ⟨p0, q0⟩ := h 0 (by simp)
        obtain ⟨p1, q1⟩ := h 1 (by simp)
        obtain ⟨p2, q2⟩ := h 2 (by simp)
        rw [rest_by p0, rest_by p1, rest_by p2]
        simp only [List.getElem_cons_zero, List.getElem_cons_succ] at q0 q1 q2
        rw [if_neg (by omega), if_neg (by omega), if_neg (by omega), if_pos (by omega), if_neg (by split <;> split <;> omega), if_neg (by omega)]
        refine Prod.ext ?_ rfl
        dsimp only
        omega
      · rw [if_neg h3] at h ⊢
        obtain ⟨p0, q0⟩ := h 0 (by simp)
        obtain ⟨p1, q1⟩ := h 1 (by simp)
        obtain ⟨p2, q2⟩ := h 2 (by simp)
        obtain ⟨p3, q3⟩ := h 3 (by simp)
        rw [rest_by p0, rest_by p1, rest_by p2, rest_by p3]
        simp only [List.getElem_cons_zero, List.getElem_cons_succ] at q0 q1 q2 q3
        rw [if_neg (by omega), if_neg (by omega), if_neg (by omega), if_neg (by omega), if_pos (by omega), if_neg (by split <;> split <;> omega), if_neg (by omega), if_neg (by omega)]
        refine Prod.ext ?_ rfl
        dsimp only
        omega
theorem tk8_bwd (s : ByteArray) (i : Nat) (hi : i < s.size) (hx : (tk8 (s.extract i s.size)).1 ≠ -1) : scB (tk8 (s.extract i s.size)).1 = true ∧ Lays s i (en8 (tk8 (s.extract i s.size)).1) ∧ (tk8 (s.extract i s.size)).2 = (en8 (tk8 (s.extract i s.size)).1).length := by
  obtain ⟨r, hr⟩ : ∃ r, r = s.extract i s.size := ⟨_, rfl⟩
  have hsz : r.size = s.size - i := by rw [hr]; exact rest_size s i
  have hby : ∀ j, i + j < s.size → byN r j = byN s (i + j) := fun j h => by rw [hr]; exact rest_by h
  rw [← hr] at hx ⊢
  clear hr
  have b0 := by_lt r 0
  have e0 := hby 0 (by omega)
  rw [tk8_eq] at hx ⊢
  by_cases c1 : byN r 0 < 128
  · rw [if_pos c1]
    have hen : en8 (byN r 0 : Int) = [(byN r 0 : Int)] := by
      unfold en8
      rw [if_pos (by omega)]
    refine ⟨(scB_iff _).2 (by dsimp only; omega), ?_, ?_⟩
    · dsimp only
      rw [hen]
      intro j hj
      obtain rfl : j = 0 := by simp at hj; exact hj
      exact ⟨by omega, by rw [← e0]; rfl⟩
    · dsimp only
      rw [hen]
      rfl
  rw [if_neg c1] at hx ⊢
  by_cases c2 : byN r 0 < 194
  · rw [if_pos c2] at hx
    exact absurd rfl hx
  rw [if_neg c2] at hx ⊢
  by_cases c3 : byN r 0 < 224
  · rw [if_pos c3] at hx ⊢
    by_cases d1 : 1 = r.size ∨ byN r 1 < 128 ∨ 191 < byN r 1
    · rw [if_pos d1] at hx
      exact absurd rfl hx
    rw [if_neg d1]
    have e1 := hby 1 (by omega)
    have hen : en8 ((64 * (byN r 0 % 64) + byN r 1 % 64 : Nat) : Int) = [(byN r 0 : Int), (byN r 1 : Int)] := by
      unfold en8
      rw [if_neg (by omega), if_pos (by omega), show 192 + ((64 * (byN r 0 % 64) + byN r 1 % 64 : Nat) : Int) / 64 = (byN r 0 : Int) by omega, show 128 + ((64 * (byN r 0 % 64) + byN r 1 % 64 : Nat) : Int) % 64 = (byN r 1 : Int) by omega]
    refine ⟨(scB_iff _).2 (by dsimp only; omega), ?_, ?_⟩
    · dsimp only
      rw [hen]
      intro j hj
      rcases (show j = 0 ∨ j = 1 by simp at hj; omega) with rfl | rfl
      · exact ⟨by omega, by rw [← e0]; rfl⟩
      · exact ⟨by omega, by rw [← e1]; rfl⟩
    · dsimp only
      rw [hen]
      rfl
  rw [if_neg c3] at hx ⊢
  by_cases c4 : byN r 0 < 240
  · rw [if_pos c4] at hx ⊢
    by_cases d1 : 1 = r.size ∨ byN r 1 < (if byN r 0 = 224 then 160 else 128) ∨ (if byN r 0 = 237 then 159 else 191) < byN r 1
    · rw [if_pos d1] at hx
      exact absurd rfl hx
    rw [if_neg d1] at hx ⊢
    by_cases d2 : 2 = r.size ∨ byN r 2 < 128 ∨ 191 < byN r 2
    · rw [if_pos d2] at hx
      exact absurd rfl hx
    rw [if_neg d2]
    have e1 := hby 1 (by omega)
    have e2 := hby 2 (by omega)
    obtain ⟨x, hxx⟩ : ∃ x : Int, x = ((64 * (64 * (byN r 0 % 32) + byN r 1 % 64) + byN r 2 % 64 : Nat) : Int) := ⟨_, rfl⟩
    rw [← hxx]
    have hlo : 2048 ≤ x ∧ x < 65536 ∧ (x < 55296 ∨ 57344 ≤ x) := by
      split at d1 <;> split at d1 <;> omega
    have hlow : 128 ≤ byN r 1 ∧ byN r 1 ≤ 191 := by
      split at d1 <;> split at d1 <;> omega
    have hen : en8 x = [(byN r 0 : Int), (byN r 1 : Int), (byN r 2 : Int)] := by
      unfold en8
      rw [if_neg (by omega), if_neg (by omega), if_pos (by omega), show 224 + x / 4096 = (byN r 0 : Int) by omega, show 128 + x / 64 % 64 = (byN r 1 : Int) by omega, show 128 + x % 64 = (byN r 2 : Int) by omega]
    refine ⟨(scB_iff _).2 (by dsimp only; omega), ?_, ?_⟩
    · dsimp only
      rw [hen]
      intro j hj
      rcases (show j = 0 ∨ j = 1 ∨ j = 2 by simp at hj; omega) with rfl | rfl | rfl
      · exact ⟨by omega, by rw [← e0]; rfl⟩
      · exact ⟨by omega, by rw [← e1]; rfl⟩
      · exact ⟨by omega, by rw [← e2]; rfl⟩
    · dsimp only
      rw [hen]
      rfl
  rw [if_neg c4] at hx ⊢
  by_cases c5 : byN r 0 < 245
  · rw [if_pos c5] at hx ⊢
    by_cases d1 : 1 = r.size ∨ byN r 1 < (if byN r 0 = 240 then 144 else 128) ∨ (if byN r 0 = 244 then 143 else 191) < byN r 1
    · rw [if_pos d1] at hx
      exact absurd rfl hx
    rw [if_neg d1] at hx ⊢
    by_cases d2 : 2 = r.size ∨ byN r 2 < 128 ∨ 191 < byN r 2
    · rw [if_pos d2] at hx
      exact absurd rfl hx
    rw [if_neg d2] at hx ⊢
    by_cases d3 : 3 = r.size ∨ byN r 3 < 128 ∨ 191 < byN r 3
    · rw [if_pos d3] at hx
      exact absurd rfl hx
    rw [if_neg d3]
    have e1 := hby 1 (by omega)
    have e2 := hby 2 (by omega)
    have e3 := hby 3 (by omega)
    obtain ⟨x, hxx⟩ : ∃ x : Int, x = ((64 * (64 * (64 * (byN r 0 % 16) + byN r 1 % 64) + byN r 2 % 64) + byN r 3 % 64 : Nat) : Int) := ⟨_, rfl⟩
    rw [← hxx]
    have hlo : 65536 ≤ x ∧ x ≤ 1114111 := by
      split at d1 <;> split at d1 <;> omega
    have hlow : 128 ≤ byN r 1 ∧ byN r 1 ≤ 191 := by
      split at d1 <;> split at d1 <;> omega
    have hen : en8 x = [(byN r 0 : Int), (byN r 1 : Int), (byN r 2 : Int), (byN r 3 : Int)] := by
      unfold en8
      rw [if_neg (by omega), if_neg (by omega), if_neg (by omega), show 240 + x / 262144 = (byN r 0 : Int) by omega, show 128 + x / 4096 % 64 = (byN r 1 : Int) by omega, show 128 + x / 64 % 64 = (byN r 2 : Int) by omega, show 128 + x % 64 = (byN r 3 : Int) by omega]
    refine ⟨(scB_iff _).2 (by dsimp only; omega), ?_, ?_⟩
    · dsimp only
      rw [hen]
      intro j hj
      rcases (show j = 0 ∨ j = 1 ∨ j = 2 ∨ j = 3 by simp at hj; omega) with rfl | rfl | rfl | rfl
      · exact ⟨by omega, by rw [← e0]; rfl⟩
      · exact ⟨by omega, by rw [← e1]; rfl⟩
      · exact ⟨by omega, by rw [← e2]; rfl⟩
      · exact ⟨by omega, by rw [← e3]; rfl⟩
    · dsimp only
      rw [hen]
      rfl
  rw [if_neg c5] at hx
  exact absurd rfl hx
end Go.Proofs.YtdhhcefmmojcmaaGreatDoor
