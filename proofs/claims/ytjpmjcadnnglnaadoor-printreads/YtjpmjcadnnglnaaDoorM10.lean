/- Texts of this proof, one behind the other: what each says stands ahead of it. -/
import Derived.Test.YtjpmjcadnnglnaaDoorM9
import Derived.Deep.RegionWith
import Derived.Test.YtjpmjcadnnglnaaDoorM4
/- putUTF8; conditions: those told. -/
namespace Go.Proofs.YtjpmjcadnnglnaaDoor
open Go.RowKit

end Go.Proofs.YtjpmjcadnnglnaaDoor

/- The putter of UTF-8; conditions: those told. -/
namespace Go.Proofs.YtjpmjcadnnglnaaDoor
open Go.RowKit
attribute [local go_sem] run_store_func

/-- The bytes of a scalar by UTF-8. -/
def en8 (r : Int) : List Int := if r < 128 then [r] else if r < 2048 then [192 + r / 64, 128 + r % 64] else if r < 65536 then [224 + r / 4096, 128 + r / 64 % 64, 128 + r % 64] else [240 + r / 262144, 128 + r / 4096 % 64, 128 + r / 64 % 64, 128 + r % 64]
end Go.Proofs.YtjpmjcadnnglnaaDoor

/- Encode of any numbers in every coding; conditions: those told. -/
namespace Go.Proofs.YtjpmjcadnnglnaaDoor
open Go.RowKit
open Go.Lib

def scB (r : Int) : Bool := decide (0 ≤ r) && (decide (r ≤ 1114111) && !(decide (55296 ≤ r) && decide (r < 57344)))
theorem scB_iff (r : Int) : scB r = true ↔ 0 ≤ r ∧ r ≤ 1114111 ∧ (r < 55296 ∨ 57344 ≤ r) := by
  unfold scB
  simp only [Bool.and_eq_true, decide_eq_true_eq, Bool.not_eq_true', Bool.and_eq_false_iff, decide_eq_false_iff_not]
  omega
def enc (c : Nat) (r : Int) : List Int := if c = 1 then en8 r else if c = 2 then en16 50 r else if c = 3 then en16 51 r else [r]
def okc (c : Nat) (r : Int) : Bool := scB r && (decide (c ≠ 4) || decide (r ≤ 255))
def topc (c : Nat) : Int := if c = 4 then 255 else 1114111
theorem enc_len (c : Nat) (r : Int) : (enc c r).length ≤ 4 := by
  unfold enc en8 en16 enU
  repeat' split
  all_goals simp
theorem flat_len (c : Nat) : ∀ l : List Int, (l.flatMap (enc c)).length ≤ 4 * l.length
  | [] => by simp
  | x :: l => by
    have := enc_len c x
    have := flat_len c l
    simp only [List.flatMap_cons, List.length_append, List.length_cons]
    omega
theorem flat_more (c : Nat) (l : List Int) (i : Nat) (hi : i < l.length) (o : List Int) : o ++ (l.take (i + 1)).flatMap (enc c) = o ++ (l.take i).flatMap (enc c) ++ enc c l[i] := by
  rw [List.take_succ_eq_append_getElem hi, List.flatMap_append, ← List.append_assoc]
  simp
theorem okc_in {c : Nat} {r : Int} (h : okc c r = true) : 0 ≤ r ∧ r ≤ topc c := by
  unfold okc at h
  rw [Bool.and_eq_true, scB_iff] at h
  unfold topc
  split
  · rename_i e
    subst e
    simp at h
    omega
  · omega
def encR (c : Nat) (mark : Bool) (l : List Int) : Value := if l.all (okc c) = true then .tuple #[.string (strOfNums ((if mark then nums (mk c) else []) ++ l.flatMap (enc c))), .int .i64 0] else .tuple #[.string ⟨#[]⟩, .int .i64 17]
theorem encR_bad {c : Nat} {mark : Bool} {l : List Int} (i : Nat) (hi : i < l.length) (h : okc c l[i] = false) : encR c mark l = .tuple #[.string ⟨#[]⟩, .int .i64 17] := by
  unfold encR
  rw [if_neg]
  intro e
  rw [List.all_eq_true] at e
  have := e _ (List.getElem_mem hi)
  rw [h] at this
  cases this
theorem all_take {p : Int → Bool} {l : List Int} {i : Nat} (hi : i < l.length) (h : (l.take i).all p = true) (hx : p l[i] = true) : (l.take (i + 1)).all p = true := by
  rw [List.take_succ_eq_append_getElem hi, List.all_append, h, List.all_cons, hx]
  rfl
end Go.Proofs.YtjpmjcadnnglnaaDoor

/- What the document's utf8 tells is what the program's takeUTF8 tells, plain facts; no condition beside those told. -/
namespace Go.Proofs.YtjpmjcadnnglnaaDoor

def dkBad (m v : Nat) : Bool :=
  if m = 1 then false
  else if m = 2 then decide (64 * v + 63 < 2048) || (decide (55296 ≤ 64 * v) && decide (64 * v + 63 ≤ 57343))
  else decide (4096 * v + 4095 < 65536) || decide (1114111 < 4096 * v)
def dkGo (s : ByteArray) (a m : Nat) : Nat → Nat → Nat → Int × Nat
  | 0, _, v => ((v : Int), m + 1)
  | f + 1, k, v => if s.size ≤ a + k then (-1, k) else if byN s (a + k) < 128 ∨ 191 < byN s (a + k) then (-1, k) else if k = 1 ∧ dkBad m (64 * v + byN s (a + k) - 128) = true then (-1, 1) else dkGo s a m f (k + 1) (64 * v + byN s (a + k) - 128)
def dkLead (b : Nat) : Nat × Nat := if 194 ≤ b ∧ b ≤ 223 then (1, b - 192) else if 224 ≤ b ∧ b ≤ 239 then (2, b - 224) else if 240 ≤ b ∧ b ≤ 244 then (3, b - 240) else (0, 0)
def dk8 (s : ByteArray) (a : Nat) : Int × Nat := if byN s a < 128 then ((byN s a : Int), 1) else if (dkLead (byN s a)).1 = 0 then (-1, 1) else dkGo s a (dkLead (byN s a)).1 (dkLead (byN s a)).1 1 (dkLead (byN s a)).2

theorem by_extract (s : ByteArray) (a i : Nat) (h : a + i < s.size) : byN (s.extract a s.size) i = byN s (a + i) := by
  unfold byN
  have h1 : i < (s.extract a s.size).size := by rw [ByteArray.size_extract]; omega
  rw [dif_pos h1, dif_pos h, ByteArray.getElem_extract]
theorem size_rest (s : ByteArray) (a : Nat) : (s.extract a s.size).size = s.size - a := by rw [ByteArray.size_extract]; omega
/-- Behind the second byte both go alike. -/
theorem go_alike (s : ByteArray) (a m : Nat) (ha : a < s.size) : ∀ (f k v : Nat), 2 ≤ k → a + k ≤ s.size → dkGo s a m f k v = tkGo (s.extract a s.size) m f k v 128 191
  | 0, k, v, _, _ => by
    unfold dkGo tkGo
    rw [Nat.add_comm]
  | f + 1, k, v, hk, hak => by
    unfold dkGo tkGo
    rw [size_rest]
    by_cases h : s.size ≤ a + k
    · rw [if_pos h, if_pos (.inl (by omega))]
    · rw [if_neg h, by_extract s a k (by omega)]
      by_cases h2 : byN s (a + k) < 128 ∨ 191 < byN s (a + k)
      · rw [if_pos h2, if_pos (.inr h2)]
      · rw [if_neg h2, if_neg (by omega), if_neg (by omega)]
        have e : 64 * v + byN s (a + k) - 128 = 64 * v + byN s (a + k) % 64 := by
          have := by_lt s (a + k)
          omega
        rw [e]
        exact go_alike s a m ha f (k + 1) _ (by omega) (by omega)
/-- The second byte, by both. -/
theorem second_alike (s : ByteArray) (a m v lo hi : Nat) (hm : 1 ≤ m) (ha : a < s.size) (h : ∀ y, 128 ≤ y → y ≤ 191 → (dkBad m (64 * v + y - 128) = true ↔ (y < lo ∨ hi < y))) (hlo : 128 ≤ lo) (hhi : hi ≤ 191) :
    dkGo s a m m 1 v = tkGo (s.extract a s.size) m m 1 v lo hi := by
  obtain ⟨f, rfl⟩ : ∃ f, m = f + 1 := ⟨m - 1, by omega⟩
  unfold dkGo tkGo
  rw [size_rest]
  by_cases h1 : s.size ≤ a + 1
  · rw [if_pos h1, if_pos (.inl (by omega))]
  · rw [if_neg h1, by_extract s a 1 (by omega)]
    have hy := by_lt s (a + 1)
    by_cases h2 : byN s (a + 1) < 128 ∨ 191 < byN s (a + 1)
    · rw [if_pos h2, if_pos (by omega)]
    · rw [if_neg h2]
      have hb := h (byN s (a + 1)) (by omega) (by omega)
      by_cases h3 : byN s (a + 1) < lo ∨ hi < byN s (a + 1)
      · rw [if_pos ⟨rfl, hb.2 h3⟩, if_pos (.inr h3)]
      · rw [if_neg (fun q => h3 (hb.1 q.2)), if_neg (by omega)]
        have e : 64 * v + byN s (a + 1) - 128 = 64 * v + byN s (a + 1) % 64 := by omega
        rw [e]
        exact go_alike s a (f + 1) ha f 2 _ (Nat.le_refl _) (by omega)
theorem lead_low {b : Nat} (h : b < 128) : leadOf b = some ⟨0, 127, 0, 0, 0⟩ := by
  unfold leadOf leadsL
  rw [List.find?_cons_of_pos]
  unfold hasLead
  simp
  omega
theorem find_row (b : Nat) (pre post : List Lead) (l : Lead) (hp : ∀ x ∈ pre, hasLead b x = false) (h : hasLead b l = true) : (pre ++ l :: post).find? (hasLead b) = some l := by
  rw [List.find?_append, List.find?_eq_none.2 (fun x hx => by rw [hp x hx]; simp), List.find?_cons_of_pos h]
  rfl
theorem no_lead (b : Nat) (l : Lead) (h : b < l.first ∨ l.last < b) : hasLead b l = false := by
  unfold hasLead
  simp
  omega
theorem is_lead (b : Nat) (l : Lead) (h : l.first ≤ b ∧ b ≤ l.last) : hasLead b l = true := by
  unfold hasLead
  simp
  omega
theorem dk_tk (s : ByteArray) (a : Nat) (ha : a < s.size) : dk8 s a = tk8 (s.extract a s.size) := by
  have h0 : byN (s.extract a s.size) 0 = byN s a := by rw [by_extract s a 0 (by omega), Nat.add_zero]
  unfold dk8 tk8
  rw [h0]
  have hb := by_lt s a
  generalize byN s a = b at *
  by_cases h1 : b < 128
  · rw [if_pos h1, lead_low h1]
    show _ = tkGo _ 0 0 1 (b % 2 ^ 7) 0 0
    unfold tkGo
    rw [Nat.mod_eq_of_lt (by omega)]
  rw [if_neg h1]
  have row : ∀ (pre post : List Lead) (l : Lead), leadsL = pre ++ l :: post → (∀ x ∈ pre, b < x.first ∨ x.last < b) → l.first ≤ b ∧ b ≤ l.last → leadOf b = some l := fun pre post l e hp hl => by
    unfold leadOf
    rw [e]
    exact find_row b pre post l (fun x hx => no_lead b x (hp x hx)) (is_lead b l hl)
  have fin : ∀ (pre post : List Lead) (l : Lead), leadsL = pre ++ l :: post → (∀ x ∈ pre, b < x.first ∨ x.last < b) → l.first ≤ b ∧ b ≤ l.last → 1 ≤ l.more → 128 ≤ l.low → l.high ≤ 191 → (dkLead b).1 = l.more → (dkLead b).2 = b % 2 ^ (7 - l.more) → (∀ y, 128 ≤ y → y ≤ 191 → (dkBad l.more (64 * (dkLead b).2 + y - 128) = true ↔ (y < l.low ∨ l.high < y))) →
      (if (dkLead b).1 = 0 then ((-1 : Int), 1) else dkGo s a (dkLead b).1 (dkLead b).1 1 (dkLead b).2) = (match leadOf b with | none => (-1, 1) | some l => tkGo (s.extract a s.size) l.more l.more 1 (b % 2 ^ (7 - l.more)) l.low l.high) := fun pre post l e hp hl h1 h2 h3 h4 h5 h6 => by
    rw [row pre post l e hp hl, h4, if_neg (by omega)]
    show _ = tkGo (s.extract a s.size) l.more l.more 1 (b % 2 ^ (7 - l.more)) l.low l.high
    rw [← h5]
    exact second_alike s a l.more (dkLead b).2 l.low l.high h1 ha h6 h2 h3
  by_cases c1 : 194 ≤ b ∧ b ≤ 223
  · have hd : dkLead b = (1, b - 192) := by unfold dkLead; rw [if_pos (by omega)]
    refine fin [⟨0, 127, 0, 0, 0⟩] [⟨224, 224, 2, 160, 191⟩, ⟨225, 236, 2, 128, 191⟩, ⟨237, 237, 2, 128, 159⟩, ⟨238, 239, 2, 128, 191⟩, ⟨240, 240, 3, 144, 191⟩, ⟨241, 243, 3, 128, 191⟩, ⟨244, 244, 3, 128, 143⟩] ⟨194, 223, 1, 128, 191⟩ rfl (by simp; omega) c1 (by decide) (by decide) (by decide) (by rw [hd]) (by rw [hd]; show b - 192 = b % 64; omega) (fun y hy1 hy2 => ?_)
    rw [hd]
    show dkBad 1 (64 * (b - 192) + y - 128) = true ↔ (y < 128 ∨ 191 < y)
    simp [dkBad]
    omega
  by_cases c2 : 224 ≤ b ∧ b ≤ 224
  · have hd : dkLead b = (2, b - 224) := by unfold dkLead; rw [if_neg (by omega), if_pos (by omega)]
    refine fin [⟨0, 127, 0, 0, 0⟩, ⟨194, 223, 1, 128, 191⟩] [⟨225, 236, 2, 128, 191⟩, ⟨237, 237, 2, 128, 159⟩, ⟨238, 239, 2, 128, 191⟩, ⟨240, 240, 3, 144, 191⟩, ⟨241, 243, 3, 128, 191⟩, ⟨244, 244, 3, 128, 143⟩] ⟨224, 224, 2, 160, 191⟩ rfl (by simp; omega) c2 (by decide) (by decide) (by decide) (by rw [hd]) (by rw [hd]; show b - 224 = b % 32; omega) (fun y hy1 hy2 => ?_)
    rw [hd]
    show dkBad 2 (64 * (b - 224) + y - 128) = true ↔ (y < 160 ∨ 191 < y)
    simp [dkBad]
    omega
  by_cases c3 : 225 ≤ b ∧ b ≤ 236
  · have hd : dkLead b = (2, b - 224) := by unfold dkLead; rw [if_neg (by omega), if_pos (by omega)]
    refine fin [⟨0, 127, 0, 0, 0⟩, ⟨194, 223, 1, 128, 191⟩, ⟨224, 224, 2, 160, 191⟩] [⟨237, 237, 2, 128, 159⟩, ⟨238, 239, 2, 128, 191⟩, ⟨240, 240, 3, 144, 191⟩, ⟨241, 243, 3, 128, 191⟩, ⟨244, 244, 3, 128, 143⟩] ⟨225, 236, 2, 128, 191⟩ rfl (by simp; omega) c3 (by decide) (by decide) (by decide) (by rw [hd]) (by rw [hd]; show b - 224 = b % 32; omega) (fun y hy1 hy2 => ?_)
    rw [hd]
    show dkBad 2 (64 * (b - 224) + y - 128) = true ↔ (y < 128 ∨ 191 < y)
    simp [dkBad]
    omega
  by_cases c4 : 237 ≤ b ∧ b ≤ 237
  · have hd : dkLead b = (2, b - 224) := by unfold dkLead; rw [if_neg (by omega), if_pos (by omega)]
    refine fin [⟨0, 127, 0, 0, 0⟩, ⟨194, 223, 1, 128, 191⟩, ⟨224, 224, 2, 160, 191⟩, ⟨225, 236, 2, 128, 191⟩] [⟨238, 239, 2, 128, 191⟩, ⟨240, 240, 3, 144, 191⟩, ⟨241, 243, 3, 128, 191⟩, ⟨244, 244, 3, 128, 143⟩] ⟨237, 237, 2, 128, 159⟩ rfl (by simp; omega) c4 (by decide) (by decide) (by decide) (by rw [hd]) (by rw [hd]; show b - 224 = b % 32; omega) (fun y hy1 hy2 => ?_)
    rw [hd]
    show dkBad 2 (64 * (b - 224) + y - 128) = true ↔ (y < 128 ∨ 159 < y)
    simp [dkBad]
    omega
  by_cases c5 : 238 ≤ b ∧ b ≤ 239
  · have hd : dkLead b = (2, b - 224) := by unfold dkLead; rw [if_neg (by omega), if_pos (by omega)]
    refine fin [⟨0, 127, 0, 0, 0⟩, ⟨194, 223, 1, 128, 191⟩, ⟨224, 224, 2, 160, 191⟩, ⟨225, 236, 2, 128, 191⟩, ⟨237, 237, 2, 128, 159⟩] [⟨240, 240, 3, 144, 191⟩, ⟨241, 243, 3, 128, 191⟩, ⟨244, 244, 3, 128, 143⟩] ⟨238, 239, 2, 128, 191⟩ rfl (by simp; omega) c5 (by decide) (by decide) (by decide) (by rw [hd]) (by rw [hd]; show b - 224 = b % 32; omega) (fun y hy1 hy2 => ?_)
    rw [hd]
    show dkBad 2 (64 * (b - 224) + y - 128) = true ↔ (y < 128 ∨ 191 < y)
    simp [dkBad]
    omega
  by_cases c6 : 240 ≤ b ∧ b ≤ 240
  · have hd : dkLead b = (3, b - 240) := by unfold dkLead; rw [if_neg (by omega), if_neg (by omega), if_pos (by omega)]
    refine fin [⟨0, 127, 0, 0, 0⟩, ⟨194, 223, 1, 128, 191⟩, ⟨224, 224, 2, 160, 191⟩, ⟨225, 236, 2, 128, 191⟩, ⟨237, 237, 2, 128, 159⟩, ⟨238, 239, 2, 128, 191⟩] [⟨241, 243, 3, 128, 191⟩, ⟨244, 244, 3, 128, 143⟩] ⟨240, 240, 3, 144, 191⟩ rfl (by simp; omega) c6 (by decide) (by decide) (by decide) (by rw [hd]) (by rw [hd]; show b - 240 = b % 16; omega) (fun y hy1 hy2 => ?_)
    rw [hd]
    show dkBad 3 (64 * (b - 240) + y - 128) = true ↔ (y < 144 ∨ 191 < y)
    simp [dkBad]
    omega
  by_cases c7 : 241 ≤ b ∧ b ≤ 243
  · have hd : dkLead b = (3, b - 240) := by unfold dkLead; rw [if_neg (by omega), if_neg (by omega), if_pos (by omega)]
    refine fin [⟨0, 127, 0, 0, 0⟩, ⟨194, 223, 1, 128, 191⟩, ⟨224, 224, 2, 160, 191⟩, ⟨225, 236, 2, 128, 191⟩, ⟨237, 237, 2, 128, 159⟩, ⟨238, 239, 2, 128, 191⟩, ⟨240, 240, 3, 144, 191⟩] [⟨244, 244, 3, 128, 143⟩] ⟨241, 243, 3, 128, 191⟩ rfl (by simp; omega) c7 (by decide) (by decide) (by decide) (by rw [hd]) (by rw [hd]; show b - 240 = b % 16; omega) (fun y hy1 hy2 => ?_)
    rw [hd]
    show dkBad 3 (64 * (b - 240) + y - 128) = true ↔ (y < 128 ∨ 191 < y)
    simp [dkBad]
    omega
  by_cases c8 : 244 ≤ b ∧ b ≤ 244
  · have hd : dkLead b = (3, b - 240) := by unfold dkLead; rw [if_neg (by omega), if_neg (by omega), if_pos (by omega)]
    refine fin [⟨0, 127, 0, 0, 0⟩, ⟨194, 223, 1, 128, 191⟩, ⟨224, 224, 2, 160, 191⟩, ⟨225, 236, 2, 128, 191⟩, ⟨237, 237, 2, 128, 159⟩, ⟨238, 239, 2, 128, 191⟩, ⟨240, 240, 3, 144, 191⟩, ⟨241, 243, 3, 128, 191⟩] [] ⟨244, 244, 3, 128, 143⟩ rfl (by simp; omega) c8 (by decide) (by decide) (by decide) (by rw [hd]) (by rw [hd]; show b - 240 = b % 16; omega) (fun y hy1 hy2 => ?_)
    rw [hd]
    show dkBad 3 (64 * (b - 240) + y - 128) = true ↔ (y < 128 ∨ 143 < y)
    simp [dkBad]
    omega
  have hn : leadOf b = none := by
    unfold leadOf
    rw [List.find?_eq_none]
    intro x hx
    simp only [leadsL, List.mem_cons, List.not_mem_nil, or_false] at hx
    rw [no_lead b x (by rcases hx with rfl | rfl | rfl | rfl | rfl | rfl | rfl | rfl | rfl <;> dsimp only <;> omega)]
    simp
  rw [hn, show dkLead b = (0, 0) by unfold dkLead; rw [if_neg (by omega), if_neg (by omega), if_neg (by omega)]]
  rfl
end Go.Proofs.YtjpmjcadnnglnaaDoor
