/- Texts of this proof, one behind the other: what each says stands ahead of it. -/
import Derived.Test.YtmokfheckngfiaaDoorM13
/- A text fits into one row at most; conditions: those told. -/
namespace Go.Proofs.YtmokfheckngfiaaDoor
open Go.RowKit
open Go.Lib

/-- The bytes of a scalar tell it. -/
theorem en8_one {x y : Nat} (hx : x ≤ 1114111) (hy : y ≤ 1114111) (h : en8 (x : Int) = en8 (y : Int)) : x = y := by
  have hl := congrArg List.length h
  rcases Nat.lt_or_ge x 128 with a | a
  · rw [len1 a] at h hl
    rcases Nat.lt_or_ge y 128 with b | b
    · rw [len1 b] at h
      simp only [List.cons.injEq, and_true] at h
      omega
    · rcases Nat.lt_or_ge y 2048 with c | c
      · rw [len2 b c] at hl; simp at hl
      · rcases Nat.lt_or_ge y 65536 with d | d
        · rw [len3 c d] at hl; simp at hl
        · rw [len4 d] at hl; simp at hl
  · rcases Nat.lt_or_ge x 2048 with a2 | a2
    · rw [len2 a a2] at h hl
      rcases Nat.lt_or_ge y 128 with b | b
      · rw [len1 b] at hl; simp at hl
      · rcases Nat.lt_or_ge y 2048 with c | c
        · rw [len2 b c] at h
          simp only [List.cons.injEq, and_true] at h
          omega
        · rcases Nat.lt_or_ge y 65536 with d | d
          · rw [len3 c d] at hl; simp at hl
          · rw [len4 d] at hl; simp at hl
    · rcases Nat.lt_or_ge x 65536 with a3 | a3
      · rw [len3 a2 a3] at h hl
        rcases Nat.lt_or_ge y 128 with b | b
        · rw [len1 b] at hl; simp at hl
        · rcases Nat.lt_or_ge y 2048 with c | c
          · rw [len2 b c] at hl; simp at hl
          · rcases Nat.lt_or_ge y 65536 with d | d
            · rw [len3 c d] at h
              simp only [List.cons.injEq, and_true] at h
              omega
            · rw [len4 d] at hl; simp at hl
      · rw [len4 a3] at h hl
        rcases Nat.lt_or_ge y 128 with b | b
        · rw [len1 b] at hl; simp at hl
        · rcases Nat.lt_or_ge y 2048 with c | c
          · rw [len2 b c] at hl; simp at hl
          · rcases Nat.lt_or_ge y 65536 with d | d
            · rw [len3 c d] at hl; simp at hl
            · rw [len4 d] at h
              obtain ⟨x0, x1, x2, x3, ex, _, _, _, qx0, qx1, qx2, qx3⟩ := digits x
              obtain ⟨y0, y1, y2, y3, ey, _, _, _, qy0, qy1, qy2, qy3⟩ := digits y
              rw [qx0, qx1, qx2, qx3, qy0, qy1, qy2, qy3] at h
              simp only [List.cons.injEq, and_true] at h
              clear qx0 qx1 qx2 qx3 qy0 qy1 qy2 qy3
              omega
attribute [local irreducible] fitL zOf
theorem cuts_leaf {fu f t : Nat} {l : List (Nat × Nat)} (h : Cuts fu f t l) : Cls fu f t → ∀ p ∈ l, ∀ s : List Int, fitL (zOf p) s ↔ ∃ x : Nat, p.1 ≤ x ∧ x ≤ p.2 ∧ s = en8 (x : Int) := by
  induction h with
  | leaf f t h =>
    intro hcl p hp s
    obtain rfl : p = (f, t) := by simpa using hp
    exact leaf_fit hcl h s
  | node f t i a l m hi hn hc hl hm ihl ihm =>
    intro hcl p hp s
    have h1 := cutL_some (six hi hcl.few) hcl.le hc
    rcases List.mem_append.1 hp with k | k
    · exact ihl (hcl.left h1.1 h1.2) p k s
    · exact ihm (hcl.right h1.1 h1.2) p k s
theorem parts_leaf {f t i : Nat} {l : List (Nat × Nat)} (h : Parts f t i l) (hs : t < 55296 ∨ 57344 ≤ f) : i ≤ 4 → ∀ p ∈ l, ∀ s : List Int, fitL (zOf p) s ↔ ∃ x : Nat, p.1 ≤ x ∧ x ≤ p.2 ∧ s = en8 (x : Int) := by
  induction h with
  | none => intro _ p hp; simp at hp
  | skip i l h hn ih => exact fun hi => ih (by omega)
  | put i l m h hn hc ih =>
    intro hi p hp s
    rcases List.mem_append.1 hp with k | k
    · exact ih (by omega) p k s
    · exact cuts_leaf hc (cls_at (by omega) hs hn) p k s
theorem allp_leaf {m : List S.R2} {l : List (Nat × Nat)} (h : AllP m l) : (∀ r ∈ m, r.2 ≤ 1114111 ∧ (r.2 < 55296 ∨ 57344 ≤ r.1)) → ∀ p ∈ l, ∀ s : List Int, fitL (zOf p) s ↔ ∃ x : Nat, p.1 ≤ x ∧ x ≤ p.2 ∧ s = en8 (x : Int) := by
  induction h with
  | none => intro _ p hp; simp at hp
  | more r l k f t h hup hk ih =>
    intro hr p hp s
    have h1 := hr ((f : Int), (t : Int)) (by simp)
    dsimp only at h1
    rcases List.mem_append.1 hp with g | g
    · exact ih (fun q hq => hr q (by simp [hq])) p g s
    · exact parts_leaf hk (by omega) (Nat.le_refl _) p g s
/-- No text fits into two of the rows. -/
theorem allp_apart {m : List S.R2} {l : List (Nat × Nat)} (h : AllP m l) (hr : ∀ r ∈ m, r.2 ≤ 1114111 ∧ (r.2 < 55296 ∨ 57344 ≤ r.1)) (s : List Int) : l.Pairwise (fun p q => ¬ (fitL (zOf p) s ∧ fitL (zOf q) s)) := by
  obtain ⟨h1, h2⟩ := allp_up h
  have h3 := allp_leaf h hr
  refine List.Pairwise.imp_of_mem (fun {p q} hp hq hpq => ?_) h2
  rintro ⟨ha, hb⟩
  obtain ⟨x, x1, x2, ex⟩ := (h3 p hp s).1 ha
  obtain ⟨y, y1, y2, ey⟩ := (h3 q hq s).1 hb
  obtain ⟨_, r, hr1, hr2⟩ := h1 p hp
  obtain ⟨_, r', hr1', hr2'⟩ := h1 q hq
  have b1 := (hr r hr1).1
  have b2 := (hr r' hr1').1
  have := en8_one (x := x) (y := y) (by omega) (by omega) (ex.symm.trans ey)
  omega
end Go.Proofs.YtmokfheckngfiaaDoor

/- How many rows a set has; conditions: those told. -/
namespace Go.Proofs.YtmokfheckngfiaaDoor
open Go.RowKit
open Go.Lib

/-- At how many levels a number isn't the first of its kind, or not the last. -/
def ua (fu f : Nat) : Nat := (if 1 ≤ fu ∧ f % 64 ≠ 0 then 1 else 0) + ((if 2 ≤ fu ∧ f % 4096 ≠ 0 then 1 else 0) + (if 3 ≤ fu ∧ f % 262144 ≠ 0 then 1 else 0))
def ub (fu t : Nat) : Nat := (if 1 ≤ fu ∧ t % 64 ≠ 63 then 1 else 0) + ((if 2 ≤ fu ∧ t % 4096 ≠ 4095 then 1 else 0) + (if 3 ≤ fu ∧ t % 262144 ≠ 262143 then 1 else 0))
theorem one_of (P : Prop) [Decidable P] : ∃ n : Nat, (if P then 1 else 0) = n ∧ ((P ∧ n = 1) ∨ (¬ P ∧ n = 0)) := by
  by_cases h : P
  · exact ⟨1, by rw [if_pos h], .inl ⟨h, rfl⟩⟩
  · exact ⟨0, by rw [if_neg h], .inr ⟨h, rfl⟩⟩
theorem ua_le (fu f : Nat) (h : fu ≤ 3) : ua fu f ≤ fu := by
  unfold ua
  obtain ⟨a, ea, ha⟩ := one_of (1 ≤ fu ∧ f % 64 ≠ 0)
  obtain ⟨b, eb, hb⟩ := one_of (2 ≤ fu ∧ f % 4096 ≠ 0)
  obtain ⟨c, ec, hc⟩ := one_of (3 ≤ fu ∧ f % 262144 ≠ 0)
  rw [ea, eb, ec]
  omega
theorem ub_le (fu f : Nat) (h : fu ≤ 3) : ub fu f ≤ fu := by
  unfold ub
  obtain ⟨a, ea, ha⟩ := one_of (1 ≤ fu ∧ f % 64 ≠ 63)
  obtain ⟨b, eb, hb⟩ := one_of (2 ≤ fu ∧ f % 4096 ≠ 4095)
  obtain ⟨c, ec, hc⟩ := one_of (3 ≤ fu ∧ f % 262144 ≠ 262143)
  rw [ea, eb, ec]
  omega
/-- Where a number's level i isn't its first, the next one above it that is has one less. -/
theorem ua_step {fu f a i : Nat} (hi : i < fu) (hfu : fu ≤ 3) (h : (i = 0 ∧ f % 64 ≠ 0 ∧ a % 64 = 0) ∨ (i = 1 ∧ f % 64 = 0 ∧ f % 4096 ≠ 0 ∧ a % 4096 = 0) ∨ (i = 2 ∧ f % 4096 = 0 ∧ f % 262144 ≠ 0 ∧ a % 262144 = 0)) : ua fu a + 1 ≤ ua fu f := by
  unfold ua
  obtain ⟨a1, ea1, ha1⟩ := one_of (1 ≤ fu ∧ f % 64 ≠ 0)
  obtain ⟨b1, eb1, hb1⟩ := one_of (2 ≤ fu ∧ f % 4096 ≠ 0)
  obtain ⟨c1, ec1, hc1⟩ := one_of (3 ≤ fu ∧ f % 262144 ≠ 0)
  obtain ⟨a2, ea2, ha2⟩ := one_of (1 ≤ fu ∧ a % 64 ≠ 0)
  obtain ⟨b2, eb2, hb2⟩ := one_of (2 ≤ fu ∧ a % 4096 ≠ 0)
  obtain ⟨c2, ec2, hc2⟩ := one_of (3 ≤ fu ∧ a % 262144 ≠ 0)
  rw [ea1, eb1, ec1, ea2, eb2, ec2]
  clear ea1 eb1 ec1 ea2 eb2 ec2
  rcases h with ⟨rfl, h⟩ | ⟨rfl, h⟩ | ⟨rfl, h⟩ <;> omega
theorem ub_step {fu t a i : Nat} (hi : i < fu) (hfu : fu ≤ 3) (h : (i = 0 ∧ t % 64 ≠ 63 ∧ a % 64 = 63) ∨ (i = 1 ∧ t % 64 = 63 ∧ t % 4096 ≠ 4095 ∧ a % 4096 = 4095) ∨ (i = 2 ∧ t % 4096 = 4095 ∧ t % 262144 ≠ 262143 ∧ a % 262144 = 262143)) : ub fu a + 1 ≤ ub fu t := by
  unfold ub
  obtain ⟨a1, ea1, ha1⟩ := one_of (1 ≤ fu ∧ t % 64 ≠ 63)
  obtain ⟨b1, eb1, hb1⟩ := one_of (2 ≤ fu ∧ t % 4096 ≠ 4095)
  obtain ⟨c1, ec1, hc1⟩ := one_of (3 ≤ fu ∧ t % 262144 ≠ 262143)
  obtain ⟨a2, ea2, ha2⟩ := one_of (1 ≤ fu ∧ a % 64 ≠ 63)
  obtain ⟨b2, eb2, hb2⟩ := one_of (2 ≤ fu ∧ a % 4096 ≠ 4095)
  obtain ⟨c2, ec2, hc2⟩ := one_of (3 ≤ fu ∧ a % 262144 ≠ 262143)
  rw [ea1, eb1, ec1, ea2, eb2, ec2]
  clear ea1 eb1 ec1 ea2 eb2 ec2
  rcases h with ⟨rfl, h⟩ | ⟨rfl, h⟩ | ⟨rfl, h⟩ <;> omega
theorem cut_same {f t k : Nat} (h : f / 2 ^ k = t / 2 ^ k) : cutL f t k = none := by
  unfold cutL
  rw [if_pos h]
theorem cut_whole {f t k : Nat} (h : f % 2 ^ k = 0 ∧ t % 2 ^ k = 2 ^ k - 1) : cutL f t k = none := by
  unfold cutL
  split
  · rfl
  · rw [if_neg (by omega), if_neg (by omega)]
theorem cuts_leaf1 {fu f t : Nat} {l : List (Nat × Nat)} (h : Cuts fu f t l) (hno : ∀ i, i < fu → cutL f t ((i + 1) * 6) = none) : l.length = 1 := by
  cases h with
  | leaf => rfl
  | node _ _ i a l m hi hn hc hl hm =>
    rw [hno i hi] at hc
    cases hc
theorem cut_some {f t k a : Nat} (h : cutL f t k = some a) : f / 2 ^ k ≠ t / 2 ^ k ∧ ((f % 2 ^ k ≠ 0 ∧ a = (f / 2 ^ k + 1) * 2 ^ k) ∨ (f % 2 ^ k = 0 ∧ t % 2 ^ k ≠ 2 ^ k - 1 ∧ a = t / 2 ^ k * 2 ^ k)) := by
  unfold cutL at h
  split at h
  · cases h
  · split at h
    · exact ⟨by assumption, .inl ⟨by assumption, (Option.some.inj h).symm⟩⟩
    · split at h
      · exact ⟨by assumption, .inr ⟨Decidable.not_not.1 (by assumption), by assumption, (Option.some.inj h).symm⟩⟩
      · cases h
theorem p6 : (2 : Nat) ^ ((0 + 1) * 6) = 64 := by decide
theorem p12 : (2 : Nat) ^ ((1 + 1) * 6) = 4096 := by decide
theorem p18 : (2 : Nat) ^ ((2 + 1) * 6) = 262144 := by decide
theorem none_at {f t : Nat} (i : Nat) (h : i < 3) (hs : (i = 0 ∧ (f / 64 = t / 64 ∨ (f % 64 = 0 ∧ t % 64 = 63))) ∨ (i = 1 ∧ (f / 4096 = t / 4096 ∨ (f % 4096 = 0 ∧ t % 4096 = 4095))) ∨ (i = 2 ∧ (f / 262144 = t / 262144 ∨ (f % 262144 = 0 ∧ t % 262144 = 262143)))) : cutL f t ((i + 1) * 6) = none := by
  rcases hs with ⟨rfl, hs⟩ | ⟨rfl, hs⟩ | ⟨rfl, hs⟩
  · rcases hs with hs | hs
    · exact cut_same (by rw [p6]; exact hs)
    · exact cut_whole (by rw [p6]; exact hs)
  · rcases hs with hs | hs
    · exact cut_same (by rw [p12]; exact hs)
    · exact cut_whole (by rw [p12]; exact hs)
  · rcases hs with hs | hs
    · exact cut_same (by rw [p18]; exact hs)
    · exact cut_whole (by rw [p18]; exact hs)
theorem cuts_len {fu f t : Nat} {l : List (Nat × Nat)} (h : Cuts fu f t l) : fu ≤ 3 → f ≤ t → l.length ≤ 1 + ua fu f + ub fu t := by
  induction h with
  | leaf f t h => intro _ _; simp only [List.length_cons, List.length_nil]; omega
  | node f t i a l m hi hn hc hl hm ihl ihm =>
    intro hfu hft
    have hat := cutL_some (six hi hfu) hft hc
    have ihl := ihl hfu (by omega)
    have ihm := ihm hfu (by omega)
    have hs := cut_some hc
    rw [List.length_append]
    rcases (show i = 0 ∨ i = 1 ∨ i = 2 by omega) with rfl | rfl | rfl
    · rw [p6] at hs
      rcases hs with ⟨hne, ⟨h1, h2⟩ | ⟨h1, h3, h2⟩⟩
      · have hone := cuts_leaf1 hl (fun j hj => none_at j (by omega) (by omega))
        have hst := ua_step (f := f) (a := a) hi hfu (by omega)
        omega
      · have hone := cuts_leaf1 hm (fun j hj => none_at j (by omega) (by omega))
        have hst := ub_step (t := t) (a := a - 1) hi hfu (by omega)
        omega
    · rw [p12] at hs
      have h0 := cut_none_iff (hn 0 (by omega))
      rw [p6] at h0
      rcases hs with ⟨hne, ⟨h1, h2⟩ | ⟨h1, h3, h2⟩⟩
      · have h0' : f % 64 = 0 ∧ t % 64 = 63 := by omega
        have hone := cuts_leaf1 hl (fun j hj => none_at j (by omega) (by omega))
        have hst := ua_step (f := f) (a := a) hi hfu (by omega)
        omega
      · have h0' : f % 64 = 0 ∧ t % 64 = 63 := by omega
        have hone := cuts_leaf1 hm (fun j hj => none_at j (by omega) (by omega))
        have hst := ub_step (t := t) (a := a - 1) hi hfu (by omega)
        omega
    · rw [p18] at hs
      have h0 := cut_none_iff (hn 1 (by omega))
      rw [p12] at h0
      rcases hs with ⟨hne, ⟨h1, h2⟩ | ⟨h1, h3, h2⟩⟩
      · have h0' : f % 4096 = 0 ∧ t % 4096 = 4095 := by omega
        have hone := cuts_leaf1 hl (fun j hj => none_at j (by omega) (by omega))
        have hst := ua_step (f := f) (a := a) hi hfu (by omega)
        omega
      · have h0' : f % 4096 = 0 ∧ t % 4096 = 4095 := by omega
        have hone := cuts_leaf1 hm (fun j hj => none_at j (by omega) (by omega))
        have hst := ub_step (t := t) (a := a - 1) hi hfu (by omega)
        omega
/-- At most how many parts of one length a range has. -/
def cn (i f t : Nat) : Nat := if max f (bdL i) ≤ min t (bdL (i + 1) - 1) then 1 + ua i (max f (bdL i)) + ub i (min t (bdL (i + 1) - 1)) else 0
def cns (f t : Nat) : Nat → Nat
  | 0 => 0
  | i + 1 => cns f t i + cn i f t
theorem parts_len {f t i : Nat} {l : List (Nat × Nat)} (h : Parts f t i l) : i ≤ 4 → l.length ≤ cns f t i := by
  induction h with
  | none => intro _; exact Nat.le_refl _
  | skip i l h hn ih =>
    intro hi
    have := ih (by omega)
    unfold cns
    omega
  | put i l m h hn hc ih =>
    intro hi
    have h1 := ih (by omega)
    have h2 := cuts_len hc (by omega) hn
    rw [List.length_append]
    unfold cns cn
    rw [if_pos hn]
    omega
theorem cn_le {i f t lo hi A B : Nat} (h3 : i ≤ 3) (hlo : bdL i = lo) (hhi : bdL (i + 1) - 1 = hi) (hA : ua i lo = A) (hB : ub i hi = B) : ((t < lo ∨ hi < f ∨ t < f) → cn i f t = 0) ∧ (f ≤ lo → hi ≤ t → cn i f t ≤ 1 + A + B) ∧ (f ≤ lo → cn i f t ≤ 1 + A + i) ∧ (hi ≤ t → cn i f t ≤ 1 + i + B) ∧ cn i f t ≤ 1 + i + i := by
  unfold cn
  rw [hlo, hhi]
  have a1 := ua_le i (max f lo) h3
  have b1 := ub_le i (min t hi) h3
  by_cases hc : max f lo ≤ min t hi
  · rw [if_pos hc]
    refine ⟨fun h => by omega, fun h1 h2 => ?_, fun h1 => ?_, fun h2 => ?_, by omega⟩
    · rw [show max f lo = lo by omega, show min t hi = hi by omega, hA, hB]
      exact Nat.le_refl _
    · rw [show max f lo = lo by omega, hA]
      omega
    · rw [show min t hi = hi by omega, hB]
      omega
  · rw [if_neg hc]
    exact ⟨fun _ => rfl, fun _ _ => by omega, fun _ => by omega, fun _ => by omega, by omega⟩
theorem cn2_low (f : Nat) : f ≤ 2048 → cn 2 f 55295 ≤ 3 := fun h => by
  unfold cn
  rw [show bdL 2 = 2048 from rfl, show bdL (2 + 1) - 1 = 65535 from rfl, show max f 2048 = 2048 by omega]
  decide
theorem cn2_mid (f : Nat) : cn 2 f 55295 ≤ 4 := by
  unfold cn
  rw [show bdL 2 = 2048 from rfl, show bdL (2 + 1) - 1 = 65535 from rfl, show min 55295 65535 = 55295 by omega]
  have := ua_le 2 (max f 2048) (by omega)
  have h2 : ub 2 55295 = 1 := by decide
  rw [h2]
  split <;> omega
theorem cn2_high (t : Nat) : cn 2 57344 t ≤ 3 ∧ (65535 ≤ t → cn 2 57344 t ≤ 1) := by
  unfold cn
  rw [show bdL 2 = 2048 from rfl, show bdL (2 + 1) - 1 = 65535 from rfl, show max 57344 2048 = 57344 by omega]
  have := ub_le 2 (min t 65535) (by omega)
  have h2 : ua 2 57344 = 0 := by decide
  rw [h2]
  constructor
  · split <;> omega
  · intro h
    rw [show min t 65535 = 65535 by omega, show ub 2 65535 = 0 by decide]
    split <;> omega
/-- At most how many parts a range has that no surrogate is in. -/
def wt (r : S.R2) : Nat := if r.2 < 55296 then (if r.2 = 55295 then 5 else 6) else (if r.1 = 57344 then 6 else 8)
theorem cns_wt {f t : Nat} (hft : f ≤ t) (ht : t ≤ 1114111) (hs : t < 55296 ∨ 57344 ≤ f) : cns f t 4 ≤ wt ((f : Int), (t : Int)) := by
  have e : cns f t 4 = cn 0 f t + cn 1 f t + cn 2 f t + cn 3 f t := by
    simp only [cns, Nat.zero_add]
  rw [e]
  have c0 := cn_le (i := 0) (f := f) (t := t) (lo := 0) (hi := 127) (A := 0) (B := 0) (by omega) rfl rfl (by decide) (by decide)
  have c1 := cn_le (i := 1) (f := f) (t := t) (lo := 128) (hi := 2047) (A := 0) (B := 0) (by omega) rfl rfl (by decide) (by decide)
  have c2 := cn_le (i := 2) (f := f) (t := t) (lo := 2048) (hi := 65535) (A := 1) (B := 0) (by omega) rfl rfl (by decide) (by decide)
  have c3 := cn_le (i := 3) (f := f) (t := t) (lo := 65536) (hi := 1114111) (A := 1) (B := 1) (by omega) rfl rfl (by decide) (by decide)
  unfold wt
  dsimp only
  by_cases h1 : t < 55296
  · rw [if_pos (by omega)]
    by_cases h2 : t = 55295
    · rw [if_pos (by omega)]
      subst h2
      have d1 := cn2_low f
      have d2 := cn2_mid f
      omega
    · rw [if_neg (by omega)]
      omega
  · rw [if_neg (by omega)]
    by_cases h2 : f = 57344
    · rw [if_pos (by omega)]
      subst h2
      have d1 := cn2_high t
      omega
    · rw [if_neg (by omega)]
      omega
theorem allp_len {m : List S.R2} {l : List (Nat × Nat)} (h : AllP m l) : (∀ r ∈ m, r.1 ≤ r.2 ∧ r.2 ≤ 1114111 ∧ (r.2 < 55296 ∨ 57344 ≤ r.1)) → l.length ≤ (m.map wt).sum := by
  induction h with
  | none => intro _; exact Nat.le_refl _
  | more s l k f t h hup hk ih =>
    intro hr
    have h1 := hr ((f : Int), (t : Int)) (by simp)
    dsimp only at h1
    have h2 := ih (fun q hq => hr q (by simp [hq]))
    have h3 := parts_len hk (Nat.le_refl _)
    have h4 := cns_wt (f := f) (t := t) (by omega) (by omega) (by omega)
    rw [List.length_append, List.map_append, List.sum_append, List.map_cons, List.map_nil, List.sum_cons, List.sum_nil]
    omega
/-- What a range has beside the surrogates. -/
def cutR (r : S.R2) : List S.R2 := (if r.1 < 55296 then [(r.1, min r.2 55295)] else []) ++ (if 57343 < r.2 then [(max r.1 57344, r.2)] else [])
theorem cutR_wt (r : S.R2) (h : r.1 ≤ r.2) : ((cutR r).map wt).sum ≤ 11 := by
  obtain ⟨f, t⟩ := r
  dsimp only at h
  unfold cutR
  dsimp only
  by_cases h1 : f < 55296
  · rw [if_pos h1]
    by_cases h2 : 57343 < t
    · rw [if_pos h2, show min t 55295 = 55295 by omega, show max f 57344 = 57344 by omega]
      simp only [List.cons_append, List.nil_append, List.map_cons, List.map_nil, List.sum_cons, List.sum_nil]
      have w1 : wt (f, 55295) = 5 := by unfold wt; rw [if_pos (by dsimp only; omega), if_pos rfl]
      have w2 : wt (57344, t) = 6 := by unfold wt; rw [if_neg (by dsimp only; omega), if_pos rfl]
      omega
    · rw [if_neg h2]
      simp only [List.cons_append, List.nil_append, List.map_cons, List.map_nil, List.sum_cons, List.sum_nil]
      unfold wt
      split
      · split <;> omega
      · split <;> omega
  · rw [if_neg h1]
    by_cases h2 : 57343 < t
    · rw [if_pos h2]
      simp only [List.nil_append, List.map_cons, List.map_nil, List.sum_cons, List.sum_nil]
      unfold wt
      split
      · split <;> omega
      · split <;> omega
    · rw [if_neg h2]
      simp
theorem cutR_in {x : Int} {r : S.R2} : S.In x (cutR r) ↔ (r.1 ≤ x ∧ x ≤ r.2) ∧ ¬ S.In x surL := by
  obtain ⟨f, t⟩ := r
  rw [surL, S.in_one]
  unfold cutR
  dsimp only
  rw [S.in_append]
  by_cases h1 : f < 55296
  · rw [if_pos h1, S.in_one]
    by_cases h2 : 57343 < t
    · rw [if_pos h2, S.in_one]
      dsimp only
      omega
    · rw [if_neg h2]
      have := S.in_nil x
      dsimp only
      constructor
      · rintro (k | k)
        · omega
        · exact absurd k this
      · intro k
        exact .inl (by omega)
  · rw [if_neg h1]
    have := S.in_nil x
    by_cases h2 : 57343 < t
    · rw [if_pos h2, S.in_one]
      dsimp only
      constructor
      · rintro (k | k)
        · exact absurd k this
        · omega
      · intro k
        exact .inr (by omega)
    · rw [if_neg h2]
      constructor
      · rintro (k | k)
        · exact absurd k this
        · exact absurd k this
      · intro k
        exfalso
        omega
theorem mem_cutR {r q : S.R2} (h : q ∈ cutR r) (hr : r.1 ≤ r.2) : r.1 ≤ q.1 ∧ q.1 ≤ q.2 ∧ q.2 ≤ r.2 := by
  obtain ⟨f, t⟩ := r
  unfold cutR at h
  dsimp only at h hr
  rw [List.mem_append] at h
  rcases h with h | h
  · split at h
    · obtain rfl := List.mem_singleton.1 h
      dsimp only
      omega
    · cases h
  · split at h
    · obtain rfl := List.mem_singleton.1 h
      dsimp only
      omega
    · cases h
theorem cutR_pair (r : S.R2) : (cutR r).Pairwise (fun a b => a.2 + 1 < b.1) := by
  unfold cutR
  split
  · split
    · refine List.pairwise_append.2 ⟨List.pairwise_singleton _ _, List.pairwise_singleton _ _, fun p hp q hq => ?_⟩
      obtain rfl := List.mem_singleton.1 hp
      obtain rfl := List.mem_singleton.1 hq
      dsimp only
      omega
    · rw [List.append_nil]
      exact List.pairwise_singleton _ _
  · split
    · exact List.pairwise_singleton _ _
    · exact List.Pairwise.nil
theorem cut_set {s m : List S.R2} (hs : S.Canon s) (hm : S.Canon m) (h : ∀ x, S.In x m ↔ S.In x s ∧ ¬ S.In x surL) : m = s.flatMap cutR := by
  refine S.canon_one hm ⟨fun q hq => ?_, List.pairwise_flatMap.2 ⟨fun r _ => cutR_pair r, ?_⟩⟩ (fun x => ?_)
  · obtain ⟨r, hr, hq⟩ := List.mem_flatMap.1 hq
    have h1 := hs.in_ r hr
    have h2 := mem_cutR hq h1.2.1
    unfold S.inB at h1 ⊢
    omega
  · refine List.Pairwise.imp_of_mem (fun {r r'} hr hr' hup p hp q hq => ?_) hs.up
    have h1 := mem_cutR hp (hs.in_ r hr).2.1
    have h2 := mem_cutR hq (hs.in_ r' hr').2.1
    omega
  · rw [h x]
    constructor
    · rintro ⟨⟨r, hr, hx⟩, hn⟩
      obtain ⟨q, hq, hx⟩ := cutR_in.2 ⟨hx, hn⟩
      exact ⟨q, List.mem_flatMap.2 ⟨r, hr, hq⟩, hx⟩
    · rintro ⟨q, hq, hx⟩
      obtain ⟨r, hr, hq⟩ := List.mem_flatMap.1 hq
      obtain ⟨h1, h2⟩ := cutR_in.1 ⟨q, hq, hx⟩
      exact ⟨⟨r, hr, h1⟩, h2⟩
theorem sum_cut : ∀ (s : List S.R2), (∀ r ∈ s, r.1 ≤ r.2) → ((s.flatMap cutR).map wt).sum ≤ 12 * s.length
  | [], _ => Nat.le_refl _
  | r :: s, h => by
    have h1 := cutR_wt r (h r (List.mem_cons_self ..))
    have h2 := sum_cut s (fun q hq => h q (List.mem_cons_of_mem _ hq))
    rw [List.flatMap_cons, List.map_append, List.sum_append, List.length_cons]
    omega
/-- There are at most twelve parts a range. -/
theorem allp_twelve {s m : List S.R2} {l : List (Nat × Nat)} (hs : S.Canon s) (hm : S.Canon m) (h : ∀ x, S.In x m ↔ S.In x s ∧ ¬ S.In x surL) (hap : AllP m l) (hr : ∀ r ∈ m, r.2 ≤ 1114111 ∧ (r.2 < 55296 ∨ 57344 ≤ r.1)) : l.length ≤ 12 * s.length := by
  have h1 := allp_len hap (fun r hq => ⟨(hm.in_ r hq).2.1, hr r hq⟩)
  rw [cut_set hs hm h] at h1
  have h2 := sum_cut s (fun r hr => (hs.in_ r hr).2.1)
  omega
end Go.Proofs.YtmokfheckngfiaaDoor
