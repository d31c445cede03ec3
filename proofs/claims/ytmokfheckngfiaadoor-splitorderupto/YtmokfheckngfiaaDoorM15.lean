/- Texts of this proof, one behind the other: what each says stands ahead of it. -/
import Derived.Test.YtmokfheckngfiaaDoorM14
import Derived.Test.YtmokfheckngfiaaDoorM6
import Derived.Test.YtmokfheckngfiaaDoorM3
/- How many texts rows hold, and how they rise; conditions: those told. -/
namespace Go.Proofs.YtmokfheckngfiaaDoor
open Go.RowKit
open Go.Lib

/-- A row's size, by its ranges one behind the other. -/
def szL : List S.R2 → Int → Int
  | [], n => n
  | r :: z, n => szL z (n * (r.2 - r.1 + 1))
theorem size_two {x0 x1 y0 y1 : Int} (h : x0 = y0 ∨ (x1 = 0 ∧ y1 = 63)) : (1 * (y0 - x0 + 1)) * (y1 - x1 + 1) = (64 * y0 + y1) - (64 * x0 + x1) + 1 := by
  rcases h with h | ⟨h1, h2⟩
  · subst h
    rw [show x0 - x0 + 1 = (1 : Int) by omega]
    omega
  · subst h1 h2
    omega
theorem size_three {x0 x1 x2 y0 y1 y2 : Int} (h : (x0 = y0 ∧ x1 = y1) ∨ (x2 = 0 ∧ y2 = 63)) (h' : x0 = y0 ∨ (x1 = 0 ∧ x2 = 0 ∧ y1 = 63 ∧ y2 = 63)) : (1 * (y0 - x0 + 1)) * (y1 - x1 + 1) * (y2 - x2 + 1) = (4096 * y0 + 64 * y1 + y2) - (4096 * x0 + 64 * x1 + x2) + 1 := by
  rcases h with ⟨h1, h2⟩ | ⟨h1, h2⟩
  · subst h1 h2
    rw [show x0 - x0 + 1 = (1 : Int) by omega, show x1 - x1 + 1 = (1 : Int) by omega]
    omega
  · subst h1 h2
    rcases h' with h' | ⟨h1, _, h2, _⟩
    · subst h'
      rw [show x0 - x0 + 1 = (1 : Int) by omega]
      omega
    · subst h1 h2
      omega
theorem size_four {x0 x1 x2 x3 y0 y1 y2 y3 : Int} (h : (x0 = y0 ∧ x1 = y1 ∧ x2 = y2) ∨ (x3 = 0 ∧ y3 = 63)) (h' : (x0 = y0 ∧ x1 = y1) ∨ (x2 = 0 ∧ x3 = 0 ∧ y2 = 63 ∧ y3 = 63)) (h'' : x0 = y0 ∨ (x1 = 0 ∧ x2 = 0 ∧ x3 = 0 ∧ y1 = 63 ∧ y2 = 63 ∧ y3 = 63)) : (1 * (y0 - x0 + 1)) * (y1 - x1 + 1) * (y2 - x2 + 1) * (y3 - x3 + 1) = (262144 * y0 + 4096 * y1 + 64 * y2 + y3) - (262144 * x0 + 4096 * x1 + 64 * x2 + x3) + 1 := by
  rcases h with ⟨h1, h2, h3⟩ | ⟨h1, h2⟩
  · subst h1 h2 h3
    rw [show x0 - x0 + 1 = (1 : Int) by omega, show x1 - x1 + 1 = (1 : Int) by omega, show x2 - x2 + 1 = (1 : Int) by omega]
    omega
  · subst h1 h2
    rcases h' with ⟨h1, h2⟩ | ⟨h1, _, h2, _⟩
    · subst h1 h2
      rw [show x0 - x0 + 1 = (1 : Int) by omega, show x1 - x1 + 1 = (1 : Int) by omega]
      omega
    · subst h1 h2
      rcases h'' with h'' | ⟨h1, _, _, h2, _⟩
      · subst h''
        rw [show x0 - x0 + 1 = (1 : Int) by omega]
        omega
      · subst h1 h2
        omega
theorem leaf_size {fu f t : Nat} (hcl : Cls fu f t) (hno : ∀ i, i < fu → cutL f t ((i + 1) * 6) = none) : szL (zOf (f, t)) 1 = (t : Int) - (f : Int) + 1 := by
  have hfu := hcl.few
  have hle := hcl.le
  have hlo := hcl.lo
  have hhi := hcl.hi
  rcases (show fu = 0 ∨ fu = 1 ∨ fu = 2 ∨ fu = 3 by omega) with rfl | rfl | rfl | rfl
  · have hhi' : t < 128 := hhi
    unfold zOf
    rw [len1 (f := f) (by omega), len1 (f := t) (by omega)]
    show 1 * ((t : Int) - (f : Int) + 1) = _
    omega
  · have hlo' : 128 ≤ f := hlo
    have hhi' : t < 2048 := hhi
    have h6 : f / 64 = t / 64 ∨ (f % 64 = 0 ∧ t % 64 = 63) := cut_none_iff (hno 0 (by omega))
    unfold zOf
    rw [len2 (f := f) (by omega) (by omega), len2 (f := t) (by omega) (by omega)]
    show (1 * ((192 + (t : Int) / 64) - (192 + (f : Int) / 64) + 1)) * ((128 + (t : Int) % 64) - (128 + (f : Int) % 64) + 1) = _
    have := size_two (x0 := (f : Int) / 64) (x1 := (f : Int) % 64) (y0 := (t : Int) / 64) (y1 := (t : Int) % 64) (by omega)
    rw [show (192 + (t : Int) / 64) - (192 + (f : Int) / 64) + 1 = (t : Int) / 64 - (f : Int) / 64 + 1 by omega, show (128 + (t : Int) % 64) - (128 + (f : Int) % 64) + 1 = (t : Int) % 64 - (f : Int) % 64 + 1 by omega, this]
    omega
  · have hlo' : 2048 ≤ f := hlo
    have hhi' : t < 65536 := hhi
    have h6 : f / 64 = t / 64 ∨ (f % 64 = 0 ∧ t % 64 = 63) := cut_none_iff (hno 0 (by omega))
    have h12 : f / 4096 = t / 4096 ∨ (f % 4096 = 0 ∧ t % 4096 = 4095) := cut_none_iff (hno 1 (by omega))
    unfold zOf
    rw [len3 (f := f) (by omega) (by omega), len3 (f := t) (by omega) (by omega)]
    show (1 * ((224 + (t : Int) / 4096) - (224 + (f : Int) / 4096) + 1)) * ((128 + (t : Int) / 64 % 64) - (128 + (f : Int) / 64 % 64) + 1) * ((128 + (t : Int) % 64) - (128 + (f : Int) % 64) + 1) = _
    have := size_three (x0 := (f : Int) / 4096) (x1 := (f : Int) / 64 % 64) (x2 := (f : Int) % 64) (y0 := (t : Int) / 4096) (y1 := (t : Int) / 64 % 64) (y2 := (t : Int) % 64) (by omega) (by omega)
    rw [show (224 + (t : Int) / 4096) - (224 + (f : Int) / 4096) + 1 = (t : Int) / 4096 - (f : Int) / 4096 + 1 by omega, show (128 + (t : Int) / 64 % 64) - (128 + (f : Int) / 64 % 64) + 1 = (t : Int) / 64 % 64 - (f : Int) / 64 % 64 + 1 by omega, show (128 + (t : Int) % 64) - (128 + (f : Int) % 64) + 1 = (t : Int) % 64 - (f : Int) % 64 + 1 by omega, this]
    omega
  · have hlo' : 65536 ≤ f := hlo
    have h6 : f / 64 = t / 64 ∨ (f % 64 = 0 ∧ t % 64 = 63) := cut_none_iff (hno 0 (by omega))
    have h12 : f / 4096 = t / 4096 ∨ (f % 4096 = 0 ∧ t % 4096 = 4095) := cut_none_iff (hno 1 (by omega))
    have h18 : f / 262144 = t / 262144 ∨ (f % 262144 = 0 ∧ t % 262144 = 262143) := cut_none_iff (hno 2 (by omega))
    unfold zOf
    rw [len4 (f := f) (by omega), len4 (f := t) (by omega)]
    show (1 * ((240 + (t : Int) / 262144) - (240 + (f : Int) / 262144) + 1)) * ((128 + (t : Int) / 4096 % 64) - (128 + (f : Int) / 4096 % 64) + 1) * ((128 + (t : Int) / 64 % 64) - (128 + (f : Int) / 64 % 64) + 1) * ((128 + (t : Int) % 64) - (128 + (f : Int) % 64) + 1) = _
    obtain ⟨x0, x1, x2, x3, ex, lx1, lx2, lx3, qx0, qx1, qx2, qx3⟩ := digits f
    obtain ⟨y0, y1, y2, y3, ey, ly1, ly2, ly3, qy0, qy1, qy2, qy3⟩ := digits t
    rw [qx0, qx1, qx2, qx3, qy0, qy1, qy2, qy3]
    have g6 : (x0 = y0 ∧ x1 = y1 ∧ x2 = y2) ∨ (x3 = 0 ∧ y3 = 63) := by
      clear qx0 qx1 qx2 qx3 qy0 qy1 qy2 qy3 h12 h18
      omega
    have g12 : (x0 = y0 ∧ x1 = y1) ∨ (x2 = 0 ∧ x3 = 0 ∧ y2 = 63 ∧ y3 = 63) := by
      clear qx0 qx1 qx2 qx3 qy0 qy1 qy2 qy3 h6 h18
      omega
    have g18 : x0 = y0 ∨ (x1 = 0 ∧ x2 = 0 ∧ x3 = 0 ∧ y1 = 63 ∧ y2 = 63 ∧ y3 = 63) := by
      clear qx0 qx1 qx2 qx3 qy0 qy1 qy2 qy3 h6 h12
      omega
    have := size_four (x0 := (x0 : Int)) (x1 := (x1 : Int)) (x2 := (x2 : Int)) (x3 := (x3 : Int)) (y0 := (y0 : Int)) (y1 := (y1 : Int)) (y2 := (y2 : Int)) (y3 := (y3 : Int)) (by clear qx0 qx1 qx2 qx3 qy0 qy1 qy2 qy3 h6 h12 h18 g12 g18; omega) (by clear qx0 qx1 qx2 qx3 qy0 qy1 qy2 qy3 h6 h12 h18 g6 g18; omega) (by clear qx0 qx1 qx2 qx3 qy0 qy1 qy2 qy3 h6 h12 h18 g6 g12; omega)
    rw [show (240 + (y0 : Int)) - (240 + (x0 : Int)) + 1 = (y0 : Int) - (x0 : Int) + 1 by omega, show (128 + (y1 : Int)) - (128 + (x1 : Int)) + 1 = (y1 : Int) - (x1 : Int) + 1 by omega, show (128 + (y2 : Int)) - (128 + (x2 : Int)) + 1 = (y2 : Int) - (x2 : Int) + 1 by omega, show (128 + (y3 : Int)) - (128 + (x3 : Int)) + 1 = (y3 : Int) - (x3 : Int) + 1 by omega, this]
    clear qx0 qx1 qx2 qx3 qy0 qy1 qy2 qy3 h6 h12 h18 g6 g12 g18 this
    omega
/-- How many numbers parts hold. -/
def sumP (l : List (Nat × Nat)) : Int := (l.map (fun p => (p.2 : Int) - (p.1 : Int) + 1)).sum
theorem sumP_append (l m : List (Nat × Nat)) : sumP (l ++ m) = sumP l + sumP m := by
  unfold sumP
  rw [List.map_append, List.sum_append]
theorem cuts_size {fu f t : Nat} {l : List (Nat × Nat)} (h : Cuts fu f t l) : Cls fu f t → sumP l = (t : Int) - (f : Int) + 1 ∧ ∀ p ∈ l, szL (zOf p) 1 = (p.2 : Int) - (p.1 : Int) + 1 := by
  induction h with
  | leaf f t h =>
    intro hcl
    refine ⟨by unfold sumP; simp, fun p hp => ?_⟩
    obtain rfl := List.mem_singleton.1 hp
    exact leaf_size hcl h
  | node f t i a l m hi hn hc hl hm ihl ihm =>
    intro hcl
    have h1 := cutL_some (six hi hcl.few) hcl.le hc
    obtain ⟨a1, a2⟩ := ihl (hcl.left h1.1 h1.2)
    obtain ⟨b1, b2⟩ := ihm (hcl.right h1.1 h1.2)
    refine ⟨by rw [sumP_append]; omega, fun p hp => ?_⟩
    rcases List.mem_append.1 hp with k | k
    · exact a2 p k
    · exact b2 p k
theorem parts_size {f t i : Nat} {l : List (Nat × Nat)} (h : Parts f t i l) (hs : t < 55296 ∨ 57344 ≤ f) : i ≤ 4 → sumP l = max ((min (t + 1) (bdL i) : Nat) - (f : Int)) 0 ∧ ∀ p ∈ l, szL (zOf p) 1 = (p.2 : Int) - (p.1 : Int) + 1 := by
  induction h with
  | none =>
    intro _
    refine ⟨?_, fun p hp => by simp at hp⟩
    show (0 : Int) = _
    rw [show bdL 0 = 0 from rfl]
    omega
  | skip i l h hn ih =>
    intro hi
    have hb := bd_lt i (by omega)
    obtain ⟨a1, a2⟩ := ih (by omega)
    refine ⟨?_, a2⟩
    rw [a1]
    omega
  | put i l m h hn hc ih =>
    intro hi
    have hb := bd_lt i (by omega)
    obtain ⟨a1, a2⟩ := ih (by omega)
    obtain ⟨b1, b2⟩ := cuts_size hc (cls_at (by omega) hs hn)
    refine ⟨by rw [sumP_append, a1, b1]; omega, fun p hp => ?_⟩
    rcases List.mem_append.1 hp with k | k
    · exact a2 p k
    · exact b2 p k
theorem allp_size {m : List S.R2} {l : List (Nat × Nat)} (h : AllP m l) : (∀ r ∈ m, r.1 ≤ r.2 ∧ r.2 ≤ 1114111 ∧ (r.2 < 55296 ∨ 57344 ≤ r.1)) → sumP l = (m.map (fun r => r.2 - r.1 + 1)).sum ∧ ∀ p ∈ l, szL (zOf p) 1 = (p.2 : Int) - (p.1 : Int) + 1 := by
  induction h with
  | none => intro _; exact ⟨rfl, fun p hp => by simp at hp⟩
  | more s l k f t h hup hk ih =>
    intro hr
    have h1 := hr ((f : Int), (t : Int)) (by simp)
    dsimp only at h1
    obtain ⟨a1, a2⟩ := ih (fun q hq => hr q (by simp [hq]))
    obtain ⟨b1, b2⟩ := parts_size hk (by omega) (Nat.le_refl _)
    have hb : bdL 4 = 1114112 := rfl
    have e : max ((min (t + 1) (bdL 4) : Nat) - (f : Int)) 0 = (t : Int) - (f : Int) + 1 := by omega
    refine ⟨?_, fun p hp => ?_⟩
    · rw [sumP_append, a1, b1, List.map_append, List.sum_append, List.map_cons, List.map_nil, List.sum_cons, List.sum_nil, e, Int.add_zero]
    · rcases List.mem_append.1 hp with g | g
      · exact a2 p g
      · exact b2 p g
/-- Lists of bytes in their order. -/
def lxLt : List Int → List Int → Prop
  | _, [] => False
  | [], _ :: _ => True
  | a :: x, b :: y => a < b ∨ (a = b ∧ lxLt x y)
theorem en8_up {x y : Nat} (h : x < y) (hy : y ≤ 1114111) (l m : List Int) (hl : en8 (x : Int) = l) (hm : en8 (y : Int) = m) : lxLt l m := by
  rcases Nat.lt_or_ge x 128 with a | a
  · rw [len1 a] at hl; subst hl
    rcases Nat.lt_or_ge y 128 with b | b
    · rw [len1 b] at hm; subst hm; exact .inl (by omega)
    · rcases Nat.lt_or_ge y 2048 with c | c
      · rw [len2 b c] at hm; subst hm; exact .inl (by omega)
      · rcases Nat.lt_or_ge y 65536 with d | d
        · rw [len3 c d] at hm; subst hm; exact .inl (by omega)
        · rw [len4 d] at hm; subst hm; exact .inl (by omega)
  · rcases Nat.lt_or_ge x 2048 with a2 | a2
    · rw [len2 a a2] at hl; subst hl
      rcases Nat.lt_or_ge y 2048 with c | c
      · rw [len2 (by omega) c] at hm; subst hm
        rcases (show (x : Int) / 64 < (y : Int) / 64 ∨ ((x : Int) / 64 = (y : Int) / 64 ∧ (x : Int) % 64 < (y : Int) % 64) by omega) with g | ⟨g1, g2⟩
        · exact .inl (by omega)
        · exact .inr ⟨by omega, .inl (by omega)⟩
      · rcases Nat.lt_or_ge y 65536 with d | d
        · rw [len3 c d] at hm; subst hm; exact .inl (by omega)
        · rw [len4 d] at hm; subst hm; exact .inl (by omega)
    · rcases Nat.lt_or_ge x 65536 with a3 | a3
      · rw [len3 a2 a3] at hl; subst hl
        rcases Nat.lt_or_ge y 65536 with d | d
        · rw [len3 (by omega) d] at hm; subst hm
          rcases (show (x : Int) / 4096 < (y : Int) / 4096 ∨ ((x : Int) / 4096 = (y : Int) / 4096 ∧ (x : Int) % 4096 < (y : Int) % 4096) by omega) with g | ⟨g1, g2⟩
          · exact .inl (by omega)
          · refine .inr ⟨by omega, ?_⟩
            rcases (show (x : Int) / 64 % 64 < (y : Int) / 64 % 64 ∨ ((x : Int) / 64 % 64 = (y : Int) / 64 % 64 ∧ (x : Int) % 64 < (y : Int) % 64) by omega) with g | ⟨g1, g2⟩
            · exact .inl (by omega)
            · exact .inr ⟨by omega, .inl (by omega)⟩
        · rw [len4 d] at hm; subst hm; exact .inl (by omega)
      · rw [len4 a3] at hl; rw [len4 (f := y) (by omega)] at hm; subst hl hm
        obtain ⟨x0, x1, x2, x3, ex, lx1, lx2, lx3, qx0, qx1, qx2, qx3⟩ := digits x
        obtain ⟨y0, y1, y2, y3, ey, ly1, ly2, ly3, qy0, qy1, qy2, qy3⟩ := digits y
        rw [qx0, qx1, qx2, qx3, qy0, qy1, qy2, qy3]
        clear qx0 qx1 qx2 qx3 qy0 qy1 qy2 qy3 hy a a2 a3
        subst ex ey
        rcases (show x0 < y0 ∨ (x0 = y0 ∧ (x1 < y1 ∨ (x1 = y1 ∧ (x2 < y2 ∨ (x2 = y2 ∧ x3 < y3))))) by omega) with g | ⟨rfl, g | ⟨rfl, g | ⟨rfl, g⟩⟩⟩
        · exact .inl (by omega)
        · exact .inr ⟨rfl, .inl (by omega)⟩
        · exact .inr ⟨rfl, .inr ⟨rfl, .inl (by omega)⟩⟩
        · exact .inr ⟨rfl, .inr ⟨rfl, .inr ⟨rfl, .inl (by omega)⟩⟩⟩
theorem cuts_cls {fu f t : Nat} {l : List (Nat × Nat)} (h : Cuts fu f t l) : Cls fu f t → ∀ p ∈ l, ∃ k, Cls k p.1 p.2 := by
  induction h with
  | leaf f t h =>
    intro hcl p hp
    obtain rfl := List.mem_singleton.1 hp
    exact ⟨_, hcl⟩
  | node f t i a l m hi hn hc hl hm ihl ihm =>
    intro hcl p hp
    have h1 := cutL_some (six hi hcl.few) hcl.le hc
    rcases List.mem_append.1 hp with k | k
    · exact ihl (hcl.left h1.1 h1.2) p k
    · exact ihm (hcl.right h1.1 h1.2) p k
theorem parts_cls {f t i : Nat} {l : List (Nat × Nat)} (h : Parts f t i l) (hs : t < 55296 ∨ 57344 ≤ f) : i ≤ 4 → ∀ p ∈ l, ∃ k, Cls k p.1 p.2 := by
  induction h with
  | none => intro _ p hp; simp at hp
  | skip i l h hn ih => exact fun hi => ih (by omega)
  | put i l m h hn hc ih =>
    intro hi p hp
    rcases List.mem_append.1 hp with k | k
    · exact ih (by omega) p k
    · exact cuts_cls hc (cls_at (by omega) hs hn) p k
theorem allp_cls {m : List S.R2} {l : List (Nat × Nat)} (h : AllP m l) : (∀ r ∈ m, r.2 ≤ 1114111 ∧ (r.2 < 55296 ∨ 57344 ≤ r.1)) → ∀ p ∈ l, ∃ k, Cls k p.1 p.2 := by
  induction h with
  | none => intro _ p hp; simp at hp
  | more r l k f t h hup hk ih =>
    intro hr p hp
    have h1 := hr ((f : Int), (t : Int)) (by simp)
    dsimp only at h1
    rcases List.mem_append.1 hp with g | g
    · exact ih (fun q hq => hr q (by simp [hq])) p g
    · exact parts_cls hk (by omega) (Nat.le_refl _) p g
end Go.Proofs.YtmokfheckngfiaaDoor

/- Has of a row: does a text fit; conditions: those told. -/
namespace Go.Proofs.YtmokfheckngfiaaDoor
open Go.RowKit
open Go.Lib

/-- Does a text fit into a row, from a place on? -/
def fitFrom (z : List S.R2) (s : ByteArray) (i : Nat) : Prop := ∀ k (h : k < z.length) (h' : k < s.size), k < i → (z[k]).1 ≤ (s[k].toNat : Int) ∧ (s[k].toNat : Int) ≤ (z[k]).2
set_option maxRecDepth 100000 in
set_option maxHeartbeats 4000000 in
theorem rowHas_short (a : Option Addr) (cap : Nat) (z : List S.R2) (s : ByteArray) (w : World) (hn : s.size ≠ z.length) :
    Calls Tryd.prog 19 #[.slice a z.length cap, .string s] w fun e w' => e = .returned (.bool false) ∧ Touch (fun _ => False) w w' := by
  have hnI : ¬ ((s.size : Int) = (z.length : Int)) := by omega
  go_enter Tryd.func19, Tryd.ntmps19
  go_wp2
  go_ret
  exact ⟨rfl, Touch.refl _ _⟩
def FitR (z : List S.R2) (s : ByteArray) (w : World) (e : Ending) (w' : World) : Prop := (∃ c, e = .returned (.bool c) ∧ (c = true ↔ fitFrom z s z.length)) ∧ Touch (fun _ => False) w w'
set_option maxRecDepth 100000 in
set_option maxHeartbeats 4000000 in
theorem rowHas_any (a : Option Addr) (cap : Nat) (z : List S.R2) (s : ByteArray) (w : World) (hl : S.Rg w a z) (hn : s.size = z.length) (hz : z.length ≤ 4) :
    Calls Tryd.prog 19 #[.slice a z.length cap, .string s] w fun e w' => FitR z s w e w' := by
  have HL := hid hl
  clear hl
  have hnI : (s.size : Int) = (z.length : Int) := by omega
  go_enter Tryd.func19, Tryd.ntmps19
  go_wp2_with fail
  go_loopg [15] z.length (fun gk i wr => ∃ k : Nat, k + gk = z.length ∧ i = .int .i64 (k : Nat) ∧ fitFrom z s k ∧ Touch (fun _ => False) w wr)
  case atStart => exact ⟨0, by omega, rfl, fun k _ _ h => by omega, Touch.refl _ _⟩
  case round =>
    obtain ⟨k, hk, rfl, hfit, htc⟩ := hrel
    have TC := hid htc
    have FT := hid hfit
    have R1 := hid (HL.out.new htc)
    clear htc hfit
    by_cases hlt : k < z.length
    · obtain ⟨b, o, ha, hbl, hcell⟩ : ∃ b o, a = some ⟨b, o, none⟩ ∧ b < wr.heap.size ∧ ∀ i (h : i < z.length), wr.cell? ⟨b, o + i * 2, none⟩ = some (.int .i64 (z[i]).1) ∧ wr.cell? ⟨b, o + i * 2 + 1, none⟩ = some (.int .i64 (z[i]).2) := by
        rcases R1.out with h | h
        · rw [h] at hlt; simp at hlt
        · exact h
      subst ha
      obtain ⟨d0, d1⟩ := hcell k hlt
      have hks : k < s.size := by omega
      have hksI : (k : Int) < (s.size : Int) := by omega
      have hkI : (k : Int) < (z.length : Int) := by omega
      obtain ⟨u, hu⟩ : ∃ u : Nat, u = s[k].toNat := ⟨_, rfl⟩
      have hbu : s[k].toNat = u := hu.symm
      have lu : u < 256 := by rw [hu]; exact UInt8.toNat_lt _
      have wu : IntKind.i64.wrap (u : Int) = (u : Int) := by rw [IntKind.wrap_i64]; omega
      have HU := hid hbu
      obtain ⟨r, hr⟩ : ∃ r, r = z[k] := ⟨_, rfl⟩
      have HR := hid hr
      rw [← hr] at d0 d1
      obtain ⟨x, y⟩ := r
      dsimp only at d0 d1
      clear hcell hr R1 hu
      have hXN := hid (show fitFrom z s (k + 1) ↔ x ≤ (u : Int) ∧ (u : Int) ≤ y from by
        constructor
        · intro h
          have := h k hlt hks (by omega)
          rw [← HR.out, HU.out] at this
          exact this
        · intro h j hj hj' hlt2
          rcases Nat.lt_or_ge j k with q | q
          · exact FT.out j hj hj' q
          · obtain rfl : j = k := by omega
            rw [← HR.out, HU.out]
            exact h)
      have hNO := hid (show ¬ fitFrom z s (k + 1) → ¬ fitFrom z s z.length from fun h g => h (fun j hj hj' _ => g j hj hj' hj))
      by_cases h1 : (u : Int) < x
      · have hNF := hid (hNO.out (fun g => by have := hXN.out.1 g; omega))
        go_wp2
        go_ret
        exact ⟨⟨_, rfl, by simp; exact hNF.out⟩, by first | exact (TC.out.alloc _) | exact ((TC.out.alloc _).drewN _)⟩
      · by_cases h2 : (u : Int) ≤ y
        · have h2' : ¬ (y < (u : Int)) := by omega
          go_wp2_with fail
          go_roundg (gk - 1)
          case measure => omega
          case rel => exact ⟨k + 1, by omega, by go_num, hXN.out.2 ⟨by omega, h2⟩, by first | exact (TC.out.alloc _) | exact ((TC.out.alloc _).drewN _)⟩
        · have h2' : y < (u : Int) := by omega
          have hNF := hid (hNO.out (fun g => by have := hXN.out.1 g; omega))
          go_wp2
          go_ret
          exact ⟨⟨_, rfl, by simp; exact hNF.out⟩, by first | exact (TC.out.alloc _) | exact ((TC.out.alloc _).drewN _)⟩
    · obtain rfl : k = z.length := by omega
      have FT2 := hid FT.out
      go_wp2
      go_ret
      exact ⟨⟨_, rfl, by simp; exact FT2.out⟩, TC.out⟩
end Go.Proofs.YtmokfheckngfiaaDoor

/- The document's Scalar and Bytes; conditions: those told. -/
namespace Go.Proofs.YtmokfheckngfiaaDoor
open Go.RowKit
open Go.Lib

set_option maxRecDepth 100000 in
theorem rscalar_any (r : Int) (w : World) : Calls Tryd.prog 17 #[.int .i64 r] w fun e w' => e = .returned (.bool (scB r)) ∧ w = w' := by
  by_cases h0 : 0 ≤ r
  · by_cases h1 : r ≤ 1114111
    · by_cases h2 : r < 55296
      · have HS := hid ((scB_iff r).2 ⟨h0, h1, .inl h2⟩)
        go_enter Tryd.func17, Tryd.ntmps17
        go_wp2
        go_ret
        exact ⟨by rw [HS.out]; rfl, rfl⟩
      · by_cases h3 : 57343 < r
        · have HS := hid ((scB_iff r).2 ⟨h0, h1, .inr (by omega)⟩)
          go_enter Tryd.func17, Tryd.ntmps17
          go_wp2
          go_ret
          exact ⟨by rw [HS.out]; rfl, rfl⟩
        · have HS := hid (show scB r = false from Bool.eq_false_iff.2 (fun e => by rw [scB_iff] at e; omega))
          go_enter Tryd.func17, Tryd.ntmps17
          go_wp2
          go_ret
          exact ⟨by rw [HS.out]; rfl, rfl⟩
    · have HS := hid (show scB r = false from Bool.eq_false_iff.2 (fun e => by rw [scB_iff] at e; omega))
      go_enter Tryd.func17, Tryd.ntmps17
      go_wp2
      go_ret
      exact ⟨by rw [HS.out]; rfl, rfl⟩
  · have HS := hid (show scB r = false from Bool.eq_false_iff.2 (fun e => by rw [scB_iff] at e; omega))
    go_enter Tryd.func17, Tryd.ntmps17
    go_wp2
    go_ret
    exact ⟨by rw [HS.out]; rfl, rfl⟩

theorem conv_litI (w : World) (l : List Int) (n : Nat) (hn : n = l.length) (cs : Array Value) (hcs : cs = (l.map (Value.int .u8)).toArray) : (convert 23 9 (.slice (some ⟨w.heap.size, 0, none⟩) n n)).run Tryd.prog (w.alloc (.cells cs 5)) = .ok (.string (strOfNums l)) (w.alloc (.cells cs 5)) := by
  subst hn hcs
  refine run_convert_bytes_arg _ 23 5 Tryd.underlying23 Tryd.underlying5 w.heap.size 0 l.length l.length l rfl (fun i hi => ?_) 9 Tryd.underlying9
  unfold World.cell?
  rw [block_new]
  simp [hi]
theorem wrap8 (r : Int) (h : 0 ≤ r ∧ r ≤ 255) : IntKind.u8.wrap r = r := by
  have : IntKind.u8.wrap r = r % 256 := by
    simp [IntKind.wrap, IntKind.bits, IntKind.signed]
  omega

set_option maxRecDepth 100000 in
theorem bytes_latin (r : Int) (h : 0 ≤ r ∧ r ≤ 255) (w : World) : Calls Tryd.prog 18 #[.int .i64 r, .int .i64 4] w fun e w' => e = .returned (.string (strOfNums [r])) ∧ Touch (fun _ => False) w w' := by
  have hcv := conv_litI w [r] 1 rfl #[.int .u8 r] rfl
  have hw0 := wrap8 (r) (by omega)
  have hr : 0 ≤ r := by omega
  have HH := hid h
  clear h
  go_enter Tryd.func18, Tryd.ntmps18
  go_wp2
  go_ret
  exact ⟨rfl, (Touch.refl _ w).alloc _⟩
set_option maxRecDepth 100000 in
theorem bytes_one (r : Int) (h : 0 ≤ r ∧ r < 128) (w : World) : Calls Tryd.prog 18 #[.int .i64 r, .int .i64 1] w fun e w' => e = .returned (.string (strOfNums [r])) ∧ Touch (fun _ => False) w w' := by
  have hcv := conv_litI w [r] 1 rfl #[.int .u8 r] rfl
  have hw0 := wrap8 (r) (by omega)
  have hr : 0 ≤ r := by omega
  have l128 : r < 128 := by omega
  have HH := hid h
  clear h
  go_enter Tryd.func18, Tryd.ntmps18
  go_wp2
  go_ret
  exact ⟨rfl, (Touch.refl _ w).alloc _⟩
set_option maxRecDepth 100000 in
theorem bytes_two (r : Int) (h : 128 ≤ r ∧ r < 2048) (w : World) : Calls Tryd.prog 18 #[.int .i64 r, .int .i64 1] w fun e w' => e = .returned (.string (strOfNums [192 + r / 64, 128 + r % 64])) ∧ Touch (fun _ => False) w w' := by
  have hcv := conv_litI w [192 + r / 64, 128 + r % 64] 2 rfl #[.int .u8 (192 + r / 64), .int .u8 (128 + r % 64)] rfl
  have hw0 := wrap8 (192 + r / 64) (by omega)
  have hw1 := wrap8 (128 + r % 64) (by omega)
  have hr : 0 ≤ r := by omega
  have n128 : ¬ (r < 128) := by omega
  have l2048 : r < 2048 := by omega
  have HH := hid h
  clear h
  go_enter Tryd.func18, Tryd.ntmps18
  go_wp2
  go_ret
  exact ⟨rfl, (Touch.refl _ w).alloc _⟩
set_option maxRecDepth 100000 in
theorem bytes_three (r : Int) (h : 2048 ≤ r ∧ r < 65536) (w : World) : Calls Tryd.prog 18 #[.int .i64 r, .int .i64 1] w fun e w' => e = .returned (.string (strOfNums [224 + r / 4096, 128 + r / 64 % 64, 128 + r % 64])) ∧ Touch (fun _ => False) w w' := by
  have hcv := conv_litI w [224 + r / 4096, 128 + r / 64 % 64, 128 + r % 64] 3 rfl #[.int .u8 (224 + r / 4096), .int .u8 (128 + r / 64 % 64), .int .u8 (128 + r % 64)] rfl
  have hw0 := wrap8 (224 + r / 4096) (by omega)
  have hw1 := wrap8 (128 + r / 64 % 64) (by omega)
  have hw2 := wrap8 (128 + r % 64) (by omega)
  have hr : 0 ≤ r := by omega
  have n128 : ¬ (r < 128) := by omega
  have n2048 : ¬ (r < 2048) := by omega
  have l65536 : r < 65536 := by omega
  have HH := hid h
  clear h
  go_enter Tryd.func18, Tryd.ntmps18
  go_wp2
  go_ret
  exact ⟨rfl, (Touch.refl _ w).alloc _⟩
set_option maxRecDepth 100000 in
theorem bytes_four (r : Int) (h : 65536 ≤ r ∧ r ≤ 1114111) (w : World) : Calls Tryd.prog 18 #[.int .i64 r, .int .i64 1] w fun e w' => e = .returned (.string (strOfNums [240 + r / 262144, 128 + r / 4096 % 64, 128 + r / 64 % 64, 128 + r % 64])) ∧ Touch (fun _ => False) w w' := by
  have hcv := conv_litI w [240 + r / 262144, 128 + r / 4096 % 64, 128 + r / 64 % 64, 128 + r % 64] 4 rfl #[.int .u8 (240 + r / 262144), .int .u8 (128 + r / 4096 % 64), .int .u8 (128 + r / 64 % 64), .int .u8 (128 + r % 64)] rfl
  have hw0 := wrap8 (240 + r / 262144) (by omega)
  have hw1 := wrap8 (128 + r / 4096 % 64) (by omega)
  have hw2 := wrap8 (128 + r / 64 % 64) (by omega)
  have hw3 := wrap8 (128 + r % 64) (by omega)
  have hr : 0 ≤ r := by omega
  have n128 : ¬ (r < 128) := by omega
  have n2048 : ¬ (r < 2048) := by omega
  have n65536 : ¬ (r < 65536) := by omega
  have hm : r ≤ 1114111 := h.2
  have HH := hid h
  clear h
  go_enter Tryd.func18, Tryd.ntmps18
  go_wp2
  go_ret
  exact ⟨rfl, (Touch.refl _ w).alloc _⟩
set_option maxRecDepth 100000 in
theorem bytes_little (r : Int) (h : 0 ≤ r ∧ r ≤ 65535) (w : World) : Calls Tryd.prog 18 #[.int .i64 r, .int .i64 2] w fun e w' => e = .returned (.string (strOfNums [r % 256, r / 256])) ∧ Touch (fun _ => False) w w' := by
  have hcv := conv_litI w [r % 256, r / 256] 2 rfl #[.int .u8 (r % 256), .int .u8 (r / 256)] rfl
  have hw0 := wrap8 (r % 256) (by omega)
  have hw1 := wrap8 (r / 256) (by omega)
  have hr : 0 ≤ r := by omega
  have ng : ¬ (65535 < r) := by omega
  have HH := hid h
  clear h
  go_enter Tryd.func18, Tryd.ntmps18
  go_wp2
  go_ret
  exact ⟨rfl, (Touch.refl _ w).alloc _⟩
set_option maxRecDepth 100000 in
theorem bytes_big (r : Int) (h : 0 ≤ r ∧ r ≤ 65535) (w : World) : Calls Tryd.prog 18 #[.int .i64 r, .int .i64 3] w fun e w' => e = .returned (.string (strOfNums [r / 256, r % 256])) ∧ Touch (fun _ => False) w w' := by
  have hcv := conv_litI w [r / 256, r % 256] 2 rfl #[.int .u8 (r / 256), .int .u8 (r % 256)] rfl
  have hw0 := wrap8 (r / 256) (by omega)
  have hw1 := wrap8 (r % 256) (by omega)
  have hr : 0 ≤ r := by omega
  have ng : ¬ (65535 < r) := by omega
  have HH := hid h
  clear h
  go_enter Tryd.func18, Tryd.ntmps18
  go_wp2
  go_ret
  exact ⟨rfl, (Touch.refl _ w).alloc _⟩
theorem str_app (a b : List Int) : strOfNums a ++ strOfNums b = strOfNums (a ++ b) := by
  apply ByteArray.ext
  rw [ByteArray.data_append]
  unfold strOfNums
  simp
theorem bytes_unit (c f : Nat) (hcf : (c = 2 ∧ f = 105) ∨ (c = 3 ∧ f = 106)) (r : Int) (h : 0 ≤ r ∧ r ≤ 65535) (w : World) : Calls Tryd.prog 18 #[.int .i64 r, .int .i64 (c : Nat)] w fun e w' => e = .returned (.string (strOfNums (enU f r))) ∧ Touch (fun _ => False) w w' := by
  rcases hcf with ⟨rfl, rfl⟩ | ⟨rfl, rfl⟩
  · exact bytes_little r h w
  · exact bytes_big r h w
set_option maxRecDepth 100000 in
set_option maxHeartbeats 4000000 in
theorem bytes_pair (c f : Nat) (hcf : (c = 2 ∧ f = 105) ∨ (c = 3 ∧ f = 106)) (r : Int) (h : 65536 ≤ r ∧ r ≤ 1114111) (w : World) : Calls Tryd.prog 18 #[.int .i64 r, .int .i64 (c : Nat)] w fun e w' => e = .returned (.string (strOfNums (enU f (55296 + (r - 65536) / 1024) ++ enU f (56320 + (r - 65536) % 1024)))) ∧ Touch (fun _ => False) w w' := by
  have K1 := hid (fun w => bytes_unit c f hcf (55296 + (r - 65536) / 1024) (by omega) w)
  have K2 := hid (fun w => bytes_unit c f hcf (56320 + (r - 65536) % 1024) (by omega) w)
  have hc1 : ¬ ((c : Int) = 1) := by omega
  have hc4 : ¬ ((c : Int) = 4) := by omega
  have hg : 65535 < r := by omega
  have hr : 0 ≤ r - 65536 := by omega
  have hm : r ≤ 1114111 := h.2
  have HA := hid (str_app (enU f (55296 + (r - 65536) / 1024)) (enU f (56320 + (r - 65536) % 1024)))
  rw [← HA.out]
  have hs : ∀ x, (strOfNums (enU f x)).size = 2 := fun x => by
    unfold enU strOfNums
    split <;> rfl
  have hs1 := hs (55296 + (r - 65536) / 1024)
  have hs2 := hs (56320 + (r - 65536) % 1024)
  clear hs
  generalize strOfNums (enU f (55296 + (r - 65536) / 1024)) = s1 at *
  generalize strOfNums (enU f (56320 + (r - 65536) % 1024)) = s2 at *
  have HH := hid h
  clear h hcf
  go_enter Tryd.func18, Tryd.ntmps18
  go_wp2_with fail
  refine (K1.out w).mono ?_
  rintro e w1 ⟨rfl, t1⟩
  have T1 := hid t1
  clear t1
  go_wp2_with fail
  refine (K2.out w1).mono ?_
  rintro e w2 ⟨rfl, t2⟩
  have T2 := hid (T1.out.trans t2 (fun _ _ e => e))
  clear t2
  go_wp2
  go_ret
  exact ⟨rfl, T2.out⟩
theorem bytes_any (c : Nat) (hc : c = 1 ∨ c = 2 ∨ c = 3 ∨ c = 4) (r : Int) (h : okc c r = true) (w : World) : Calls Tryd.prog 18 #[.int .i64 r, .int .i64 (c : Nat)] w fun e w' => e = .returned (.string (strOfNums (enc c r))) ∧ Touch (fun _ => False) w w' := by
  have hi := okc_in h
  have h16 : ∀ d f : Nat, (d = 2 ∧ f = 105) ∨ (d = 3 ∧ f = 106) → 0 ≤ r ∧ r ≤ 1114111 → Calls Tryd.prog 18 #[.int .i64 r, .int .i64 (d : Nat)] w fun e w' => e = .returned (.string (strOfNums (en16 f r))) ∧ Touch (fun _ => False) w w' := fun d f hdf hr => by
    unfold en16
    by_cases h1 : r < 65536
    · rw [if_pos h1]
      exact bytes_unit d f hdf r (by omega) w
    · rw [if_neg h1]
      exact bytes_pair d f hdf r (by omega) w
  rcases hc with rfl | rfl | rfl | rfl
  · have hi' : 0 ≤ r ∧ r ≤ 1114111 := hi
    show Calls Tryd.prog 18 #[.int .i64 r, .int .i64 1] w fun e w' => e = .returned (.string (strOfNums (en8 r))) ∧ Touch (fun _ => False) w w'
    unfold en8
    by_cases h1 : r < 128
    · rw [if_pos h1]
      exact bytes_one r (by omega) w
    rw [if_neg h1]
    by_cases h2 : r < 2048
    · rw [if_pos h2]
      exact bytes_two r (by omega) w
    rw [if_neg h2]
    by_cases h3 : r < 65536
    · rw [if_pos h3]
      exact bytes_three r (by omega) w
    rw [if_neg h3]
    exact bytes_four r (by omega) w
  · exact h16 2 105 (by omega) hi
  · exact h16 3 106 (by omega) hi
  · exact bytes_latin r hi w
end Go.Proofs.YtmokfheckngfiaaDoor
