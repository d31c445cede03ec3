/- Texts of this proof, one behind the other: what each says stands ahead of it. -/
import Derived.Test.YtmokfheckngfiaaDoorM10
import Derived.Test.YtmokfheckngfiaaDoorM6
import Derived.Deep.RegionLaw
/- What a part's row tells: just the bytes of its scalars; no condition beside those told. -/
namespace Go.Proofs.YtmokfheckngfiaaDoor
open Go.RowKit
open Go.Lib

/-- Do bytes fit into a row? -/
def fitL : List S.R2 → List Int → Prop
  | [], [] => True
  | r :: z, b :: s => (r.1 ≤ b ∧ b ≤ r.2) ∧ fitL z s
  | _, _ => False
theorem cut_none_iff {f t k : Nat} (h : cutL f t k = none) : f / 2 ^ k = t / 2 ^ k ∨ (f % 2 ^ k = 0 ∧ t % 2 ^ k = 2 ^ k - 1) := by
  unfold cutL at h
  split at h
  · exact .inl (by assumption)
  · split at h
    · cases h
    · split at h
      · cases h
      · rename_i h1 h2
        exact .inr ⟨Decidable.not_not.1 h1, Decidable.not_not.1 h2⟩
theorem len1 {f : Nat} (h : f < 128) : en8 (f : Int) = [(f : Int)] := by unfold en8; rw [if_pos (by omega)]
theorem len2 {f : Nat} (h1 : 128 ≤ f) (h : f < 2048) : en8 (f : Int) = [192 + (f : Int) / 64, 128 + (f : Int) % 64] := by unfold en8; rw [if_neg (by omega), if_pos (by omega)]
theorem len3 {f : Nat} (h1 : 2048 ≤ f) (h : f < 65536) : en8 (f : Int) = [224 + (f : Int) / 4096, 128 + (f : Int) / 64 % 64, 128 + (f : Int) % 64] := by unfold en8; rw [if_neg (by omega), if_neg (by omega), if_pos (by omega)]
theorem len4 {f : Nat} (h1 : 65536 ≤ f) : en8 (f : Int) = [240 + (f : Int) / 262144, 128 + (f : Int) / 4096 % 64, 128 + (f : Int) / 64 % 64, 128 + (f : Int) % 64] := by unfold en8; rw [if_neg (by omega), if_neg (by omega), if_neg (by omega)]
theorem leaf_fit0 {f t : Nat} (hcl : Cls 0 f t) (s : List Int) : fitL (zOf (f, t)) s ↔ ∃ x : Nat, f ≤ x ∧ x ≤ t ∧ s = en8 (x : Int) := by
  have hlo := hcl.le
  have hhi := hcl.hi
  have hhi' : t < 128 := hhi
  unfold zOf
  rw [len1 (f := f) (by omega), len1 (f := t) (by omega)]
  constructor
  · intro h
    match s, h with
    | [b], h =>
      have h1 : (f : Int) ≤ b ∧ b ≤ (t : Int) := h.1
      refine ⟨b.toNat, by omega, by omega, ?_⟩
      rw [len1 (by omega), show ((b.toNat : Nat) : Int) = b by omega]
  · rintro ⟨x, h1, h2, hs⟩
    rw [hs, len1 (by omega)]
    exact ⟨⟨by dsimp only; omega, by dsimp only; omega⟩, trivial⟩
theorem leaf_fit1 {f t : Nat} (hcl : Cls 1 f t) (h6 : f / 64 = t / 64 ∨ (f % 64 = 0 ∧ t % 64 = 63)) (s : List Int) : fitL (zOf (f, t)) s ↔ ∃ x : Nat, f ≤ x ∧ x ≤ t ∧ s = en8 (x : Int) := by
  have hle := hcl.le
  have hlo := hcl.lo
  have hhi := hcl.hi
  have hlo' : 128 ≤ f := hlo
  have hhi' : t < 2048 := hhi
  unfold zOf
  rw [len2 (f := f) (by omega) (by omega), len2 (f := t) (by omega) (by omega)]
  constructor
  · intro h
    match s, h with
    | [b, c], h =>
      have h1 : 192 + (f : Int) / 64 ≤ b ∧ b ≤ 192 + (t : Int) / 64 := h.1
      have h2 : 128 + (f : Int) % 64 ≤ c ∧ c ≤ 128 + (t : Int) % 64 := h.2.1
      obtain ⟨x, hx⟩ : ∃ x : Nat, (x : Int) = (b - 192) * 64 + (c - 128) := ⟨((b - 192) * 64 + (c - 128)).toNat, by omega⟩
      have hxb : (x : Int) / 64 = b - 192 ∧ (x : Int) % 64 = c - 128 := by omega
      have hr : f ≤ x ∧ x ≤ t := by omega
      refine ⟨x, hr.1, hr.2, ?_⟩
      rw [len2 (by omega) (by omega), hxb.1, hxb.2, show (192 : Int) + (b - 192) = b by omega, show (128 : Int) + (c - 128) = c by omega]
  · rintro ⟨x, h1, h2, hs⟩
    rw [hs, len2 (by omega) (by omega)]
    exact ⟨⟨by dsimp only; omega, by dsimp only; omega⟩, ⟨by dsimp only; omega, by dsimp only; omega⟩, trivial⟩
theorem leaf_fit2 {f t : Nat} (hcl : Cls 2 f t) (h6 : f / 64 = t / 64 ∨ (f % 64 = 0 ∧ t % 64 = 63)) (h12 : f / 4096 = t / 4096 ∨ (f % 4096 = 0 ∧ t % 4096 = 4095)) (s : List Int) : fitL (zOf (f, t)) s ↔ ∃ x : Nat, f ≤ x ∧ x ≤ t ∧ s = en8 (x : Int) := by
  have hle := hcl.le
  have hlo := hcl.lo
  have hhi := hcl.hi
  have hlo' : 2048 ≤ f := hlo
  have hhi' : t < 65536 := hhi
  unfold zOf
  rw [len3 (f := f) (by omega) (by omega), len3 (f := t) (by omega) (by omega)]
  constructor
  · intro h
    match s, h with
    | [b, c, d], h =>
      have h1 : 224 + (f : Int) / 4096 ≤ b ∧ b ≤ 224 + (t : Int) / 4096 := h.1
      have h2 : 128 + (f : Int) / 64 % 64 ≤ c ∧ c ≤ 128 + (t : Int) / 64 % 64 := h.2.1
      have h3 : 128 + (f : Int) % 64 ≤ d ∧ d ≤ 128 + (t : Int) % 64 := h.2.2.1
      obtain ⟨x, hx⟩ : ∃ x : Nat, (x : Int) = (b - 224) * 4096 + (c - 128) * 64 + (d - 128) := ⟨((b - 224) * 4096 + (c - 128) * 64 + (d - 128)).toNat, by omega⟩
      have hxb : (x : Int) / 4096 = b - 224 ∧ (x : Int) / 64 % 64 = c - 128 ∧ (x : Int) % 64 = d - 128 := by omega
      have hr : f ≤ x ∧ x ≤ t := by omega
      refine ⟨x, hr.1, hr.2, ?_⟩
      rw [len3 (by omega) (by omega), hxb.1, hxb.2.1, hxb.2.2, show (224 : Int) + (b - 224) = b by omega, show (128 : Int) + (c - 128) = c by omega, show (128 : Int) + (d - 128) = d by omega]
  · rintro ⟨x, h1, h2, hs⟩
    rw [hs, len3 (by omega) (by omega)]
    exact ⟨⟨by dsimp only; omega, by dsimp only; omega⟩, ⟨by dsimp only; omega, by dsimp only; omega⟩, ⟨by dsimp only; omega, by dsimp only; omega⟩, trivial⟩
theorem digits (f : Nat) : ∃ a b c d : Nat, f = 262144 * a + 4096 * b + 64 * c + d ∧ b < 64 ∧ c < 64 ∧ d < 64 ∧ (f : Int) / 262144 = (a : Int) ∧ (f : Int) / 4096 % 64 = (b : Int) ∧ (f : Int) / 64 % 64 = (c : Int) ∧ (f : Int) % 64 = (d : Int) :=
  ⟨f / 262144, f / 4096 % 64, f / 64 % 64, f % 64, by omega, by omega, by omega, by omega, by omega, by omega, by omega, by omega⟩
theorem between {f0 f1 f2 f3 t0 t1 t2 t3 x0 x1 x2 x3 : Nat} (lf1 : f1 < 64) (lf2 : f2 < 64) (lf3 : f3 < 64) (lt1 : t1 < 64) (lt2 : t2 < 64) (lt3 : t3 < 64) (lx1 : x1 < 64) (lx2 : x2 < 64) (lx3 : x3 < 64)
    (h1 : 262144 * f0 + 4096 * f1 + 64 * f2 + f3 ≤ 262144 * x0 + 4096 * x1 + 64 * x2 + x3) (h2 : 262144 * x0 + 4096 * x1 + 64 * x2 + x3 ≤ 262144 * t0 + 4096 * t1 + 64 * t2 + t3)
    (h6 : (f0 = t0 ∧ f1 = t1 ∧ f2 = t2) ∨ (f3 = 0 ∧ t3 = 63)) (h12 : (f0 = t0 ∧ f1 = t1) ∨ (f2 = 0 ∧ f3 = 0 ∧ t2 = 63 ∧ t3 = 63)) (h18 : f0 = t0 ∨ (f1 = 0 ∧ f2 = 0 ∧ f3 = 0 ∧ t1 = 63 ∧ t2 = 63 ∧ t3 = 63)) :
    (f0 ≤ x0 ∧ x0 ≤ t0) ∧ (f1 ≤ x1 ∧ x1 ≤ t1) ∧ (f2 ≤ x2 ∧ x2 ≤ t2) ∧ (f3 ≤ x3 ∧ x3 ≤ t3) := by
  have a0 : f0 ≤ x0 ∧ x0 ≤ t0 := by clear h6 h12 h18; omega
  rcases h18 with e | ⟨e1, e2, e3, e4, e5, e6⟩
  · subst e
    obtain rfl : x0 = f0 := by omega
    have a1 : f1 ≤ x1 ∧ x1 ≤ t1 := by clear h6 h12; omega
    rcases h12 with ⟨_, e⟩ | ⟨e2, e3, e5, e6⟩
    · subst e
      obtain rfl : x1 = f1 := by omega
      have a2 : f2 ≤ x2 ∧ x2 ≤ t2 := by clear h6; omega
      rcases h6 with ⟨_, _, e⟩ | ⟨e3, e6⟩
      · subst e
        obtain rfl : x2 = f2 := by omega
        exact ⟨a0, a1, a2, by omega⟩
      · exact ⟨a0, a1, a2, by omega⟩
    · exact ⟨a0, a1, by omega, by omega⟩
  · exact ⟨a0, by omega, by omega, by omega⟩
theorem leaf_fit3 {f t : Nat} (hcl : Cls 3 f t) (h6 : f / 64 = t / 64 ∨ (f % 64 = 0 ∧ t % 64 = 63)) (h12 : f / 4096 = t / 4096 ∨ (f % 4096 = 0 ∧ t % 4096 = 4095)) (h18 : f / 262144 = t / 262144 ∨ (f % 262144 = 0 ∧ t % 262144 = 262143)) (s : List Int) : fitL (zOf (f, t)) s ↔ ∃ x : Nat, f ≤ x ∧ x ≤ t ∧ s = en8 (x : Int) := by
  have hle := hcl.le
  have hlo' : 65536 ≤ f := hcl.lo
  unfold zOf
  rw [len4 (f := f) (by omega), len4 (f := t) (by omega)]
  clear hcl
  obtain ⟨f0, f1, f2, f3, ef, lf1, lf2, lf3, qf0, qf1, qf2, qf3⟩ := digits f
  obtain ⟨t0, t1, t2, t3, et, lt1, lt2, lt3, qt0, qt1, qt2, qt3⟩ := digits t
  have g6 : (f0 = t0 ∧ f1 = t1 ∧ f2 = t2) ∨ (f3 = 0 ∧ t3 = 63) := by
    clear qf0 qf1 qf2 qf3 qt0 qt1 qt2 qt3 h12 h18
    rcases h6 with h | h
    · exact .inl (by omega)
    · exact .inr (by omega)
  have g12 : (f0 = t0 ∧ f1 = t1) ∨ (f2 = 0 ∧ f3 = 0 ∧ t2 = 63 ∧ t3 = 63) := by
    clear qf0 qf1 qf2 qf3 qt0 qt1 qt2 qt3 h6 h18 g6
    rcases h12 with h | h
    · exact .inl (by omega)
    · exact .inr (by omega)
  have g18 : f0 = t0 ∨ (f1 = 0 ∧ f2 = 0 ∧ f3 = 0 ∧ t1 = 63 ∧ t2 = 63 ∧ t3 = 63) := by
    clear qf0 qf1 qf2 qf3 qt0 qt1 qt2 qt3 h6 h12 g6 g12
    rcases h18 with h | h
    · exact .inl (by omega)
    · exact .inr (by omega)
  clear h6 h12 h18
  rw [qf0, qf1, qf2, qf3, qt0, qt1, qt2, qt3]
  clear qf0 qf1 qf2 qf3 qt0 qt1 qt2 qt3
  constructor
  · intro h
    match s, h with
    | [b, c, d, e], h =>
      have h1 : 240 + (f0 : Int) ≤ b ∧ b ≤ 240 + (t0 : Int) := h.1
      have h2 : 128 + (f1 : Int) ≤ c ∧ c ≤ 128 + (t1 : Int) := h.2.1
      have h3 : 128 + (f2 : Int) ≤ d ∧ d ≤ 128 + (t2 : Int) := h.2.2.1
      have h4 : 128 + (f3 : Int) ≤ e ∧ e ≤ 128 + (t3 : Int) := h.2.2.2.1
      clear h g6 g12 g18
      obtain ⟨x0, e0⟩ : ∃ x0 : Nat, (x0 : Int) = b - 240 := ⟨(b - 240).toNat, by omega⟩
      obtain ⟨x1, e1⟩ : ∃ x1 : Nat, (x1 : Int) = c - 128 := ⟨(c - 128).toNat, by omega⟩
      obtain ⟨x2, e2⟩ : ∃ x2 : Nat, (x2 : Int) = d - 128 := ⟨(d - 128).toNat, by omega⟩
      obtain ⟨x3, e3⟩ : ∃ x3 : Nat, (x3 : Int) = e - 128 := ⟨(e - 128).toNat, by omega⟩
      obtain ⟨x, hx⟩ : ∃ x : Nat, x = 262144 * x0 + 4096 * x1 + 64 * x2 + x3 := ⟨_, rfl⟩
      have hr1 : f ≤ x := by omega
      have hr2 : x ≤ t := by omega
      have l1 : x1 < 64 := by omega
      have l2 : x2 < 64 := by omega
      have l3 : x3 < 64 := by omega
      clear h1 h2 h3 h4 ef et lf1 lf2 lf3 lt1 lt2 lt3
      refine ⟨x, hr1, hr2, ?_⟩
      rw [len4 (by omega)]
      clear hr1 hr2 hle hlo'
      rw [show (x : Int) / 262144 = (x0 : Int) by omega, show (x : Int) / 4096 % 64 = (x1 : Int) by omega, show (x : Int) / 64 % 64 = (x2 : Int) by omega, show (x : Int) % 64 = (x3 : Int) by omega, e0, e1, e2, e3, show (240 : Int) + (b - 240) = b by omega, show (128 : Int) + (c - 128) = c by omega, show (128 : Int) + (d - 128) = d by omega, show (128 : Int) + (e - 128) = e by omega]
  · rintro ⟨x, h1, h2, hs⟩
    rw [hs, len4 (by omega)]
    obtain ⟨x0, x1, x2, x3, ex, lx1, lx2, lx3, qx0, qx1, qx2, qx3⟩ := digits x
    rw [qx0, qx1, qx2, qx3]
    have k := between (f0 := f0) (t0 := t0) (x0 := x0) lf1 lf2 lf3 lt1 lt2 lt3 lx1 lx2 lx3 (by rw [← ef, ← ex]; exact h1) (by rw [← ex, ← et]; exact h2) g6 g12 g18
    clear g6 g12 g18 qx0 qx1 qx2 qx3
    exact ⟨⟨by dsimp only; omega, by dsimp only; omega⟩, ⟨by dsimp only; omega, by dsimp only; omega⟩, ⟨by dsimp only; omega, by dsimp only; omega⟩, ⟨by dsimp only; omega, by dsimp only; omega⟩, trivial⟩
/-- What the row of a part that isn't cut further tells. -/
theorem leaf_fit {fu f t : Nat} (hcl : Cls fu f t) (hno : ∀ i, i < fu → cutL f t ((i + 1) * 6) = none) (s : List Int) : fitL (zOf (f, t)) s ↔ ∃ x : Nat, f ≤ x ∧ x ≤ t ∧ s = en8 (x : Int) := by
  have hfu := hcl.few
  rcases (show fu = 0 ∨ fu = 1 ∨ fu = 2 ∨ fu = 3 by omega) with rfl | rfl | rfl | rfl
  · exact leaf_fit0 hcl s
  · exact leaf_fit1 hcl (cut_none_iff (hno 0 (by omega))) s
  · exact leaf_fit2 hcl (cut_none_iff (hno 0 (by omega))) (cut_none_iff (hno 1 (by omega))) s
  · exact leaf_fit3 hcl (cut_none_iff (hno 0 (by omega))) (cut_none_iff (hno 1 (by omega))) (cut_none_iff (hno 2 (by omega))) s
end Go.Proofs.YtmokfheckngfiaaDoor

/- How many ranges a set has at the most; no condition. -/
namespace Go.Proofs.YtmokfheckngfiaaDoor.S

theorem canon_len_at : ∀ (s : List R2) (q : Int), (∀ r ∈ s, inB r) → s.Pairwise (fun a b => a.2 + 1 < b.1) → (∀ r ∈ s, q ≤ r.1) → 2 * (s.length : Int) ≤ 1114113 - q ∨ s = []
  | [], _, _, _, _ => .inr rfl
  | r :: s, q, hin, hup, hq => by
    have hp := List.pairwise_cons.1 hup
    have hr := hin r (by simp)
    have h1 := hq r (by simp)
    unfold inB at hr
    rcases canon_len_at s (r.2 + 2) (fun a ha => hin a (by simp [ha])) hp.2 (fun a ha => by have := hp.1 a ha; omega) with h | h
    · left
      simp only [List.length_cons]
      omega
    · left
      subst h
      simp
      omega
theorem canon_len {s : List R2} (h : Canon s) : s.length ≤ 557057 := by
  rcases canon_len_at s 0 h.in_ h.up (fun r hr => (h.in_ r hr).1) with k | k
  · omega
  · subst k
    simp
end Go.Proofs.YtmokfheckngfiaaDoor.S

/- Plain facts: what isn't in a set, and what is in both; no condition beside those told. -/
namespace Go.Proofs.YtmokfheckngfiaaDoor.S

def nstep (p : List R2 × Int) (r : R2) : List R2 × Int := (if p.2 < r.1 then p.1 ++ [(p.2, r.1 - 1)] else p.1, r.2 + 1)
def notAcc (s : List R2) : List R2 × Int := s.foldl nstep ([], 0)
def notL (s : List R2) : List R2 := if (notAcc s).2 ≤ 1114111 then (notAcc s).1 ++ [((notAcc s).2, 1114111)] else (notAcc s).1

theorem canon_snoc {o : List R2} {r : R2} (h : Canon o) (hr : inB r) (hq : ∀ q ∈ o, q.2 + 1 < r.1) : Canon (o ++ [r]) := by
  refine ⟨fun q hq' => ?_, ?_⟩
  · rcases List.mem_append.1 hq' with k | k
    · exact h.in_ q k
    · simp only [List.mem_singleton] at k
      rw [k]
      exact hr
  · rw [List.pairwise_append]
    refine ⟨h.up, List.pairwise_singleton _ _, fun a ha b hb => ?_⟩
    simp only [List.mem_singleton] at hb
    rw [hb]
    exact hq a ha

theorem not_good : ∀ (m o : List R2) (n : Int), Canon o → (∀ q ∈ o, q.2 + 1 < n) → 0 ≤ n → n ≤ 1114112 → (∀ r ∈ m, inB r) → m.Pairwise (fun a b => a.2 + 1 < b.1) → (∀ r ∈ m, n ≤ r.1) →
    Canon (m.foldl nstep (o, n)).1 ∧ (∀ q ∈ (m.foldl nstep (o, n)).1, q.2 + 1 < (m.foldl nstep (o, n)).2) ∧ n ≤ (m.foldl nstep (o, n)).2 ∧ (m.foldl nstep (o, n)).2 ≤ 1114112 ∧ (∀ r ∈ m, r.2 < (m.foldl nstep (o, n)).2) ∧
      ∀ x, In x (m.foldl nstep (o, n)).1 ↔ In x o ∨ (n ≤ x ∧ x < (m.foldl nstep (o, n)).2 ∧ ¬ In x m)
  | [], o, n, hc, hq, h0, h1, _, _, _ => ⟨hc, hq, Int.le_refl _, h1, by simp, fun x => by
      simp only [List.foldl_nil]
      constructor
      · exact .inl
      · rintro (h | h)
        · exact h
        · omega⟩
  | (a, b) :: m, o, n, hc, hq, h0, h1, hin, hup, hle => by
    have hp := List.pairwise_cons.1 hup
    have hr := hin (a, b) (by simp)
    have hn := hle (a, b) (by simp)
    unfold inB at hr
    dsimp only at hr hn hp
    have key : Canon (nstep (o, n) (a, b)).1 ∧ (∀ q ∈ (nstep (o, n) (a, b)).1, q.2 + 1 < b + 1) ∧ ∀ x, In x (nstep (o, n) (a, b)).1 ↔ In x o ∨ (n ≤ x ∧ x < a) := by
      unfold nstep
      dsimp only
      by_cases c : n < a
      · rw [if_pos c]
        refine ⟨canon_snoc hc (by unfold inB; dsimp only; omega) hq, fun q hq' => ?_, fun x => ?_⟩
        · rcases List.mem_append.1 hq' with k | k
          · have := hq q k
            omega
          · simp only [List.mem_singleton] at k
            rw [k]
            dsimp only
            omega
        · rw [in_append, in_one]
          dsimp only
          constructor
          · rintro (h | h)
            · exact .inl h
            · exact .inr (by omega)
          · rintro (h | h)
            · exact .inl h
            · exact .inr (by omega)
      · rw [if_neg c]
        refine ⟨hc, fun q hq' => by have := hq q hq'; omega, fun x => ?_⟩
        constructor
        · exact .inl
        · rintro (h | h)
          · exact h
          · omega
    obtain ⟨k1, k2, k3⟩ := key
    have ih := not_good m (nstep (o, n) (a, b)).1 (b + 1) k1 k2 (by omega) (by omega) (fun r hr' => hin r (by simp [hr'])) hp.2 (fun r hr' => by have := hp.1 r hr'; omega)
    have e : ((a, b) :: m).foldl nstep (o, n) = m.foldl nstep ((nstep (o, n) (a, b)).1, b + 1) := rfl
    rw [e]
    obtain ⟨i1, i2, i3, i4, i5, i6⟩ := ih
    refine ⟨i1, i2, by omega, i4, fun r hr' => ?_, fun x => ?_⟩
    · rcases List.mem_cons.1 hr' with k | k
      · rw [k]
        dsimp only
        omega
      · exact i5 r k
    · rw [i6 x, k3 x, in_cons]
      dsimp only
      have above : In x m → b + 1 < x := fun ⟨r, hr', h1', _⟩ => by have := hp.1 r hr'; omega
      constructor
      · rintro ((h | h) | h)
        · exact .inl h
        · refine .inr ⟨h.1, by omega, ?_⟩
          rintro (k | k)
          · omega
          · have := above k; omega
        · refine .inr ⟨by omega, h.2.1, ?_⟩
          rintro (k | k)
          · omega
          · exact h.2.2 k
      · rintro (h | h)
        · exact .inl (.inl h)
        · rcases Int.lt_or_le x a with k | k
          · exact .inl (.inr ⟨h.1, k⟩)
          · rcases Int.lt_or_le b x with q | q
            · exact .inr ⟨by omega, h.2.1, fun hm => h.2.2 (.inr hm)⟩
            · exact absurd (.inl ⟨k, q⟩) h.2.2

theorem notL_good {s : List R2} (hs : Canon s) : Canon (notL s) ∧ ∀ x, In x (notL s) ↔ (0 ≤ x ∧ x ≤ 1114111) ∧ ¬ In x s := by
  obtain ⟨h1, h2, h3, h4, h5, h6⟩ := not_good s [] 0 ⟨by simp, .nil⟩ (by simp) (by omega) (by omega) hs.in_ hs.up (fun r hr => (hs.in_ r hr).1)
  have up : ∀ x, In x s → x < (notAcc s).2 ∧ 0 ≤ x := fun x ⟨r, hr, k1, k2⟩ => by
    have := h5 r hr
    have := (hs.in_ r hr).1
    unfold notAcc
    omega
  have h6' : ∀ x, In x (notAcc s).1 ↔ (0 ≤ x ∧ x < (notAcc s).2 ∧ ¬ In x s) := fun x => by
    have := h6 x
    simp only [in_nil, false_or] at this
    exact this
  have h4' : (notAcc s).2 ≤ 1114112 := h4
  have h3' : 0 ≤ (notAcc s).2 := h3
  unfold notL
  by_cases c : (notAcc s).2 ≤ 1114111
  · rw [if_pos c]
    refine ⟨canon_snoc h1 (by unfold inB; dsimp only; omega) h2, fun x => ?_⟩
    rw [in_append, in_one, h6' x]
    dsimp only
    constructor
    · rintro (h | h)
      · exact ⟨by omega, h.2.2⟩
      · exact ⟨by omega, fun k => by have := up x k; omega⟩
    · rintro ⟨h, k⟩
      rcases Int.lt_or_le x (notAcc s).2 with q | q
      · exact .inl ⟨h.1, q, k⟩
      · exact .inr (by omega)
  · rw [if_neg c]
    refine ⟨h1, fun x => ?_⟩
    rw [h6' x]
    constructor
    · intro h
      exact ⟨by omega, h.2.2⟩
    · intro h
      exact ⟨by omega, by omega, h.2⟩

/-- What is in both. -/
def andL : List R2 → List R2 → List R2
  | [], _ => []
  | _ :: _, [] => []
  | a :: s, b :: t => (if max a.1 b.1 ≤ min a.2 b.2 then [(max a.1 b.1, min a.2 b.2)] else []) ++ (if a.2 < b.2 then andL s (b :: t) else andL (a :: s) t)
termination_by s t => s.length + t.length

theorem Canon.tail {a : R2} {s : List R2} (h : Canon (a :: s)) : Canon s := ⟨fun r hr => h.in_ r (by simp [hr]), (List.pairwise_cons.1 h.up).2⟩
theorem Canon.above {a : R2} {s : List R2} (h : Canon (a :: s)) {x : Int} (hx : In x s) : a.2 + 1 < x := by
  obtain ⟨r, hr, h1, _⟩ := hx
  have := (List.pairwise_cons.1 h.up).1 r hr
  omega

theorem andL_good : ∀ (s t : List R2), Canon s → Canon t → Canon (andL s t) ∧ ∀ x, In x (andL s t) ↔ In x s ∧ In x t
  | [], t, _, _ => by
    rw [andL]
    exact ⟨⟨by simp, .nil⟩, fun x => ⟨fun h => absurd h (in_nil x), fun h => absurd h.1 (in_nil x)⟩⟩
  | _ :: _, [], _, _ => by
    rw [andL]
    exact ⟨⟨by simp, .nil⟩, fun x => ⟨fun h => absurd h (in_nil x), fun h => absurd h.2 (in_nil x)⟩⟩
  | (a, b) :: s, (c, d) :: t, hs, ht => by
    have hi := hs.in_ (a, b) (by simp)
    have hj := ht.in_ (c, d) (by simp)
    unfold inB at hi hj
    dsimp only at hi hj
    have aS : ∀ x, In x s → b + 1 < x := fun x h => hs.above h
    have aT : ∀ x, In x t → d + 1 < x := fun x h => ht.above h
    rw [andL]
    dsimp only
    obtain ⟨R, hR, g1, g2⟩ : ∃ R, R = (if b < d then andL s ((c, d) :: t) else andL ((a, b) :: s) t) ∧ Canon R ∧ ∀ x, In x R ↔ (In x ((a, b) :: s) ∧ In x ((c, d) :: t)) ∧ min b d < x := by
      by_cases k : b < d
      · obtain ⟨h1, h2⟩ := andL_good s ((c, d) :: t) hs.tail ht
        refine ⟨_, rfl, by rw [if_pos k]; exact h1, fun x => ?_⟩
        rw [if_pos k, h2 x, in_cons, in_cons]
        dsimp only
        constructor
        · rintro ⟨p, q⟩
          have := aS x p
          exact ⟨⟨.inr p, q⟩, by omega⟩
        · rintro ⟨⟨p, q⟩, r⟩
          rcases p with p | p
          · omega
          · exact ⟨p, q⟩
      · obtain ⟨h1, h2⟩ := andL_good ((a, b) :: s) t hs ht.tail
        refine ⟨_, rfl, by rw [if_neg k]; exact h1, fun x => ?_⟩
        rw [if_neg k, h2 x, in_cons, in_cons]
        dsimp only
        constructor
        · rintro ⟨p, q⟩
          have := aT x q
          exact ⟨⟨p, .inr q⟩, by omega⟩
        · rintro ⟨⟨p, q⟩, r⟩
          rcases q with q | q
          · omega
          · exact ⟨p, q⟩
    rw [← hR]
    have low : ∀ x, In x R → min b d + 1 < x := fun x h => by
      obtain ⟨⟨p, q⟩, r⟩ := (g2 x).1 h
      rcases in_cons.1 p with p | p <;> rcases in_cons.1 q with q | q
      · dsimp only at p q; omega
      · have := aT x q; dsimp only at p; omega
      · have := aS x p; dsimp only at q; omega
      · have := aS x p; have := aT x q; omega
    have iff : ∀ x, (In x ((a, b) :: s) ∧ In x ((c, d) :: t)) ↔ (max a c ≤ x ∧ x ≤ min b d) ∨ In x R := fun x => by
      rw [g2 x]
      constructor
      · rintro ⟨p, q⟩
        rcases Int.lt_or_le (min b d) x with k | k
        · exact .inr ⟨⟨p, q⟩, k⟩
        · left
          rcases in_cons.1 p with p' | p'
          · rcases in_cons.1 q with q' | q'
            · dsimp only at p' q'; omega
            · have := aT x q'; dsimp only at p'; omega
          · have := aS x p'
            rcases in_cons.1 q with q' | q'
            · dsimp only at q'; omega
            · have := aT x q'; omega
      · rintro (h | h)
        · exact ⟨in_cons.2 (.inl (by dsimp only; omega)), in_cons.2 (.inl (by dsimp only; omega))⟩
        · exact h.1
    by_cases e : max a c ≤ min b d
    · rw [if_pos e]
      refine ⟨⟨fun r hr => ?_, ?_⟩, fun x => ?_⟩
      · rcases List.mem_append.1 hr with k | k
        · simp only [List.mem_singleton] at k
          rw [k]
          unfold inB
          dsimp only
          omega
        · exact g1.in_ r k
      · rw [List.singleton_append, List.pairwise_cons]
        refine ⟨fun r hr => ?_, g1.up⟩
        have hri := g1.in_ r hr
        unfold inB at hri
        exact low r.1 ⟨r, hr, Int.le_refl _, hri.2.1⟩
      · rw [in_append, in_one, iff x]
    · rw [if_neg e, List.nil_append]
      refine ⟨g1, fun x => ?_⟩
      rw [iff x]
      constructor
      · exact .inr
      · rintro (h | h)
        · omega
        · exact h
termination_by s t => s.length + t.length
end Go.Proofs.YtmokfheckngfiaaDoor.S

/- speaks of the laws on sets, and an append as a step; no condition. -/
namespace Go.Proofs.YtmokfheckngfiaaDoor.S
open Go.RowKit

theorem step_append_own {P : Program} (w : World) {ops : Array Oper} {o : Oper} {a : Act} {K : Act → World → Prop} {Q : Exit → Act → World → Prop} {E : Prop} (hgd : o.guard = none) (s x : Operand) (t : TypeId)
    (ho : o.op = .call { callee := .builtin .append, args := #[s, x], argTypes := #[t, t] })
    (base : Nat) (e : TypeId) (i : TypeInfo) (z : Value) (size bytes : Nat) (ht : P.underlying t = some (.slice e)) (hi : P.info? e = some i) (hz : i.zero = some z)
    (hsize : i.size = size) (hby : i.bytes = bytes) (hzs : z.cells.size = size) (hsz : 0 < size)
    (v : Value) (n : Nat) (xs : List Value) (hs : a.eval s = v) (hown : w.ownsRow base e size v n xs)
    (ad : Addr) (m c : Nat) (news : List Value) (hx : a.eval x = .slice (some ad) m c) (hl : news.length = m * size) (hnews : ∀ j u, news[j]? = some u → w.cell? (ad.add j) = some u) (h1 : ∀ u ∈ news, u.oneCell' = true)
    (h63 : n + m ≤ maxLen) (hbytes : (n + m) * bytes ≤ 140737488355328) (hbase : base ≤ w.heap.size) (H : Nat) (hH : w.heap.size = H)
    (h : ∀ v' w', w'.ownsRow base e size v' (n + m) (xs ++ news) → w.grownBy w' v.ownBlock → (v'.ownBlock = v.ownBlock ∨ v'.ownBlock = some H) → K (a.put o.dst v') w') :
    if Region.wanted o (yielded ops a.tmps) = true then Oper.wp P o a w K Q else E := by
  have hw : Region.wanted o (yielded ops a.tmps) = true := by simp [Region.wanted, hgd]
  rw [if_pos hw]
  obtain ⟨v', w', hr, h2, h3, h4, h5⟩ := run_append_own_at (P := P) w base t o.type e i z size bytes ht hi hz hsize hby hzs hsz v n xs hown ad m c news hl hnews h1 h63 hbytes hbase
  unfold Oper.wp execOp
  simp only [ho, resolve, invoke, builtin, Sem.run_bind, Sem.run_pure, Result.andThen_ok, List.map_toArray, List.map_cons, List.map_nil, hs, hx, hr]
  exact h v' w' h2 h3 (by rw [← hH]; exact h5)

theorem nine : ∀ x, In x [((1 : Int), (9 : Int))] ↔ (0 ≤ x ∧ x ≤ 1114111) ∧ In x [((5 : Int), (9 : Int)), (1, 2), (3, 4)] := by
  intro x
  simp only [in_cons, in_nil, or_false]
  omega
theorem nine_canon : Canon [((1 : Int), (9 : Int))] := ⟨by simp [inB], List.pairwise_singleton _ _⟩

end Go.Proofs.YtmokfheckngfiaaDoor.S
