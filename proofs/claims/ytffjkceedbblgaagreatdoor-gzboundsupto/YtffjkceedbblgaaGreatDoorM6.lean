/- Texts of this proof, one behind the other: what each says stands ahead of it. -/
import Derived.Test.YtffjkceedbblgaaGreatDoorM5
import Derived.Test.YtffjkceedbblgaaGreatDoorM2
/- What unpacking comes to, as plain functions and relations: error, place in bits, bytes; each is told by just one answer. No condition beside those told. -/
namespace Go.Proofs.YtffjkceedbblgaaGreatDoor
namespace Inf

def fullB (f path : Nat → Nat) (s : ByteArray) (k i : Nat) : Bool := decide (f i ≠ 0) && (decide (k + f i ≤ 8 * s.size) && decide (Bt.rval s k (f i) = path i % 2 ^ f i))
def begsB (f path : Nat → Nat) (s : ByteArray) (k i : Nat) : Bool := decide (f i ≠ 0) && (decide (8 * s.size < k + f i) && decide (Bt.rval s k (8 * s.size - k) = path i % 2 ^ (8 * s.size - k)))
theorem fullB_iff {f path : Nat → Nat} {s : ByteArray} {k i : Nat} : fullB f path s k i = true ↔ Full f path s k i := by simp [fullB, Full, Like]
theorem begsB_iff {f path : Nat → Nat} {s : ByteArray} {k i : Nat} : begsB f path s k i = true ↔ Begs f path s k i := by simp [begsB, Begs, Like]

/-- The next symbol: error, symbol, where it ends. -/
def nx (f : Nat → Nat) (len : Nat) (s : ByteArray) (t : Nat) : Nat × Nat × Nat :=
  match (List.range len).find? (fullB f (pathOf f len) s t) with
  | some i => (0, i, t + f i)
  | none => if (List.range len).any (begsB f (pathOf f len) s t) then (3, 0, t) else (5, 0, t)

/-- Lengths that make a table. -/
structure Tbl (f : Nat → Nat) (len : Nat) : Prop where
  le : ∀ i, f i ≤ 15
  ok : errOf f len = 0
  few : len ≤ 1024

theorem nx_find {f : Nat → Nat} {len : Nat} {s : ByteArray} {t i : Nat} (h : (List.range len).find? (fullB f (pathOf f len) s t) = some i) : i < len ∧ Full f (pathOf f len) s t i := by
  have h1 := List.find?_some h
  have h2 := List.mem_of_find?_eq_some h
  exact ⟨by simpa using h2, fullB_iff.1 h1⟩
theorem nx_none {f : Nat → Nat} {len : Nat} {s : ByteArray} {t : Nat} (h : (List.range len).find? (fullB f (pathOf f len) s t) = none) : ∀ i, i < len → ¬ Full f (pathOf f len) s t i := by
  intro i hi k
  have := List.find?_eq_none.1 h i (by simpa using hi)
  exact this (fullB_iff.2 k)

theorem nx_sym {f : Nat → Nat} {len : Nat} (hT : Tbl f len) {s : ByteArray} {t i : Nat} (hi : i < len) (h : Full f (pathOf f len) s t i) : nx f len s t = (0, i, t + f i) := by
  have hs : Tb.Sym (Laid f len) f (pathOf f len) := sym_of f hT.le len (err_ok hT.ok).1
  unfold nx
  cases hf : (List.range len).find? (fullB f (pathOf f len) s t) with
  | none => exact absurd h (nx_none hf i hi)
  | some j =>
    obtain ⟨hj, k⟩ := nx_find hf
    obtain rfl := fits_one hs (i := i) (j := j) ⟨hi, h.1⟩ ⟨hj, k.1⟩ (full_fits (hT.le i) (hs.lt i ⟨hi, h.1⟩) h) (full_fits (hT.le j) (hs.lt j ⟨hj, k.1⟩) k)
    rfl
theorem nx_no {f : Nat → Nat} {len : Nat} {s : ByteArray} {t : Nat} (hno : ∀ i, i < len → ¬ Full f (pathOf f len) s t i) : (List.range len).find? (fullB f (pathOf f len) s t) = none := by
  rw [List.find?_eq_none]
  intro i hi k
  exact hno i (by simpa using hi) (fullB_iff.1 k)
theorem nx_fin {f : Nat → Nat} {len : Nat} {s : ByteArray} {t : Nat} (hno : ∀ i, i < len → ¬ Full f (pathOf f len) s t i) (hb : ∃ i, i < len ∧ Begs f (pathOf f len) s t i) : nx f len s t = (3, 0, t) := by
  unfold nx
  rw [nx_no hno]
  have : (List.range len).any (begsB f (pathOf f len) s t) = true := by
    obtain ⟨i, hi, h⟩ := hb
    exact List.any_eq_true.2 ⟨i, by simpa using hi, begsB_iff.2 h⟩
  simp [this]
theorem nx_bad {f : Nat → Nat} {len : Nat} {s : ByteArray} {t : Nat} (hno : ∀ i, i < len → ¬ Full f (pathOf f len) s t i) (hb : ∀ i, i < len → ¬ Begs f (pathOf f len) s t i) : nx f len s t = (5, 0, t) := by
  unfold nx
  rw [nx_no hno]
  have : (List.range len).any (begsB f (pathOf f len) s t) = false := by
    rw [List.any_eq_false]
    intro i hi k
    exact hb i (by simpa using hi) (begsB_iff.1 k)
  simp [this]

/-- The three ways. -/
theorem nx_cases (f : Nat → Nat) (len : Nat) (s : ByteArray) (t : Nat) : (∃ i, i < len ∧ Full f (pathOf f len) s t i ∧ nx f len s t = (0, i, t + f i)) ∨
    ((∀ i, i < len → ¬ Full f (pathOf f len) s t i) ∧ (∃ i, i < len ∧ Begs f (pathOf f len) s t i) ∧ nx f len s t = (3, 0, t)) ∨
    ((∀ i, i < len → ¬ Full f (pathOf f len) s t i) ∧ (∀ i, i < len → ¬ Begs f (pathOf f len) s t i) ∧ nx f len s t = (5, 0, t)) := by
  cases hf : (List.range len).find? (fullB f (pathOf f len) s t) with
  | some i =>
    obtain ⟨hi, h⟩ := nx_find hf
    refine .inl ⟨i, hi, h, ?_⟩
    unfold nx
    rw [hf]
  | none =>
    have hno := nx_none hf
    by_cases g : ∃ i, i < len ∧ Begs f (pathOf f len) s t i
    · exact .inr (.inl ⟨hno, g, nx_fin hno g⟩)
    · have hb : ∀ i, i < len → ¬ Begs f (pathOf f len) s t i := fun i hi k => g ⟨i, hi, k⟩
      exact .inr (.inr ⟨hno, hb, nx_bad hno hb⟩)

theorem nx_fits {f : Nat → Nat} {len : Nat} {s : ByteArray} {t e i t1 : Nat} (h : nx f len s t = (e, i, t1)) (ht : t ≤ 8 * s.size) : t1 ≤ 8 * s.size ∧ t ≤ t1 ∧ (e = 0 → t < t1 ∧ i < len ∧ f i ≠ 0) ∧ (e ≠ 0 → t1 = t ∧ i = 0) ∧ (e = 0 ∨ e = 3 ∨ e = 5) := by
  rcases nx_cases f len s t with ⟨j, hj, k, hn⟩ | ⟨_, _, hn⟩ | ⟨_, _, hn⟩
  · rw [hn] at h
    simp only [Prod.mk.injEq] at h
    obtain ⟨rfl, rfl, rfl⟩ := h
    have h1 := k.1
    have h2 := k.2.1
    exact ⟨h2, by omega, fun _ => ⟨by omega, hj, h1⟩, fun h => absurd rfl h, .inl rfl⟩
  · rw [hn] at h
    simp only [Prod.mk.injEq] at h
    obtain ⟨rfl, rfl, rfl⟩ := h
    exact ⟨ht, Nat.le_refl _, fun h => absurd h (by decide), fun _ => ⟨rfl, rfl⟩, .inr (.inl rfl)⟩
  · rw [hn] at h
    simp only [Prod.mk.injEq] at h
    obtain ⟨rfl, rfl, rfl⟩ := h
    exact ⟨ht, Nat.le_refl _, fun h => absurd h (by decide), fun _ => ⟨rfl, rfl⟩, .inr (.inr rfl)⟩

/-- So many bytes again, one by one. -/
def again (far : Nat) : Nat → List Nat → List Nat
  | 0, out => out
  | n + 1, out => again far n (out ++ [out.getD (out.length - far) 0])

theorem length_again (far : Nat) : ∀ n out, (again far n out).length = out.length + n
  | 0, out => rfl
  | n + 1, out => by rw [again, length_again far n, List.length_append]; simp; omega
theorem again_last (far : Nat) : ∀ n out, again far (n + 1) out = again far n out ++ [(again far n out).getD ((again far n out).length - far) 0]
  | 0, out => rfl
  | n + 1, out => by rw [again, again_last far n, again]
theorem again_small (far : Nat) : ∀ n out, (∀ x ∈ out, x < 256) → ∀ x ∈ again far n out, x < 256
  | 0, _, h => h
  | n + 1, out, h => by
    refine again_small far n _ (fun x hx => ?_)
    rcases List.mem_append.1 hx with hx | hx
    · exact h x hx
    · simp only [List.mem_singleton] at hx
      subst hx
      rw [List.getD_eq_getElem?_getD]
      cases hg : out[out.length - far]? with
      | none => decide
      | some y => exact h y (List.mem_of_getElem? hg)

/-- What comes again behind a length's symbol: error, place, bytes. -/
def ag (fd : Nat → Nat) (ld : Nat) (s : ByteArray) (most sym t : Nat) (out : List Nat) : Nat × Nat × List Nat :=
  if 285 < sym then (5, t, out) else
  if 8 * s.size < t + lb sym then (3, t, out) else
  let a := nx fd ld s (t + lb sym)
  if a.1 ≠ 0 then (a.1, t + lb sym, out) else
  if 29 < a.2.1 then (5, a.2.2, out) else
  if 8 * s.size < a.2.2 + db a.2.1 then (3, a.2.2, out) else
  if out.length < dl a.2.1 + Bt.rval s a.2.2 (db a.2.1) then (9, a.2.2 + db a.2.1, out) else
  if most < out.length + (lenN sym + Bt.rval s t (lb sym)) then (2, a.2.2 + db a.2.1, out) else
  (0, a.2.2 + db a.2.1, again (dl a.2.1 + Bt.rval s a.2.2 (db a.2.1)) (lenN sym + Bt.rval s t (lb sym)) out)

/-- The symbols of a block: from a place and bytes on: error, place, bytes. -/
inductive Sy (fl : Nat → Nat) (ll : Nat) (fd : Nat → Nat) (ld : Nat) (s : ByteArray) (most : Nat) : Nat → List Nat → Nat → Nat → List Nat → Prop
  | err (t : Nat) (out : List Nat) (e i t1 : Nat) (n : nx fl ll s t = (e, i, t1)) (he : e ≠ 0) : Sy fl ll fd ld s most t out e t out
  | fin (t : Nat) (out : List Nat) (t1 : Nat) (n : nx fl ll s t = (0, 256, t1)) : Sy fl ll fd ld s most t out 0 t1 out
  | full (t : Nat) (out : List Nat) (i t1 : Nat) (n : nx fl ll s t = (0, i, t1)) (hi : i < 256) (h : most ≤ out.length) : Sy fl ll fd ld s most t out 2 t1 out
  | lit (t : Nat) (out : List Nat) (i t1 : Nat) (n : nx fl ll s t = (0, i, t1)) (hi : i < 256) (h : out.length < most) (e t' : Nat) (out' : List Nat) (r : Sy fl ll fd ld s most t1 (out ++ [i]) e t' out') : Sy fl ll fd ld s most t out e t' out'
  | agErr (t : Nat) (out : List Nat) (i t1 : Nat) (n : nx fl ll s t = (0, i, t1)) (hi : 256 < i) (e t2 : Nat) (out2 : List Nat) (a : ag fd ld s most i t1 out = (e, t2, out2)) (he : e ≠ 0) : Sy fl ll fd ld s most t out e t2 out2
  | ag (t : Nat) (out : List Nat) (i t1 : Nat) (n : nx fl ll s t = (0, i, t1)) (hi : 256 < i) (t2 : Nat) (out2 : List Nat) (a : ag fd ld s most i t1 out = (0, t2, out2)) (e t' : Nat) (out' : List Nat) (r : Sy fl ll fd ld s most t2 out2 e t' out') : Sy fl ll fd ld s most t out e t' out'

theorem Sy.det {fl : Nat → Nat} {ll : Nat} {fd : Nat → Nat} {ld : Nat} {s : ByteArray} {most t : Nat} {out : List Nat} {e t' : Nat} {o' : List Nat} (h : Sy fl ll fd ld s most t out e t' o') : ∀ {e2 t2 : Nat} {o2 : List Nat}, Sy fl ll fd ld s most t out e2 t2 o2 → e = e2 ∧ t' = t2 ∧ o' = o2 := by
  induction h with
  | err t out e i t1 n he =>
    intro e2 t2 o2 k
    cases k <;> rename_i n' _ <;> simp_all
  | fin t out t1 n =>
    intro e2 t2 o2 k
    cases k <;> simp_all
  | full t out i t1 n hi h =>
    intro e2 t2 o2 k
    cases k <;> simp_all <;> omega
  | lit t out i t1 n hi h e t' out' r ih =>
    intro e2 t2 o2 k
    cases k with
    | lit _ _ i2 t12 n2 hi2 h2 _ _ _ r2 =>
      rw [n] at n2
      simp only [Prod.mk.injEq, true_and] at n2
      obtain ⟨rfl, rfl⟩ := n2
      exact ih r2
    | err => simp_all
    | fin => simp_all
    | full => simp_all <;> omega
    | agErr => simp_all <;> omega
    | ag => simp_all <;> omega
  | agErr t out i t1 n hi e t2 out2 a he =>
    intro e2 t2 o2 k
    cases k <;> simp_all <;> omega
  | ag t out i t1 n hi t2 out2 a e t' out' r ih =>
    intro e2 t2 o2 k
    cases k with
    | ag _ _ i2 t12 n2 hi2 t22 out22 a2 _ _ _ r2 =>
      rw [n] at n2
      simp only [Prod.mk.injEq, true_and] at n2
      obtain ⟨rfl, rfl⟩ := n2
      rw [a] at a2
      simp only [Prod.mk.injEq, true_and] at a2
      obtain ⟨rfl, rfl⟩ := a2
      exact ih r2
    | err => simp_all
    | fin => simp_all
    | full => simp_all <;> omega
    | lit => simp_all <;> omega
    | agErr => simp_all

/-! ### Lengths told by symbols -/
def moreBits (i : Nat) : Nat := if i = 16 then 2 else if i = 17 then 3 else if i = 18 then 7 else 0
def leastT (i : Nat) : Nat := if i = 16 then 3 else if i = 17 then 3 else if i = 18 then 11 else 1
def valT (i : Nat) (told : List Nat) : Nat := if i = 16 then told.getD (told.length - 1) 0 else if i = 17 then 0 else if i = 18 then 0 else i

inductive Le (f : Nat → Nat) (l : Nat) (s : ByteArray) (wanted : Nat) : Nat → List Nat → Nat → Nat → List Nat → Prop
  | fin (t : Nat) (told : List Nat) (h : wanted ≤ told.length) : Le f l s wanted t told 0 t told
  | err (t : Nat) (told : List Nat) (h : told.length < wanted) (e i t1 : Nat) (n : nx f l s t = (e, i, t1)) (he : e ≠ 0) : Le f l s wanted t told e t []
  | none (t : Nat) (told : List Nat) (h : told.length < wanted) (t1 : Nat) (n : nx f l s t = (0, 16, t1)) (h0 : told.length = 0) : Le f l s wanted t told 5 t1 []
  | cut (t : Nat) (told : List Nat) (h : told.length < wanted) (i t1 : Nat) (n : nx f l s t = (0, i, t1)) (h0 : ¬ (i = 16 ∧ told.length = 0)) (h1 : 8 * s.size < t1 + moreBits i) : Le f l s wanted t told 3 t1 []
  | many (t : Nat) (told : List Nat) (h : told.length < wanted) (i t1 : Nat) (n : nx f l s t = (0, i, t1)) (h0 : ¬ (i = 16 ∧ told.length = 0)) (h1 : t1 + moreBits i ≤ 8 * s.size) (h2 : wanted < told.length + (leastT i + Bt.rval s t1 (moreBits i))) : Le f l s wanted t told 5 (t1 + moreBits i) []
  | step (t : Nat) (told : List Nat) (h : told.length < wanted) (i t1 : Nat) (n : nx f l s t = (0, i, t1)) (h0 : ¬ (i = 16 ∧ told.length = 0)) (h1 : t1 + moreBits i ≤ 8 * s.size) (h2 : told.length + (leastT i + Bt.rval s t1 (moreBits i)) ≤ wanted)
      (e t' : Nat) (told' : List Nat) (r : Le f l s wanted (t1 + moreBits i) (told ++ List.replicate (leastT i + Bt.rval s t1 (moreBits i)) (valT i told)) e t' told') : Le f l s wanted t told e t' told'

theorem Le.det {f : Nat → Nat} {l : Nat} {s : ByteArray} {wanted t : Nat} {told : List Nat} {e t' : Nat} {o' : List Nat} (h : Le f l s wanted t told e t' o') : ∀ {e2 t2 : Nat} {o2 : List Nat}, Le f l s wanted t told e2 t2 o2 → e = e2 ∧ t' = t2 ∧ o' = o2 := by
  induction h with
  | fin t told h =>
    intro e2 t2 o2 k
    cases k <;> first | exact ⟨rfl, rfl, rfl⟩ | (exfalso; omega)
  | err t told h e i t1 n he =>
    intro e2 t2 o2 k
    cases k <;> first | (exfalso; omega) | simp_all
  | none t told h t1 n h0 =>
    intro e2 t2 o2 k
    cases k <;> first | (exfalso; omega) | simp_all
  | cut t told h i t1 n h0 h1 =>
    intro e2 t2 o2 k
    cases k with
    | fin => exfalso; omega
    | err => simp_all
    | none => simp_all
    | cut _ _ _ i2 t12 n2 k0 k1 =>
      rw [n] at n2
      simp only [Prod.mk.injEq, true_and] at n2
      obtain ⟨rfl, rfl⟩ := n2
      exact ⟨rfl, rfl, rfl⟩
    | many _ _ _ i2 t12 n2 k0 k1 k2 =>
      rw [n] at n2
      simp only [Prod.mk.injEq, true_and] at n2
      obtain ⟨rfl, rfl⟩ := n2
      exfalso; omega
    | step _ _ _ i2 t12 n2 k0 k1 k2 _ _ _ r2 =>
      rw [n] at n2
      simp only [Prod.mk.injEq, true_and] at n2
      obtain ⟨rfl, rfl⟩ := n2
      exfalso; omega
  | many t told h i t1 n h0 h1 h2 =>
    intro e2 t2 o2 k
    cases k with
    | fin => exfalso; omega
    | err => simp_all
    | none => simp_all
    | cut _ _ _ i2 t12 n2 k0 k1 =>
      rw [n] at n2
      simp only [Prod.mk.injEq, true_and] at n2
      obtain ⟨rfl, rfl⟩ := n2
      exfalso; omega
    | many _ _ _ i2 t12 n2 k0 k1 k2 =>
      rw [n] at n2
      simp only [Prod.mk.injEq, true_and] at n2
      obtain ⟨rfl, rfl⟩ := n2
      exact ⟨rfl, rfl, rfl⟩
    | step _ _ _ i2 t12 n2 k0 k1 k2 _ _ _ r2 =>
      rw [n] at n2
      simp only [Prod.mk.injEq, true_and] at n2
      obtain ⟨rfl, rfl⟩ := n2
      exfalso; omega
  | step t told h i t1 n h0 h1 h2 e t' told' r ih =>
    intro e2 t2 o2 k
    cases k with
    | fin => exfalso; omega
    | err => simp_all
    | none => simp_all
    | cut _ _ _ i2 t12 n2 k0 k1 =>
      rw [n] at n2
      simp only [Prod.mk.injEq, true_and] at n2
      obtain ⟨rfl, rfl⟩ := n2
      exfalso; omega
    | many _ _ _ i2 t12 n2 k0 k1 k2 =>
      rw [n] at n2
      simp only [Prod.mk.injEq, true_and] at n2
      obtain ⟨rfl, rfl⟩ := n2
      exfalso; omega
    | step _ _ _ i2 t12 n2 k0 k1 k2 _ _ _ r2 =>
      rw [n] at n2
      simp only [Prod.mk.injEq, true_and] at n2
      obtain ⟨rfl, rfl⟩ := n2
      exact ih r2

/-! ### Kind 2's head -/
def posL : List Nat := [3, 17, 15, 13, 11, 9, 7, 5, 4, 6, 8, 10, 12, 14, 16, 18, 0, 1, 2]
/-- The lengths of the codes by which lengths are told: n of them, from place t on. -/
def lens3 (s : ByteArray) (t n i : Nat) : Nat := if i < 19 ∧ posL.getD i 0 < n then Bt.rval s (t + 3 * posL.getD i 0) 3 else 0

def litOf (told : List Nat) (nl i : Nat) : Nat := if i < nl then min (told.getD i 0) 15 else 0
def disOf (told : List Nat) (nl nd i : Nat) : Nat := if i < nd then min (told.getD (nl + i) 0) 15 else 0

/-- What is wrong ahead of the lengths: error and place. -/
def dyHead (s : ByteArray) (t : Nat) : Option (Nat × Nat) :=
  if 8 * s.size < t + 5 then some (3, t) else
  if 8 * s.size < t + 10 then some (3, t + 5) else
  if 8 * s.size < t + 14 then some (3, t + 10) else
  if 29 < Bt.rval s t 5 ∨ 29 < Bt.rval s (t + 5) 5 then some (5, t + 14) else
  if 8 * s.size < t + 14 + 3 * (Bt.rval s (t + 10) 4 + 4) then some (3, t + 14 + 3 * ((8 * s.size - (t + 14)) / 3)) else
  if errOf (lens3 s (t + 14) (Bt.rval s (t + 10) 4 + 4)) 19 ≠ 0 then some (errOf (lens3 s (t + 14) (Bt.rval s (t + 10) 4 + 4)) 19, t + 14 + 3 * (Bt.rval s (t + 10) 4 + 4)) else none
/-- What is wrong with the lengths. -/
def dyEnd (nl nd : Nat) (told : List Nat) : Nat :=
  if told.getD 256 0 = 0 then 5 else
  if errOf (litOf told nl) nl ≠ 0 then errOf (litOf told nl) nl else errOf (disOf told nl nd) nd

def dyL (s : ByteArray) (t : Nat) : Nat := Bt.rval s t 5 + 257
def dyD (s : ByteArray) (t : Nat) : Nat := Bt.rval s (t + 5) 5 + 1
def dyF (s : ByteArray) (t : Nat) : Nat → Nat := lens3 s (t + 14) (Bt.rval s (t + 10) 4 + 4)
def dyT (s : ByteArray) (t : Nat) : Nat := t + 14 + 3 * (Bt.rval s (t + 10) 4 + 4)

/-- The tables of kind 2: error, place, the lengths. -/
inductive Dy (s : ByteArray) (t : Nat) : Nat → Nat → List Nat → Prop
  | head (e t' : Nat) (h : dyHead s t = some (e, t')) : Dy s t e t' []
  | lens (h : dyHead s t = none) (e t' : Nat) (told : List Nat) (r : Le (dyF s t) 19 s (dyL s t + dyD s t) (dyT s t) [] e t' told) (he : e ≠ 0) : Dy s t e t' []
  | done (h : dyHead s t = none) (t' : Nat) (told : List Nat) (r : Le (dyF s t) 19 s (dyL s t + dyD s t) (dyT s t) [] 0 t' told) : Dy s t (dyEnd (dyL s t) (dyD s t) told) t' told

theorem Dy.det {s : ByteArray} {t e t' : Nat} {o : List Nat} {e2 t2 : Nat} {o2 : List Nat} (h : Dy s t e t' o) (k : Dy s t e2 t2 o2) : e = e2 ∧ t' = t2 ∧ o = o2 := by
  cases h with
  | head _ _ h => cases k <;> simp_all
  | lens h _ _ told r he =>
    cases k with
    | head => simp_all
    | lens _ _ _ told2 r2 he2 =>
      have q := r.det r2
      exact ⟨q.1, q.2.1, rfl⟩
    | done _ _ _ r2 =>
      have q := r.det r2
      exact absurd q.1 he
  | done h _ _ r =>
    cases k with
    | head => simp_all
    | lens _ _ _ told2 r2 he2 =>
      have q := r.det r2
      exact absurd q.1.symm he2
    | done _ _ _ r2 =>
      have q := r.det r2
      rw [q.2.1, q.2.2]
      exact ⟨rfl, rfl, rfl⟩

/-! ### Stored blocks, blocks, all -/
def st (s : ByteArray) (most t : Nat) (out : List Nat) : Nat × Nat × List Nat :=
  let p := (t + 7) / 8
  let n := Bt.byteN s p + 256 * Bt.byteN s (p + 1)
  if s.size < p + 2 then (3, t, out) else
  if s.size < p + 4 then (3, 8 * (p + 2), out) else
  if Bt.byteN s (p + 2) + 256 * Bt.byteN s (p + 3) ≠ 65535 - n then (11, 8 * (p + 4), out) else
  if most < out.length + n then (2, 8 * (p + 4), out) else
  if s.size < p + 4 + n then (3, 8 * (p + 4), out) else
  (0, 8 * (p + 4 + n), out ++ (List.range n).map fun i => Bt.byteN s (p + 4 + i))

/-- The lengths of kind 1. -/
def fixL (i : Nat) : Nat := if i < 144 then 8 else if i < 256 then 9 else if i < 280 then 7 else if i < 288 then 8 else 0
def fixD (i : Nat) : Nat := if i < 32 then 5 else 0

/-- A block of a kind: error, place, bytes. -/
inductive Bk (s : ByteArray) (most : Nat) : Nat → Nat → List Nat → Nat → Nat → List Nat → Prop
  | stored (t : Nat) (out : List Nat) (e t' : Nat) (out' : List Nat) (h : st s most t out = (e, t', out')) : Bk s most 0 t out e t' out'
  | fixed (t : Nat) (out : List Nat) (e t' : Nat) (out' : List Nat) (h : Sy fixL 288 fixD 32 s most t out e t' out') : Bk s most 1 t out e t' out'
  | head (t : Nat) (out : List Nat) (e t' : Nat) (told : List Nat) (h : Dy s t e t' told) (he : e ≠ 0) : Bk s most 2 t out e t' out
  | dyn (t : Nat) (out : List Nat) (t1 : Nat) (told : List Nat) (h : Dy s t 0 t1 told) (e t' : Nat) (out' : List Nat) (r : Sy (litOf told (dyL s t)) (dyL s t) (disOf told (dyL s t) (dyD s t)) (dyD s t) s most t1 out e t' out') : Bk s most 2 t out e t' out'
  | bad (t : Nat) (out : List Nat) : Bk s most 3 t out 8 t out

theorem Bk.det {s : ByteArray} {most k t : Nat} {out : List Nat} {e t' : Nat} {o : List Nat} {e2 t2 : Nat} {o2 : List Nat} (h : Bk s most k t out e t' o) (g : Bk s most k t out e2 t2 o2) : e = e2 ∧ t' = t2 ∧ o = o2 := by
  cases h with
  | stored _ _ _ _ _ h =>
    cases g with
    | stored _ _ _ _ _ g => rw [h] at g; simpa using g
  | fixed _ _ _ _ _ h =>
    cases g with
    | fixed _ _ _ _ _ g => exact h.det g
  | head _ _ _ _ told h he =>
    cases g with
    | head _ _ _ _ told2 g he2 =>
      have q := h.det g
      exact ⟨q.1, q.2.1, rfl⟩
    | dyn _ _ _ _ g => exact absurd (h.det g).1 he
  | dyn _ _ t1 told h _ _ _ r =>
    cases g with
    | head _ _ _ _ told2 g he2 => exact absurd (h.det g).1.symm he2
    | dyn _ _ t12 told2 g _ _ _ r2 =>
      obtain ⟨_, rfl, rfl⟩ := h.det g
      exact r.det r2
  | bad => cases g; exact ⟨rfl, rfl, rfl⟩

/-- All blocks: from a place and bytes on. -/
inductive Un (s : ByteArray) (most : Nat) : Nat → List Nat → Nat → Nat → List Nat → Prop
  | cut1 (t : Nat) (out : List Nat) (h : 8 * s.size < t + 1) : Un s most t out 3 t out
  | cut2 (t : Nat) (out : List Nat) (h : t + 1 ≤ 8 * s.size) (h1 : 8 * s.size < t + 3) : Un s most t out 3 (t + 1) out
  | err (t : Nat) (out : List Nat) (h : t + 3 ≤ 8 * s.size) (e t' : Nat) (out' : List Nat) (b : Bk s most (Bt.rval s (t + 1) 2) (t + 3) out e t' out') (he : e ≠ 0) : Un s most t out e t' out'
  | last (t : Nat) (out : List Nat) (h : t + 3 ≤ 8 * s.size) (h1 : Bt.rval s t 1 ≠ 0) (t' : Nat) (out' : List Nat) (b : Bk s most (Bt.rval s (t + 1) 2) (t + 3) out 0 t' out') : Un s most t out 0 t' out'
  | more (t : Nat) (out : List Nat) (h : t + 3 ≤ 8 * s.size) (h1 : Bt.rval s t 1 = 0) (t1 : Nat) (out1 : List Nat) (b : Bk s most (Bt.rval s (t + 1) 2) (t + 3) out 0 t1 out1) (e t' : Nat) (out' : List Nat) (r : Un s most t1 out1 e t' out') : Un s most t out e t' out'

theorem Un.det {s : ByteArray} {most t : Nat} {out : List Nat} {e t' : Nat} {o : List Nat} (h : Un s most t out e t' o) : ∀ {e2 t2 : Nat} {o2 : List Nat}, Un s most t out e2 t2 o2 → e = e2 ∧ t' = t2 ∧ o = o2 := by
  induction h with
  | cut1 t out h =>
    intro e2 t2 o2 k
    cases k <;> first | exact ⟨rfl, rfl, rfl⟩ | (exfalso; omega)
  | cut2 t out h h1 =>
    intro e2 t2 o2 k
    cases k <;> first | exact ⟨rfl, rfl, rfl⟩ | (exfalso; omega)
  | err t out h e t' out' b he =>
    intro e2 t2 o2 k
    cases k with
    | cut1 => exfalso; omega
    | cut2 => exfalso; omega
    | err _ _ _ _ _ _ b2 _ => exact b.det b2
    | last _ _ _ _ _ _ b2 => exact absurd (b.det b2).1 he
    | more _ _ _ _ _ _ b2 => exact absurd (b.det b2).1 he
  | last t out h h1 t' out' b =>
    intro e2 t2 o2 k
    cases k with
    | cut1 => exfalso; omega
    | cut2 => exfalso; omega
    | err _ _ _ _ _ _ b2 he2 => exact absurd (b.det b2).1.symm he2
    | last _ _ _ _ _ _ b2 => exact b.det b2
    | more _ _ _ h2 => exact absurd h2 h1
  | more t out h h1 t1 out1 b e t' out' r ih =>
    intro e2 t2 o2 k
    cases k with
    | cut1 => exfalso; omega
    | cut2 => exfalso; omega
    | err _ _ _ _ _ _ b2 he2 => exact absurd (b.det b2).1.symm he2
    | last _ _ _ h2 => exact absurd h1 h2
    | more _ _ _ _ t12 out12 b2 _ _ _ r2 =>
      obtain ⟨_, rfl, rfl⟩ := b.det b2
      exact ih r2
end Inf
end Go.Proofs.YtffjkceedbblgaaGreatDoor

/- Next of a table without codes, and Codes of a table; no condition beside those told. -/
namespace Go.Proofs.YtffjkceedbblgaaGreatDoor
open Go.RowKit

theorem next_empty (b r : Nat) (cv : Value) (C : Tb.Cells) (w : World) (h : Tab w b cv C 0) :
    Calls Tryz.prog 99 #[.pointer (some ⟨b, 0, none⟩), .pointer (some ⟨r, 0, none⟩)] w fun e w' => e = .returned (.tuple #[.int .i64 0, .int .i64 5]) ∧ w' = w := by
  obtain ⟨v, hb, hown⟩ := h
  obtain ⟨a, cap, rfl⟩ := own_shape hown
  have h1 := cell_two1 hb
  clear hb hown
  go_enter Tryz.func99, Tryz.ntmps99
  go_wp2
  go_step3
  go_wp2
  rw [Exit.noGoto_ret]
  go_ret2
  exact ⟨rfl, rfl⟩

end Go.Proofs.YtffjkceedbblgaaGreatDoor

/- A table as New leaves it, what it answers, and what is asked of lay; no condition beside those told. -/
namespace Go.Proofs.YtffjkceedbblgaaGreatDoor
open Go.RowKit

/-- The cells tell the symbols that are laid, and nothing else. -/
def Good (C : Tb.Cells) (sz : Nat) (laid : Nat → Prop) (f path : Nat → Nat) : Prop :=
  (sz = 0 ∧ ∀ i, ¬ laid i) ∨ (0 < sz ∧ sz % 32 = 0 ∧ ∃ E R, Tb.Inv C sz laid f path E R ∧ ∀ d q, E (d + 1) q → ∃ j, laid j ∧ 5 * (d + 1) < f j ∧ path j % 2 ^ (5 * (d + 1)) = q)

theorem Good.same {C : Tb.Cells} {sz : Nat} {laid laid' : Nat → Prop} {f path : Nat → Nat} (h : Good C sz laid f path) (e : ∀ i, laid i ↔ laid' i) : Good C sz laid' f path := by
  have : laid = laid' := by funext i; exact propext (e i)
  rw [← this]
  exact h

/-- What lay does, as New leans on it. -/
def LaySpec : Prop := ∀ (b sz g len n i0 : Nat) (C : Tb.Cells) (f code path : Nat → Nat) (laid : Nat → Prop) (w : World),
  Tab w b (.slice (some ⟨g, 0, none⟩) len len) C sz → Ints w (some ⟨g, 0, none⟩) len (fun i => (code i : Nat)) → ¬ TFp w b g → i0 < len → n ≤ 1024 → sz ≤ 96 * n →
  Good C sz laid f path → ¬ laid i0 → Tb.Sym (fun i => laid i ∨ i = i0) f path → path i0 = rev (code i0) (f i0) →
  Calls Tryz.prog 75 #[.pointer (some ⟨b, 0, none⟩), .int .i64 i0, .int .i64 (f i0 : Nat)] w fun e w' =>
    e = .returned (.tuple #[]) ∧ ∃ C' sz', TStep w w' b (.slice (some ⟨g, 0, none⟩) len len) C' sz' ∧ Good C' sz' (fun i => laid i ∨ i = i0) f path ∧ sz' ≤ 96 * (n + 1)

/-- A table of the lengths f, in the blocks from lo up to hi. -/
def TblIn (w : World) (b : Nat) (f : Nat → Nat) (len lo hi : Nat) : Prop :=
  ∃ g C sz, Tab w b (.slice (some ⟨g, 0, none⟩) len len) C sz ∧ Ints w (some ⟨g, 0, none⟩) len (fun i => (codeOf (cOf f len) f i : Nat)) ∧ Good C sz (Laid f len) f (pathOf f len) ∧ sz ≤ 100000 ∧ ∀ k, (TFp w b k ∨ k = g) → lo ≤ k ∧ k < hi

theorem TFp.kept {w w' : World} {b k : Nat} (h : TFp w' b k) (e : w'.heap[b]? = w.heap[b]?) : TFp w b k := by
  rcases h with h | ⟨c, v, h1, h2⟩
  · exact .inl h
  · exact .inr ⟨c, v, by rw [← e]; exact h1, h2⟩

theorem TblIn.kept {w w' : World} {b : Nat} {f : Nat → Nat} {len lo hi : Nat} {S : Nat → Prop} (h : TblIn w b f len lo hi) (t : Touch S w w') (hS : ∀ k, lo ≤ k → k < hi → ¬ S k) : TblIn w' b f len lo hi := by
  obtain ⟨g, C, sz, h1, h2, h3, h4, h5⟩ := h
  have hb : w'.heap[b]? = w.heap[b]? := t.block b h1.lt (hS b (h5 b (.inl (.inl rfl))).1 (h5 b (.inl (.inl rfl))).2)
  refine ⟨g, C, sz, h1.kept (fun k hk => t.block k (h1.fp_lt hk) (hS k (h5 k (.inl hk)).1 (h5 k (.inl hk)).2)), ?_, h3, h4, fun k hk => ?_⟩
  · rcases h2 with h | ⟨b', o, ha, hlt, hc⟩
    · exact .inl h
    · simp at ha
      obtain ⟨rfl, rfl⟩ := ha
      exact .inr ⟨g, 0, rfl, Nat.lt_of_lt_of_le hlt t.size, fun i hi => by rw [t.cell (p := ⟨g, 0 + i, none⟩) hlt (hS g (h5 g (.inr rfl)).1 (h5 g (.inr rfl)).2)]; exact hc i hi⟩
  · rcases hk with hk | hk
    · exact h5 k (.inl (hk.kept hb))
    · exact h5 k (.inr hk)

theorem TblIn.lt {w : World} {b : Nat} {f : Nat → Nat} {len lo hi : Nat} (h : TblIn w b f len lo hi) : b < hi ∧ lo ≤ b ∧ b < w.heap.size := by
  obtain ⟨g, C, sz, h1, _, _, _, h5⟩ := h
  have := h5 b (.inl (.inl rfl))
  exact ⟨this.2, this.1, h1.lt⟩

theorem next_tbl (b r t lo hi : Nat) (f : Nat → Nat) (len : Nat) (s : ByteArray) (w : World) (hf : ∀ i, f i ≤ 15) (he : errOf f len = 0) (hT : TblIn w b f len lo hi) (hR : Rd w r s t) (hs : s.size ≤ 140737488355328) (ht : t ≤ 8 * s.size) :
    Calls Tryz.prog 99 #[.pointer (some ⟨b, 0, none⟩), .pointer (some ⟨r, 0, none⟩)] w fun e w' => Answer (Laid f len) f (pathOf f len) (Bt.rval s t (min 15 (8 * s.size - t))) s t r w e w' := by
  obtain ⟨g, C, sz, h1, h2, h3, h4, h5⟩ := hT
  rcases h3 with ⟨rfl, hno⟩ | ⟨hpos, _, E, R, hv, hown⟩
  · refine (next_empty b r _ C w h1).mono ?_
    rintro e w' ⟨rfl, rfl⟩
    exact .inr (.inr ⟨fun i hi => absurd hi (hno i), rfl, RStep.refl hR⟩)
  · have hsy : Tb.Sym (Laid f len) f (pathOf f len) := sym_of f hf len (err_ok he).1
    refine next_any b r sz t _ C (Laid f len) f (pathOf f len) E R s w h1 hR hpos h4 hv hsy ?_ hs ht
    intro d q hE
    rcases d with _ | d
    · omega
    · obtain ⟨j, hj, hd, _⟩ := hown d q hE
      have := hf j
      omega

end Go.Proofs.YtffjkceedbblgaaGreatDoor
