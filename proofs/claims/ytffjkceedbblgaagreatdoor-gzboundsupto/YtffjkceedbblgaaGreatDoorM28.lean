/- Texts of this proof, one behind the other: what each says stands ahead of it. -/
import Derived.Test.YtffjkceedbblgaaGreatDoorM21
import Derived.Test.YtffjkceedbblgaaGreatDoorM27
/- The parts of a packed file, as plain functions and relations: what a part is, or what is wrong, and where; each is told by just one answer. No condition beside those told. -/
namespace Go.Proofs.YtffjkceedbblgaaGreatDoor
namespace Gz

/-- The number of some bytes, the lower ones first. -/
def num (s : ByteArray) : Nat → Nat → Nat
  | _, 0 => 0
  | p, n + 1 => Bt.byteN s p + 256 * num s (p + 1) n
theorem num_lt (s : ByteArray) : ∀ n p, num s p n < 256 ^ n
  | 0, _ => by simp [num]
  | n + 1, p => by
    have h1 := num_lt s n (p + 1)
    have h2 := Bt.byteN_lt s p
    rw [num, Nat.pow_succ]
    omega
/-- The place of the next byte 00. -/
def zf (s : ByteArray) : Nat → Nat → Option Nat
  | 0, _ => none
  | n + 1, p => if Bt.byteN s p = 0 then some p else zf s n (p + 1)
def zeroAt (s : ByteArray) (p : Nat) : Option Nat := zf s (s.size - p) p

structure Part where
  name : ByteArray
  comment : ByteArray
  extra : ByteArray
  text : Bool
  headSum : Bool
  time : Nat
  more : Nat
  system : Nat
  data : ByteArray

abbrev Bad := Nat × Nat

def nameAt (s : ByteArray) (p : Nat) : Except Bad (ByteArray × Nat) :=
  match zeroAt s p with
  | none => .error (3, p)
  | some z => if 256 < z - p then .error (2, p) else .ok (s.extract p z, z + 1)
def extraAt (s : ByteArray) (p : Nat) : Except Bad (ByteArray × Nat) :=
  if s.size < p + 2 then .error (3, p) else if s.size < p + 2 + num s p 2 then .error (3, p) else .ok (s.extract (p + 2) (p + 2 + num s p 2), p + 2 + num s p 2)
/-- The flags of a head. -/
def headAt (s : ByteArray) (p : Nat) : Except Bad Nat :=
  if s.size < p + 2 ∨ Bt.byteN s p ≠ 31 ∨ Bt.byteN s (p + 1) ≠ 139 then .error (12, p) else
  if s.size < p + 10 then .error (3, p) else
  if Bt.byteN s (p + 2) ≠ 8 then .error (13, p + 2) else
  if 31 < Bt.byteN s (p + 3) then .error (4, p + 3) else .ok (Bt.byteN s (p + 3))
/-- A text that is there if a flag is set. -/
def perhaps (b : Bool) (p : Nat) (r : Except Bad (ByteArray × Nat)) : Except Bad (ByteArray × Nat) := if b then r else .ok (ByteArray.empty, p)
/-- Extra, name, comment, and the place behind them. -/
def textsAt (s : ByteArray) (p f : Nat) : Except Bad (ByteArray × ByteArray × ByteArray × Nat) :=
  match perhaps (f / 4 % 2 == 1) p (extraAt s p) with
  | .error b => .error b
  | .ok (x, p1) => match perhaps (f / 8 % 2 == 1) p1 (nameAt s p1) with
    | .error b => .error b
    | .ok (n, p2) => match perhaps (f / 16 % 2 == 1) p2 (nameAt s p2) with
      | .error b => .error b
      | .ok (c, p3) => .ok (x, n, c, p3)
def sumAt (s : ByteArray) (p q : Nat) (b : Bool) : Except Bad Nat :=
  if b then (if s.size < q + 2 then .error (3, q) else if num s q 2 ≠ sum (s.extract p q) % 65536 then .error (10, q) else .ok (q + 2)) else .ok q
def packR (s : ByteArray) (p most : Nat) (r : Except Bad (ByteArray × Nat)) : Prop :=
  ∃ S N C A, Says (s.extract p s.size) p most S N C A ∧ S.size ≤ most ∧ (C = 0 → p ≤ N ∧ N ≤ s.size) ∧
    r = (if C ≠ 0 then .error (C, A) else if s.size < N + 8 then .error (3, N) else if num s N 4 ≠ sum S then .error (10, N) else if num s (N + 4) 4 ≠ S.size then .error (11, N + 4) else .ok (S, N + 8))
def partOf (s : ByteArray) (p f : Nat) (x n c S : ByteArray) : Part := ⟨n, c, x, f % 2 == 1, f / 2 % 2 == 1, num s (p + 4) 4, Bt.byteN s (p + 8), Bt.byteN s (p + 9), S⟩
def partR (s : ByteArray) (p most : Nat) (r : Except Bad (Part × Nat)) : Prop :=
  match headAt s p with
  | .error b => r = .error b
  | .ok f => match textsAt s (p + 10) f with
    | .error b => r = .error b
    | .ok (x, n, c, p1) => match sumAt s p p1 (f / 2 % 2 == 1) with
      | .error b => r = .error b
      | .ok p2 => ∃ q, packR s p2 most q ∧ r = match q with
        | .error b => .error b
        | .ok (S, e) => .ok (partOf s p f x n c S, e)
/-- The parts from a place on, so many having been read. -/
inductive Rd (s : ByteArray) : Nat → Nat → Nat → Except Bad (List Part) → Prop
  | fin (p most n : Nat) (h0 : n ≠ 0) (h : s.size ≤ p) : Rd s p most n (.ok [])
  | many (p most n : Nat) (h : p < s.size) (hn : n = 1024) : Rd s p most n (.error (16, p))
  | bad (p most n : Nat) (h : n = 0 ∨ p < s.size) (hn : n < 1024) (b : Bad) (k : partR s p most (.error b)) : Rd s p most n (.error b)
  | more (p most n : Nat) (h : n = 0 ∨ p < s.size) (hn : n < 1024) (x : Part) (e : Nat) (k : partR s p most (.ok (x, e))) (l : List Part) (r : Rd s e (most - x.data.size) (n + 1) (.ok l)) : Rd s p most n (.ok (x :: l))
  | later (p most n : Nat) (h : n = 0 ∨ p < s.size) (hn : n < 1024) (x : Part) (e : Nat) (k : partR s p most (.ok (x, e))) (b : Bad) (r : Rd s e (most - x.data.size) (n + 1) (.error b)) : Rd s p most n (.error b)

theorem says_same {s : ByteArray} {f m : Nat} {S S2 : ByteArray} {N C A N2 C2 A2 : Nat} (h : Says s f m S N C A) (k : Says s f m S2 N2 C2 A2) : S2 = S ∧ N2 = N ∧ C2 = C ∧ A2 = A := by
  obtain ⟨er, t', out', hun, _, hr⟩ := h
  obtain ⟨er2, t2, out2, hun2, _, hr2⟩ := k
  obtain ⟨rfl, rfl, rfl⟩ := hun.det hun2
  rcases hr with ⟨h0, rfl, rfl, rfl, rfl⟩ | ⟨h0, rfl, rfl, rfl, rfl⟩
  · rcases hr2 with ⟨_, rfl, rfl, rfl, rfl⟩ | ⟨k0, _⟩
    · exact ⟨rfl, rfl, rfl, rfl⟩
    · exact absurd h0 k0
  · rcases hr2 with ⟨k0, _⟩ | ⟨_, rfl, rfl, rfl, rfl⟩
    · exact absurd k0 h0
    · exact ⟨rfl, rfl, rfl, rfl⟩
theorem packR_same {s : ByteArray} {p most : Nat} {r r2 : Except Bad (ByteArray × Nat)} (h : packR s p most r) (k : packR s p most r2) : r = r2 := by
  obtain ⟨S, N, C, A, hs, _, _, rfl⟩ := h
  obtain ⟨S2, N2, C2, A2, hs2, _, _, rfl⟩ := k
  obtain ⟨rfl, rfl, rfl, rfl⟩ := says_same hs hs2
  rfl
theorem partR_same {s : ByteArray} {p most : Nat} {r r2 : Except Bad (Part × Nat)} (h : partR s p most r) (k : partR s p most r2) : r = r2 := by
  unfold partR at h k
  cases hh : headAt s p with
  | error b => rw [hh] at h k; exact h.trans k.symm
  | ok f =>
    rw [hh] at h k
    simp only at h k
    cases ht : textsAt s (p + 10) f with
    | error b => rw [ht] at h k; exact h.trans k.symm
    | ok t =>
      obtain ⟨x, n, c, p1⟩ := t
      rw [ht] at h k
      simp only at h k
      cases hs : sumAt s p p1 (f / 2 % 2 == 1) with
      | error b => rw [hs] at h k; exact h.trans k.symm
      | ok p2 =>
        rw [hs] at h k
        obtain ⟨q, hq, rfl⟩ := h
        obtain ⟨q2, hq2, rfl⟩ := k
        obtain rfl := packR_same hq hq2
        rfl
theorem Rd.same {s : ByteArray} {p most n : Nat} {r : Except Bad (List Part)} (h : Rd s p most n r) : ∀ {r2}, Rd s p most n r2 → r = r2 := by
  induction h with
  | fin p most n h0 h =>
    intro r2 k
    cases k <;> first | rfl | omega
  | many p most n h hn =>
    intro r2 k
    cases k <;> first | rfl | omega
  | bad p most n h hn b k0 =>
    intro r2 k
    cases k with
    | fin => omega
    | many => omega
    | bad _ _ _ _ _ b2 k2 => cases partR_same k0 k2; rfl
    | more _ _ _ _ _ x e k2 => cases partR_same k0 k2
    | later _ _ _ _ _ x e k2 => cases partR_same k0 k2
  | more p most n h hn x e k0 l r ih =>
    intro r2 k
    cases k with
    | fin => omega
    | many => omega
    | bad _ _ _ _ _ b2 k2 => cases partR_same k0 k2
    | more _ _ _ _ _ x2 e2 k2 l2 r2 =>
      cases partR_same k0 k2
      cases ih r2
      rfl
    | later _ _ _ _ _ x2 e2 k2 b2 r2 =>
      cases partR_same k0 k2
      cases ih r2
  | later p most n h hn x e k0 b r ih =>
    intro r2 k
    cases k with
    | fin => omega
    | many => omega
    | bad _ _ _ _ _ b2 k2 => cases partR_same k0 k2
    | more _ _ _ _ _ x2 e2 k2 l2 r2 =>
      cases partR_same k0 k2
      cases ih r2
    | later _ _ _ _ _ x2 e2 k2 b2 r2 =>
      cases partR_same k0 k2
      cases ih r2
      rfl
/-- What is read so far, with what is read of the rest. -/
def addTo (acc : List Part) : Except Bad (List Part) → Except Bad (List Part)
  | .error b => .error b
  | .ok l => .ok (acc ++ l)
theorem addTo_nil (r : Except Bad (List Part)) : addTo [] r = r := by cases r <;> rfl
/-- A place up to which some parts have been read. -/
def Upto (s : ByteArray) (most0 p most : Nat) (acc : List Part) : Prop := ∀ r, Rd s p most acc.length r → Rd s 0 most0 0 (addTo acc r)
theorem Upto.zero (s : ByteArray) (most : Nat) : Upto s most 0 most [] := fun r h => by rw [addTo_nil]; exact h
theorem Upto.step {s : ByteArray} {most0 p most : Nat} {acc : List Part} (h : Upto s most0 p most acc) (hg : acc.length = 0 ∨ p < s.size) (hn : acc.length < 1024) {x : Part} {e : Nat} (k : partR s p most (.ok (x, e))) : Upto s most0 e (most - x.data.size) (acc ++ [x]) := by
  intro r hr
  rw [List.length_append, List.length_singleton] at hr
  cases r with
  | error b => exact h _ (.later p most _ hg hn x e k b hr)
  | ok l =>
    have := h _ (.more p most _ hg hn x e k l hr)
    simpa [addTo] using this
theorem Upto.bad {s : ByteArray} {most0 p most : Nat} {acc : List Part} (h : Upto s most0 p most acc) (hg : acc.length = 0 ∨ p < s.size) (hn : acc.length < 1024) {b : Bad} (k : partR s p most (.error b)) : Rd s 0 most0 0 (.error b) := h _ (.bad p most _ hg hn b k)
theorem Upto.many {s : ByteArray} {most0 p most : Nat} {acc : List Part} (h : Upto s most0 p most acc) (hg : p < s.size) (hn : acc.length = 1024) : Rd s 0 most0 0 (.error (16, p)) := h _ (.many p most _ hg hn)
theorem Upto.fin {s : ByteArray} {most0 p most : Nat} {acc : List Part} (h : Upto s most0 p most acc) (hg : s.size ≤ p) (hn : acc.length ≠ 0) : Rd s 0 most0 0 (.ok acc) := by simpa [addTo] using h _ (.fin p most _ hn hg)

/-! ### Bounds -/
theorem zf_in (s : ByteArray) : ∀ n p z, zf s n p = some z → p ≤ z ∧ z < p + n ∧ Bt.byteN s z = 0
  | 0, p, z, h => by simp [zf] at h
  | n + 1, p, z, h => by
    rw [zf] at h
    split at h
    · cases h
      exact ⟨Nat.le_refl _, by omega, by assumption⟩
    · have := zf_in s n (p + 1) z h
      exact ⟨by omega, by omega, this.2.2⟩
theorem zero_in {s : ByteArray} {p z : Nat} (h : zeroAt s p = some z) : p ≤ z ∧ z < s.size ∧ Bt.byteN s z = 0 := by
  have := zf_in s _ p z h
  exact ⟨this.1, by omega, this.2.2⟩
theorem name_in {s : ByteArray} {p : Nat} {x : ByteArray} {e : Nat} (h : nameAt s p = .ok (x, e)) : p < e ∧ e ≤ s.size ∧ x.size ≤ 256 := by
  unfold nameAt at h
  split at h
  · cases h
  · rename_i z hz
    have := zero_in hz
    split at h
    · cases h
    · cases h
      exact ⟨by omega, by omega, by rw [ByteArray.size_extract]; omega⟩
theorem extra_in {s : ByteArray} {p : Nat} {x : ByteArray} {e : Nat} (h : extraAt s p = .ok (x, e)) : p < e ∧ e ≤ s.size := by
  unfold extraAt at h
  split at h
  · cases h
  · split at h
    · cases h
    · cases h
      exact ⟨by omega, by omega⟩
theorem perhaps_in {s : ByteArray} {b : Bool} {p : Nat} {r : Except Bad (ByteArray × Nat)} {x : ByteArray} {e : Nat} (h : perhaps b p r = .ok (x, e)) (hp : p ≤ s.size) (hr : r = .ok (x, e) → p < e ∧ e ≤ s.size) : p ≤ e ∧ e ≤ s.size := by
  unfold perhaps at h
  split at h
  · have := hr h
    exact ⟨by omega, by omega⟩
  · cases h
    exact ⟨Nat.le_refl _, hp⟩
theorem texts_in {s : ByteArray} {p f : Nat} {x n c : ByteArray} {e : Nat} (h : textsAt s p f = .ok (x, n, c, e)) (hp : p ≤ s.size) : p ≤ e ∧ e ≤ s.size := by
  unfold textsAt at h
  split at h
  · cases h
  · rename_i x1 p1 h1
    have k1 := perhaps_in h1 hp extra_in
    split at h
    · cases h
    · rename_i n1 p2 h2
      have k2 := perhaps_in h2 k1.2 (fun g => ⟨(name_in g).1, (name_in g).2.1⟩)
      split at h
      · cases h
      · rename_i c1 p3 h3
        have k3 := perhaps_in h3 k2.2 (fun g => ⟨(name_in g).1, (name_in g).2.1⟩)
        cases h
        exact ⟨by omega, k3.2⟩
theorem head_in {s : ByteArray} {p f : Nat} (h : headAt s p = .ok f) : p + 10 ≤ s.size ∧ f ≤ 31 ∧ f = Bt.byteN s (p + 3) ∧ Bt.byteN s p = 31 ∧ Bt.byteN s (p + 1) = 139 ∧ Bt.byteN s (p + 2) = 8 := by
  unfold headAt at h
  split at h
  · cases h
  · rename_i h0
    split at h
    · cases h
    · split at h
      · cases h
      · split at h
        · cases h
        · cases h
          rename_i h8 h31
          exact ⟨by omega, by omega, rfl, by omega, by omega, by omega⟩
theorem sumAt_in {s : ByteArray} {p q : Nat} {b : Bool} {e : Nat} (h : sumAt s p q b = .ok e) (hq : q ≤ s.size) : q ≤ e ∧ e ≤ s.size := by
  unfold sumAt at h
  split at h
  · split at h
    · cases h
    · split at h
      · cases h
      · cases h
        exact ⟨by omega, by omega⟩
  · cases h
    exact ⟨Nat.le_refl _, hq⟩
theorem pack_in {s : ByteArray} {p most : Nat} {S : ByteArray} {e : Nat} (h : packR s p most (.ok (S, e))) : p + 8 ≤ e ∧ e ≤ s.size ∧ S.size ≤ most := by
  obtain ⟨S1, N, C, A, _, hm, hN, hr⟩ := h
  split at hr
  · cases hr
  · rename_i hC
    have := hN (by omega)
    split at hr
    · cases hr
    · split at hr
      · cases hr
      · split at hr
        · cases hr
        · cases hr
          exact ⟨by omega, by omega, hm⟩
theorem part_in {s : ByteArray} {p most : Nat} {x : Part} {e : Nat} (h : partR s p most (.ok (x, e))) : p + 18 ≤ e ∧ e ≤ s.size ∧ x.data.size ≤ most := by
  unfold partR at h
  split at h
  · cases h
  · rename_i f hf
    have k0 := head_in hf
    split at h
    · cases h
    · rename_i x1 n1 c1 p1 ht
      have k1 := texts_in ht k0.1
      split at h
      · cases h
      · rename_i p2 hs
        have k2 := sumAt_in hs k1.2
        obtain ⟨q, hq, hr⟩ := h
        split at hr
        · cases hr
        · rename_i S e1
          cases hr
          have k3 := pack_in hq
          exact ⟨by omega, k3.2.1, k3.2.2⟩
end Gz
end Go.Proofs.YtffjkceedbblgaaGreatDoor

/- Parts of a file that stands in another one, at whatever place: plain facts; no condition beside those told. -/
namespace Go.Proofs.YtffjkceedbblgaaGreatDoor
namespace Gz

/-- The bytes s stand in t at the place o. -/
structure Win (s t : ByteArray) (o : Nat) : Prop where
  size : o + s.size ≤ t.size
  byte : ∀ i, i < s.size → Bt.byteN t (o + i) = Bt.byteN s i

theorem byteN_get (s : ByteArray) (i : Nat) (h : i < s.size) : s[i].toNat = Bt.byteN s i := by
  unfold Bt.byteN
  rw [Array.getD_eq_getD_getElem?, Array.getElem?_eq_getElem h, Option.getD_some]
  rfl
theorem ext_byteN {s t : ByteArray} (h0 : s.size = t.size) (h : ∀ i, i < s.size → Bt.byteN s i = Bt.byteN t i) : s = t := by
  refine ByteArray.ext_getElem h0 (fun i hi hi' => ?_)
  apply UInt8.toNat_inj.1
  rw [byteN_get, byteN_get]
  exact h i hi
theorem byteN_extract (s : ByteArray) (p q i : Nat) (hq : q ≤ s.size) (hi : p + i < q) : Bt.byteN (s.extract p q) i = Bt.byteN s (p + i) := by
  have h1 : i < (s.extract p q).size := by rw [ByteArray.size_extract]; omega
  rw [← byteN_get _ _ h1, ← byteN_get s (p + i) (by omega), ByteArray.getElem_extract]
theorem byteN_left (a b : ByteArray) (i : Nat) (h : i < a.size) : Bt.byteN (a ++ b) i = Bt.byteN a i := by
  have h1 : i < (a ++ b).size := by rw [ByteArray.size_append]; omega
  rw [← byteN_get _ _ h1, ← byteN_get a i h, ByteArray.getElem_append_left h]
theorem byteN_right (a b : ByteArray) (i : Nat) (h : i < b.size) : Bt.byteN (a ++ b) (a.size + i) = Bt.byteN b i := by
  have h1 : a.size + i < (a ++ b).size := by rw [ByteArray.size_append]; omega
  rw [← byteN_get _ _ h1, ← byteN_get b i h, ByteArray.getElem_append_right (by omega)]
  simp
theorem Win.left (a b : ByteArray) : Win a (a ++ b) 0 := ⟨by rw [ByteArray.size_append]; omega, fun i hi => by rw [Nat.zero_add]; exact byteN_left a b i hi⟩
theorem Win.right (a b : ByteArray) : Win b (a ++ b) a.size := ⟨by rw [ByteArray.size_append]; omega, fun i hi => byteN_right a b i hi⟩

theorem Win.extract {s t : ByteArray} {o : Nat} (h : Win s t o) (p q : Nat) (hq : q ≤ s.size) : t.extract (o + p) (o + q) = s.extract p q := by
  have hz := h.size
  refine ext_byteN (by rw [ByteArray.size_extract, ByteArray.size_extract]; omega) (fun i hi => ?_)
  rw [ByteArray.size_extract] at hi
  rw [byteN_extract _ _ _ _ (by omega) (by omega), byteN_extract _ _ _ _ hq (by omega), Nat.add_assoc]
  exact h.byte (p + i) (by omega)
theorem Win.rest {s t : ByteArray} {o : Nat} (h : Win s t o) (p : Nat) (hp : p ≤ s.size) : t.extract (o + p) t.size = s.extract p s.size ++ t.extract (o + s.size) t.size := by
  rw [← h.extract p s.size (Nat.le_refl _)]
  exact ByteArray.extract_eq_extract_append_extract (o + s.size) (by omega) h.size
theorem Win.num {s t : ByteArray} {o : Nat} (h : Win s t o) : ∀ n p, p + n ≤ s.size → num t (o + p) n = num s p n
  | 0, _, _ => rfl
  | n + 1, p, hn => by
    have := h.num n (p + 1) (by omega)
    rw [Gz.num, Gz.num, h.byte p (by omega), ← Nat.add_assoc] at *
    rw [this]
theorem Win.zf {s t : ByteArray} {o : Nat} (h : Win s t o) : ∀ n p k, p + n ≤ s.size → (∀ z, zf s n p = some z → zf t (n + k) (o + p) = some (o + z)) ∧ (zf s n p = none → k = 0 → zf t n (o + p) = none)
  | 0, p, k, _ => ⟨fun z hz => by simp [Gz.zf] at hz, fun _ _ => rfl⟩
  | n + 1, p, k, hn => by
    have ih := h.zf n (p + 1) k (by omega)
    refine ⟨fun z hz => ?_, fun hz hk => ?_⟩
    · rw [show n + 1 + k = (n + k) + 1 by omega, Gz.zf, h.byte p (by omega)]
      rw [Gz.zf] at hz
      split at hz
      · cases hz
        rw [if_pos (by assumption)]
      · rw [if_neg (by assumption)]
        exact ih.1 z hz
    · rw [Gz.zf, h.byte p (by omega)]
      rw [Gz.zf] at hz
      split at hz
      · cases hz
      · rw [if_neg (by assumption)]
        exact ih.2 hz hk
theorem Win.zero {s t : ByteArray} {o p z : Nat} (h : Win s t o) (hp : p ≤ s.size) (hz : zeroAt s p = some z) : zeroAt t (o + p) = some (o + z) := by
  have hs := h.size
  have := (h.zf (s.size - p) p (t.size - (o + p) - (s.size - p)) (by omega)).1 z hz
  rw [show s.size - p + (t.size - (o + p) - (s.size - p)) = t.size - (o + p) by omega] at this
  exact this
theorem Win.zeroNo {s t : ByteArray} {o p : Nat} (h : Win s t o) (he : o + s.size = t.size) (hp : p ≤ s.size) (hz : zeroAt s p = none) : zeroAt t (o + p) = none := by
  have := (h.zf (s.size - p) p 0 (by omega)).2 hz rfl
  unfold zeroAt
  rw [show t.size - (o + p) = s.size - p by omega]
  exact this

/-! ### What is there is there -/
theorem Win.name {s t : ByteArray} {o p : Nat} (h : Win s t o) (hp : p ≤ s.size) {x : ByteArray} {e : Nat} (k : nameAt s p = .ok (x, e)) : nameAt t (o + p) = .ok (x, o + e) := by
  unfold nameAt at k ⊢
  cases hz : zeroAt s p with
  | none => rw [hz] at k; cases k
  | some z =>
    have hin := zero_in hz
    rw [hz] at k
    rw [h.zero hp hz]
    simp only at k ⊢
    rw [show o + z - (o + p) = z - p by omega]
    split at k
    · cases k
    · rw [if_neg (by assumption)]
      cases k
      rw [h.extract p z (by omega), Nat.add_assoc]
theorem Win.nameNo {s t : ByteArray} {o p : Nat} (h : Win s t o) (he : o + s.size = t.size) (hp : p ≤ s.size) {c a : Nat} (k : nameAt s p = .error (c, a)) : nameAt t (o + p) = .error (c, o + a) := by
  unfold nameAt at k ⊢
  cases hz : zeroAt s p with
  | none =>
    rw [hz] at k
    rw [h.zeroNo he hp hz]
    cases k
    rfl
  | some z =>
    have hin := zero_in hz
    rw [hz] at k
    rw [h.zero hp hz]
    simp only at k ⊢
    rw [show o + z - (o + p) = z - p by omega]
    split at k
    · rw [if_pos (by assumption)]
      cases k
      rfl
    · cases k
theorem Win.extra {s t : ByteArray} {o p : Nat} (h : Win s t o) {x : ByteArray} {e : Nat} (k : extraAt s p = .ok (x, e)) : extraAt t (o + p) = .ok (x, o + e) := by
  have hs := h.size
  unfold extraAt at k ⊢
  split at k
  · cases k
  · rename_i h1
    rw [if_neg (by omega), h.num 2 p (by omega)]
    split at k
    · cases k
    · rw [if_neg (by omega)]
      cases k
      rw [Nat.add_assoc o p 2, Nat.add_assoc o (p + 2), h.extract _ _ (by omega)]
theorem Win.extraNo {s t : ByteArray} {o p : Nat} (h : Win s t o) (he : o + s.size = t.size) {c a : Nat} (k : extraAt s p = .error (c, a)) : extraAt t (o + p) = .error (c, o + a) := by
  unfold extraAt at k ⊢
  split at k
  · cases k
    rw [if_pos (by omega)]
  · rename_i h1
    rw [if_neg (by omega), h.num 2 p (by omega)]
    split at k
    · cases k
      rw [if_pos (by omega)]
    · cases k
theorem Win.head {s t : ByteArray} {o p f : Nat} (h : Win s t o) (k : headAt s p = .ok f) : headAt t (o + p) = .ok f := by
  have hs := h.size
  obtain ⟨h1, h2, h3, h4, h5, h6⟩ := head_in k
  have b0 := h.byte p (by omega)
  have b1 := h.byte (p + 1) (by omega)
  have b2 := h.byte (p + 2) (by omega)
  have b3 := h.byte (p + 3) (by omega)
  rw [← Nat.add_assoc] at b1 b2 b3
  unfold headAt
  rw [b0, b1, b2, b3, if_neg (by omega), if_neg (by omega), if_neg (by omega), if_neg (by omega), h3]
theorem Win.headNo {s t : ByteArray} {o p : Nat} (h : Win s t o) (he : o + s.size = t.size) (_hp : p ≤ s.size) {c a : Nat} (k : headAt s p = .error (c, a)) : headAt t (o + p) = .error (c, o + a) := by
  unfold headAt at k ⊢
  split at k
  · rename_i h1
    cases k
    by_cases h2 : s.size < p + 2
    · rw [if_pos (.inl (by omega))]
    · have b0 := h.byte p (by omega)
      have b1 := h.byte (p + 1) (by omega)
      rw [← Nat.add_assoc] at b1
      rw [b0, b1, if_pos (by omega)]
  · rename_i h1
    have b0 := h.byte p (by omega)
    have b1 := h.byte (p + 1) (by omega)
    rw [← Nat.add_assoc] at b1
    rw [b0, b1, if_neg (by omega)]
    split at k
    · cases k
      rw [if_pos (by omega)]
    · rename_i h2
      have b2 := h.byte (p + 2) (by omega)
      have b3 := h.byte (p + 3) (by omega)
      rw [← Nat.add_assoc] at b2 b3
      rw [b2, b3, if_neg (by omega)]
      split at k
      · cases k
        rw [if_pos (by assumption), Nat.add_assoc]
      · rw [if_neg (by assumption)]
        split at k
        · cases k
          rw [if_pos (by assumption), Nat.add_assoc]
        · cases k
theorem perhaps_win {b : Bool} {o p : Nat} {r r2 : Except Bad (ByteArray × Nat)} {x : ByteArray} {e : Nat} (h : perhaps b p r = .ok (x, e)) (hr : r = .ok (x, e) → r2 = .ok (x, o + e)) : perhaps b (o + p) r2 = .ok (x, o + e) := by
  unfold perhaps at h ⊢
  split at h
  · rw [if_pos (by assumption)]
    exact hr h
  · rw [if_neg (by assumption)]
    cases h
    rfl
theorem perhaps_winNo {b : Bool} {o p : Nat} {r r2 : Except Bad (ByteArray × Nat)} {c a : Nat} (h : perhaps b p r = .error (c, a)) (hr : r = .error (c, a) → r2 = .error (c, o + a)) : perhaps b (o + p) r2 = .error (c, o + a) := by
  unfold perhaps at h ⊢
  split at h
  · rw [if_pos (by assumption)]
    exact hr h
  · cases h
theorem Win.texts {s t : ByteArray} {o p f : Nat} (h : Win s t o) (hp : p ≤ s.size) {x n c : ByteArray} {e : Nat} (k : textsAt s p f = .ok (x, n, c, e)) : textsAt t (o + p) f = .ok (x, n, c, o + e) := by
  unfold textsAt at k ⊢
  split at k
  · cases k
  · rename_i x1 p1 h1
    have k1 := perhaps_in h1 hp extra_in
    rw [perhaps_win h1 h.extra]
    simp only
    split at k
    · cases k
    · rename_i n1 p2 h2
      have k2 := perhaps_in h2 k1.2 (fun g => ⟨(name_in g).1, (name_in g).2.1⟩)
      rw [perhaps_win h2 (h.name k1.2)]
      simp only
      split at k
      · cases k
      · rename_i c1 p3 h3
        rw [perhaps_win h3 (h.name k2.2)]
        cases k
        rfl
theorem Win.textsNo {s t : ByteArray} {o p f : Nat} (h : Win s t o) (he : o + s.size = t.size) (hp : p ≤ s.size) {c a : Nat} (k : textsAt s p f = .error (c, a)) : textsAt t (o + p) f = .error (c, o + a) := by
  unfold textsAt at k ⊢
  split at k
  · rename_i h1
    cases k
    rw [perhaps_winNo h1 (h.extraNo he)]
  · rename_i x1 p1 h1
    have k1 := perhaps_in h1 hp extra_in
    rw [perhaps_win h1 h.extra]
    simp only
    split at k
    · rename_i h2
      cases k
      rw [perhaps_winNo h2 (h.nameNo he k1.2)]
    · rename_i n1 p2 h2
      have k2 := perhaps_in h2 k1.2 (fun g => ⟨(name_in g).1, (name_in g).2.1⟩)
      rw [perhaps_win h2 (h.name k1.2)]
      simp only
      split at k
      · rename_i h3
        cases k
        rw [perhaps_winNo h3 (h.nameNo he k2.2)]
      · cases k
theorem Win.sumAt {s t : ByteArray} {o p q : Nat} {b : Bool} (h : Win s t o) (hq : q ≤ s.size) {e : Nat} (k : sumAt s p q b = .ok e) : sumAt t (o + p) (o + q) b = .ok (o + e) := by
  have hs := h.size
  unfold Gz.sumAt at k ⊢
  split at k
  · rw [if_pos (by assumption)]
    split at k
    · cases k
    · rw [if_neg (by omega), h.num 2 q (by omega), h.extract p q hq]
      split at k
      · cases k
      · rw [if_neg (by assumption)]
        cases k
        rw [Nat.add_assoc]
  · rw [if_neg (by assumption)]
    cases k
    rfl
theorem Win.sumNo {s t : ByteArray} {o p q : Nat} {b : Bool} (h : Win s t o) (he : o + s.size = t.size) (hq : q ≤ s.size) {c a : Nat} (k : Gz.sumAt s p q b = .error (c, a)) : Gz.sumAt t (o + p) (o + q) b = .error (c, o + a) := by
  unfold Gz.sumAt at k ⊢
  split at k
  · rw [if_pos (by assumption)]
    split at k
    · cases k
      rw [if_pos (by omega)]
    · rw [if_neg (by omega), h.num 2 q (by omega), h.extract p q hq]
      split at k
      · rw [if_pos (by assumption)]
        cases k
        rfl
      · cases k
  · cases k
theorem Win.partOf {s t : ByteArray} {o p : Nat} (h : Win s t o) (hp : p + 10 ≤ s.size) (f : Nat) (x n c S : ByteArray) : partOf t (o + p) f x n c S = partOf s p f x n c S := by
  unfold Gz.partOf
  rw [Nat.add_assoc, Nat.add_assoc, Nat.add_assoc, h.num 4 (p + 4) (by omega), h.byte (p + 8) (by omega), h.byte (p + 9) (by omega)]
end Gz
end Go.Proofs.YtffjkceedbblgaaGreatDoor
