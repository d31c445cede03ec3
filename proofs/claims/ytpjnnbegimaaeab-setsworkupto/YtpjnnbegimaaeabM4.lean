/- Texts of this proof, one behind the other: what each says stands ahead of it. -/
import Derived.Test.YtpjnnbegimaaeabM3
import Derived.Test.YtpjnnbegimaaeabM2
/- Same and the law's same: are two lists of ranges one; no condition beside those told. -/
namespace Go.Proofs.Ytpjnnbegimaaeab
open Go.RowKit

theorem list_part (l m : List R2) (k : Nat) (h1 : k < l.length) (h2 : k < m.length) (h : l[k] ≠ m[k]) : decide (l = m) = false := decide_eq_false (fun e => by subst e; exact h rfl)
theorem list_len (l m : List R2) (h : l.length ≠ m.length) : decide (l = m) = false := decide_eq_false (fun e => by subst e; exact h rfl)
theorem list_all (l m : List R2) (h : l.length = m.length) (hh : ∀ t (h1 : t < l.length) (h2 : t < m.length), l[t] = m[t]) : decide (l = m) = true := decide_eq_true (List.ext_getElem h hh)

set_option maxRecDepth 100000 in
set_option maxHeartbeats 4000000 in
theorem equal_any (a a' : Option Addr) (c c' : Nat) (l m : List R2) (w : World) (h : Rg w a l) (h' : Rg w a' m) (hb' : m.length ≤ 140737488351232) :
    Calls Try.prog 27 #[.slice a l.length c, .slice a' m.length c'] w fun e w' => e = .returned (.bool (decide (l = m))) ∧ Touch (fun _ => False) w w' := by
  have HL := hid h
  have HL' := hid h'
  clear h h'
  go_enter Try.func27, Try.ntmps27
  by_cases hlen : l.length = m.length
  · obtain ⟨N, hN⟩ : ∃ N, N = m.length := ⟨_, rfl⟩
    have HN := hid hN
    have HLEN := hid hlen
    rw [hlen, ← hN]
    rw [← hN] at hb'
    clear hN hlen
    go_wp2_with fail
    go_loopg [13] N (fun gk i wr => ∃ k : Nat, k + gk = N ∧ i = .int .i64 (k : Nat) ∧ (∀ t (_ : t < k) (h1 : t < l.length) (h2 : t < m.length), l[t] = m[t]) ∧ Touch (fun _ => False) w wr)
    case atStart => exact ⟨0, by omega, rfl, fun t ht => absurd ht (Nat.not_lt_zero _), Touch.refl _ _⟩
    case round =>
      obtain ⟨k, hk, rfl, hall, htc⟩ := hrel
      have TC := hid htc
      have HALL := hid hall
      have R1 := hid (HL.out.new htc)
      have R2 := hid (HL'.out.new htc)
      clear htc hall
      by_cases hlt : k < N
      · have hk1 : k < l.length := by have := HN.out; have := HLEN.out; omega
        have hk2 : k < m.length := by have := HN.out; omega
        obtain ⟨b, o, ha, hbl, hcell⟩ : ∃ b o, a = some ⟨b, o, none⟩ ∧ b < wr.heap.size ∧ ∀ i (h : i < l.length), wr.cell? ⟨b, o + i * 2, none⟩ = some (.int .i64 (l[i]).1) ∧ wr.cell? ⟨b, o + i * 2 + 1, none⟩ = some (.int .i64 (l[i]).2) := by
          rcases R1.out with h | h
          · rw [h] at hk1; simp at hk1
          · exact h
        obtain ⟨b', o', ha', hbl', hcell'⟩ : ∃ b o, a' = some ⟨b, o, none⟩ ∧ b < wr.heap.size ∧ ∀ i (h : i < m.length), wr.cell? ⟨b, o + i * 2, none⟩ = some (.int .i64 (m[i]).1) ∧ wr.cell? ⟨b, o + i * 2 + 1, none⟩ = some (.int .i64 (m[i]).2) := by
          rcases R2.out with h | h
          · rw [h] at hk2; simp at hk2
          · exact h
        subst ha
        subst ha'
        obtain ⟨d0, d1⟩ := hcell k hk1
        obtain ⟨e0, e1⟩ := hcell' k hk2
        have HP := hid (list_part l m k hk1 hk2)
        have HNX := hid (show l[k] = m[k] → ∀ t (_ : t < k + 1) (h1 : t < l.length) (h2 : t < m.length), l[t] = m[t] from fun e t ht h1 h2 => by
          rcases Nat.lt_or_ge t k with q | q
          · exact HALL.out t q h1 h2
          · obtain rfl : t = k := by omega
            exact e)
        obtain ⟨r, hr⟩ : ∃ r, r = l[k] := ⟨_, rfl⟩
        obtain ⟨r', hr'⟩ : ∃ r, r = m[k] := ⟨_, rfl⟩
        rw [← hr, ← hr'] at HP HNX
        rw [← hr] at d0 d1
        rw [← hr'] at e0 e1
        obtain ⟨x, y⟩ := r
        obtain ⟨x', y'⟩ := r'
        dsimp only at d0 d1 e0 e1
        have hkI : (k : Int) < (N : Int) := by omega
        clear hcell hcell' hr hr' R1 R2 hk1 hk2
        by_cases hx : x = x'
        · by_cases hy : y = y'
          · subst hx
            subst hy
            go_wp2_with fail
            go_quiet (fail)
            go_wp2
            go_roundg (gk - 1)
            case measure => omega
            case rel => exact ⟨k + 1, by omega, by go_num, HNX.out (by first | exact rfl | trivial), TC.out.drewN _⟩
          · subst hx
            have HD := hid (HP.out (fun e => hy (by injection e)))
            have hyd : (y == y') = false := by simp [hy]
            go_wp2_with fail
            go_quiet (fail)
            go_wp2
            go_ret
            rw [HD.out]
            exact ⟨rfl, TC.out.drewN _⟩
        · have HD := hid (HP.out (fun e => hx (by injection e)))
          have hxd : (x == x') = false := by simp [hx]
          go_wp2_with fail
          go_quiet (fail)
          go_wp2
          go_ret
          rw [HD.out]
          exact ⟨rfl, TC.out.drewN _⟩
      · obtain rfl : k = N := by omega
        have HD := hid (list_all l m HLEN.out (fun t h1 h2 => HALL.out t (by have := HN.out; omega) h1 h2))
        go_wp2
        go_ret
        rw [HD.out]
        exact ⟨rfl, TC.out⟩
  · have HD := hid (list_len l m hlen)
    have hd : ((l.length : Int) == (m.length : Int)) = false := by simp; omega
    have hI : ¬ (l.length : Int) = (m.length : Int) := by omega
    clear hlen
    go_wp2
    go_ret
    rw [HD.out]
    exact ⟨rfl, Touch.refl _ _⟩

set_option maxRecDepth 100000 in
theorem same_any (a a' : Option Addr) (c c' : Nat) (l m : List R2) (w : World) (h : Rg w a l) (h' : Rg w a' m) (hb' : m.length ≤ 140737488351232) :
    Calls Try.prog 15 #[.slice a l.length c, .slice a' m.length c'] w fun e w' => e = .returned (.bool (decide (l = m))) ∧ Touch (fun _ => False) w w' := by
  have K := hid (equal_any a a' c c' l m w h h' hb')
  clear h h'
  go_enter Try.func15, Try.ntmps15
  go_wp2_with fail
  refine K.out.mono ?_
  rintro e w1 ⟨rfl, tc⟩
  have TC := hid tc
  clear tc K
  go_wp2
  go_ret
  exact ⟨rfl, TC.out⟩

set_option maxRecDepth 100000 in
set_option maxHeartbeats 4000000 in
theorem lawSame_any (a a' : Option Addr) (c c' : Nat) (l m : List R2) (w : World) (h : Rg w a l) (h' : Rg w a' m) (hc : Canon l) (hc' : Canon m) :
    Calls Try.prog 17 #[.slice a l.length c, .slice a' m.length c'] w fun e w' => e = .returned (.bool (decide (l = m))) ∧ Touch (fun _ => False) w w' := by
  have hb := canon_len hc
  have hb' := canon_len hc'
  have HL := hid h
  have HL' := hid h'
  have HC := hid hc
  have HC' := hid hc'
  clear h h' hc hc'
  go_enter Try.func17, Try.ntmps17
  by_cases hlen : l.length = m.length
  · obtain ⟨N, hN⟩ : ∃ N, N = m.length := ⟨_, rfl⟩
    have HN := hid hN
    have HLEN := hid hlen
    rw [hlen, ← hN]
    rw [← hN] at hb'
    clear hN hlen hb
    go_wp2_with fail
    go_loopg [5, 6] N (fun gk n i wr => ∃ k : Nat, k + gk = N ∧ i = .int .i64 (k : Nat) ∧ n = .int .i64 (sizeL (m.take k)) ∧ (∀ t (_ : t < k) (h1 : t < l.length) (h2 : t < m.length), l[t] = m[t]) ∧ Touch (fun _ => False) w wr)
    case atStart => exact ⟨0, by omega, rfl, rfl, fun t ht => absurd ht (Nat.not_lt_zero _), Touch.refl _ _⟩
    case round =>
      obtain ⟨k, hk, rfl, rfl, hall, htc⟩ := hrel
      have TC := hid htc
      have HALL := hid hall
      have R1 := hid (HL.out.new htc)
      have R2 := hid (HL'.out.new htc)
      clear htc hall
      by_cases hlt : k < N
      · have hk1 : k < l.length := by have := HN.out; have := HLEN.out; omega
        have hk2 : k < m.length := by have := HN.out; omega
        have hsz := size_take HC'.out.in_ k (by omega)
        have hr1 := HC'.out.in_ m[k] (List.getElem_mem _)
        unfold inB at hr1
        have HST := hid (size_step hk2)
        obtain ⟨b, o, ha, hbl, hcell⟩ : ∃ b o, a = some ⟨b, o, none⟩ ∧ b < wr.heap.size ∧ ∀ i (h : i < l.length), wr.cell? ⟨b, o + i * 2, none⟩ = some (.int .i64 (l[i]).1) ∧ wr.cell? ⟨b, o + i * 2 + 1, none⟩ = some (.int .i64 (l[i]).2) := by
          rcases R1.out with h | h
          · rw [h] at hk1; simp at hk1
          · exact h
        obtain ⟨b', o', ha', hbl', hcell'⟩ : ∃ b o, a' = some ⟨b, o, none⟩ ∧ b < wr.heap.size ∧ ∀ i (h : i < m.length), wr.cell? ⟨b, o + i * 2, none⟩ = some (.int .i64 (m[i]).1) ∧ wr.cell? ⟨b, o + i * 2 + 1, none⟩ = some (.int .i64 (m[i]).2) := by
          rcases R2.out with h | h
          · rw [h] at hk2; simp at hk2
          · exact h
        subst ha
        subst ha'
        obtain ⟨d0, d1⟩ := hcell k hk1
        obtain ⟨e0, e1⟩ := hcell' k hk2
        have HP := hid (list_part l m k hk1 hk2)
        have HNX := hid (show l[k] = m[k] → ∀ t (_ : t < k + 1) (h1 : t < l.length) (h2 : t < m.length), l[t] = m[t] from fun e t ht h1 h2 => by
          rcases Nat.lt_or_ge t k with q | q
          · exact HALL.out t q h1 h2
          · obtain rfl : t = k := by omega
            exact e)
        obtain ⟨r, hr⟩ : ∃ r, r = l[k] := ⟨_, rfl⟩
        obtain ⟨r', hr'⟩ : ∃ r, r = m[k] := ⟨_, rfl⟩
        rw [← hr, ← hr'] at HP HNX
        rw [← hr] at d0 d1
        rw [← hr'] at e0 e1 hr1 HST
        obtain ⟨x, y⟩ := r
        obtain ⟨x', y'⟩ := r'
        dsimp only at d0 d1 e0 e1 hr1 HST
        obtain ⟨z, hz⟩ : ∃ z, z = sizeL (m.take k) := ⟨_, rfl⟩
        rw [← hz] at HST hsz ⊢
        have hkI : (k : Int) < (N : Int) := by omega
        clear hcell hcell' hr hr' R1 R2 hk1 hk2 hz
        by_cases hx : x = x'
        · by_cases hy : y = y'
          · subst hx
            subst hy
            go_wp2_with fail
            go_quiet (fail)
            go_wp2_with fail
            go_quiet (fail)
            go_wp2
            go_roundg (gk - 1)
            case measure => omega
            case rel => exact ⟨k + 1, by omega, by go_num, by rw [HST.out]; (try go_num), HNX.out (by first | exact rfl | trivial), TC.out.drewN _⟩
          · subst hx
            have HD := hid (HP.out (fun e => hy (by injection e)))
            have hyd : (y == y') = false := by simp [hy]
            go_wp2_with fail
            go_quiet (fail)
            go_wp2
            go_ret
            rw [HD.out]
            exact ⟨rfl, TC.out.drewN _⟩
        · have HD := hid (HP.out (fun e => hx (by injection e)))
          have hxd : (x == x') = false := by simp [hx]
          go_wp2_with fail
          go_quiet (fail)
          go_wp2
          go_ret
          rw [HD.out]
          exact ⟨rfl, TC.out.drewN _⟩
      · obtain rfl : k = N := by omega
        have hD := list_all l m HLEN.out (fun t h1 h2 => HALL.out t (by have := HN.out; omega) h1 h2)
        have hlm : l = m := of_decide_eq_true hD
        have HD := hid hD
        have KS := hid (size_says a c l wr (HL.out.new TC.out) HC.out)
        rw [hlm] at KS
        rw [HN.out, List.take_length]
        clear hD hlm
        go_wp2_with fail
        refine KS.out.mono ?_
        rintro e w2 ⟨rfl, tq⟩
        have T2 := hid (TC.out.trans tq (fun _ _ e => e))
        clear tq KS
        go_wp2
        go_ret
        rw [HD.out]
        exact ⟨by simp, T2.out⟩
  · have HD := hid (list_len l m hlen)
    have hd : ((l.length : Int) == (m.length : Int)) = false := by simp; omega
    have hI : ¬ (l.length : Int) = (m.length : Int) := by omega
    clear hlen
    go_wp2
    go_ret
    rw [HD.out]
    exact ⟨rfl, Touch.refl _ _⟩
end Go.Proofs.Ytpjnnbegimaaeab

/- The document's edges and its list of ranges, plain facts; no condition beside those told. -/
namespace Go.Proofs.Ytpjnnbegimaaeab

/-- One round of the search for the next edge. -/
def estep (last next : Int) (r : R2) : Int :=
  let n1 := if last < r.1 ∧ r.1 < next then r.1 else next
  if last ≤ r.2 ∧ r.2 < n1 - 1 then r.2 + 1 else n1
def nextE (last : Int) (l : List R2) : Int := l.foldl (estep last) 1114112

/-- From a number up to another one nothing changes. -/
def Flat (l : List R2) (a b : Int) : Prop := ∀ r ∈ l, ∀ x, a ≤ x → x < b → ((r.1 ≤ x ∧ x ≤ r.2) ↔ (r.1 ≤ a ∧ a ≤ r.2))

theorem estep_le (last next : Int) (r : R2) : estep last next r ≤ next := by
  unfold estep
  dsimp only
  split <;> split <;> omega
theorem estep_gt (last next : Int) (r : R2) (h : last < next) : last < estep last next r := by
  unfold estep
  dsimp only
  split <;> split <;> omega
theorem estep_flat (last next : Int) (r : R2) : ∀ x, last ≤ x → x < estep last next r → ((r.1 ≤ x ∧ x ≤ r.2) ↔ (r.1 ≤ last ∧ last ≤ r.2)) := by
  intro x h1 h2
  unfold estep at h2
  dsimp only at h2
  split at h2 <;> split at h2 <;> omega

theorem fold_edge : ∀ (l : List R2) (last next : Int), last < next → l.foldl (estep last) next ≤ next ∧ last < l.foldl (estep last) next ∧ Flat l last (l.foldl (estep last) next)
  | [], last, next, h => ⟨Int.le_refl _, h, fun r hr => by simp at hr⟩
  | r :: l, last, next, h => by
    obtain ⟨h1, h2, h3⟩ := fold_edge l last (estep last next r) (estep_gt last next r h)
    have h4 := estep_le last next r
    rw [List.foldl_cons]
    refine ⟨by omega, h2, fun q hq x hx1 hx2 => ?_⟩
    rcases List.mem_cons.1 hq with rfl | hq
    · exact estep_flat last next q x hx1 (by omega)
    · exact h3 q hq x hx1 hx2

theorem nextE_good (last : Int) (l : List R2) (h : last < 1114112) : nextE last l ≤ 1114112 ∧ last < nextE last l ∧ Flat l last (nextE last l) := fold_edge l last 1114112 h

/-- Edges that rise from 0, and nothing changes between two of them. -/
structure Edgy (l : List R2) (e : List Int) : Prop where
  zero : e[0]? = some 0
  up : ∀ (i : Nat) (a b : Int), e[i]? = some a → e[i + 1]? = some b → a < b ∧ Flat l a b

theorem Edgy.low {l : List R2} {e : List Int} (h : Edgy l e) : ∀ (i : Nat) (a : Int), e[i]? = some a → (i : Int) ≤ a
  | 0, a, ha => by rw [h.zero] at ha; simp at ha; omega
  | i + 1, a, ha => by
    have hlt : i + 1 < e.length := by
      rcases Nat.lt_or_ge (i + 1) e.length with k | k
      · exact k
      · rw [List.getElem?_eq_none k] at ha; cases ha
    have hb : e[i]? = some e[i] := List.getElem?_eq_getElem (by omega)
    have h1 := h.low i _ hb
    have h2 := (h.up i _ _ hb ha).1
    omega
theorem Edgy.one (l : List R2) : Edgy l [0] := ⟨rfl, fun i a b _ hb => by simp at hb⟩
theorem Edgy.more {l : List R2} {e : List Int} {last n : Int} (h : Edgy l (e ++ [last])) (hn : last < n) (hf : Flat l last n) : Edgy l (e ++ [last] ++ [n]) := by
  refine ⟨?_, fun i a b ha hb => ?_⟩
  · have := h.zero
    rw [List.getElem?_append_left (by simp)]
    exact this
  · have hlt : i + 1 < (e ++ [last] ++ [n]).length := by
      rcases Nat.lt_or_ge (i + 1) (e ++ [last] ++ [n]).length with k | k
      · exact k
      · rw [List.getElem?_eq_none k] at hb; cases hb
    simp only [List.length_append, List.length_cons, List.length_nil] at hlt
    rcases Nat.lt_or_ge (i + 1) (e.length + 1) with k | k
    · rw [List.getElem?_append_left (by simp; omega)] at ha hb
      exact h.up i a b ha hb
    · obtain rfl : i = e.length := by omega
      rw [List.getElem?_append_left (by simp), List.getElem?_append_right (Nat.le_refl _)] at ha
      rw [List.getElem?_append_right (by simp)] at hb
      simp at ha hb
      subst ha
      subst hb
      exact ⟨hn, hf⟩

/-! ### The list of ranges -/
/-- One range behind a list, joined to the last one if they touch. -/
def addR (o : List R2) (a b : Int) : List R2 :=
  match o.getLast? with
  | some t => if t.2 = a - 1 then o.dropLast ++ [(t.1, b - 1)] else o ++ [(a, b - 1)]
  | none => [(a, b - 1)]
theorem addR_nil (a b : Int) : addR [] a b = [(a, b - 1)] := rfl
theorem addR_join (o : List R2) (t : R2) (a b : Int) (h : t.2 = a - 1) : addR (o ++ [t]) a b = o ++ [(t.1, b - 1)] := by
  unfold addR
  rw [List.getLast?_concat]
  simp [h]
theorem addR_more (o : List R2) (t : R2) (a b : Int) (h : ¬ t.2 = a - 1) : addR (o ++ [t]) a b = o ++ [t] ++ [(a, b - 1)] := by
  unfold addR
  rw [List.getLast?_concat]
  simp [h]

/-- The ranges so far: all below a number. -/
structure Upto (o : List R2) (a : Int) (p : Int → Prop) : Prop where
  canon : Canon o
  low : ∀ r ∈ o, r.2 < a
  in_ : ∀ x, In x o ↔ (0 ≤ x ∧ x < a) ∧ p x

theorem Upto.start (p : Int → Prop) : Upto [] 0 p := ⟨⟨by simp, .nil⟩, by simp, fun x => by
  constructor
  · exact fun h => absurd h (in_nil x)
  · rintro ⟨⟨h1, h2⟩, _⟩
    omega⟩
theorem Upto.skip {o : List R2} {a b : Int} {p : Int → Prop} (h : Upto o a p) (hab : a < b) (hp : ∀ x, a ≤ x → x < b → ¬ p x) : Upto o b p :=
  ⟨h.canon, fun r hr => by have := h.low r hr; omega, fun x => by
    rw [h.in_ x]
    constructor
    · exact fun k => ⟨⟨k.1.1, by omega⟩, k.2⟩
    · refine fun k => ⟨⟨k.1.1, ?_⟩, k.2⟩
      rcases Int.lt_or_le x a with q | q
      · exact q
      · exact absurd k.2 (hp x q k.1.2)⟩
theorem Upto.take {o : List R2} {a b : Int} {p : Int → Prop} (h : Upto o a p) (ha : 0 ≤ a) (hab : a < b) (hb : b ≤ 1114112) (hp : ∀ x, a ≤ x → x < b → p x) : Upto (addR o a b) b p := by
  have key : ∀ x, ((0 ≤ x ∧ x < a) ∧ p x) ∨ (a ≤ x ∧ x ≤ b - 1) ↔ (0 ≤ x ∧ x < b) ∧ p x := by
    intro x
    constructor
    · rintro (k | k)
      · exact ⟨⟨k.1.1, by omega⟩, k.2⟩
      · exact ⟨⟨by omega, by omega⟩, hp x k.1 (by omega)⟩
    · rintro ⟨⟨k1, k2⟩, k3⟩
      rcases Int.lt_or_le x a with q | q
      · exact .inl ⟨⟨k1, q⟩, k3⟩
      · exact .inr ⟨q, by omega⟩
  rcases List.eq_nil_or_concat o with e | ⟨o0, t, e⟩
  · subst e
    rw [addR_nil]
    refine ⟨⟨?_, List.pairwise_singleton _ _⟩, ?_, fun x => ?_⟩
    · intro r hr
      simp at hr
      subst hr
      unfold inB
      dsimp only
      omega
    · intro r hr
      simp at hr
      subst hr
      dsimp only
      omega
    · rw [in_one, ← key x, ← h.in_ x]
      dsimp only
      constructor
      · exact .inr
      · rintro (k | k)
        · exact absurd k (in_nil x)
        · exact k
  · rw [List.concat_eq_append] at e
    subst e
    obtain ⟨t1, t2⟩ := t
    have ht := h.canon.in_ (t1, t2) (by simp)
    have hl := h.low (t1, t2) (by simp)
    have hup := List.pairwise_append.1 h.canon.up
    unfold inB at ht
    dsimp only at ht hl
    by_cases c : t2 = a - 1
    · rw [addR_join o0 (t1, t2) a b c]
      refine ⟨⟨?_, ?_⟩, ?_, fun x => ?_⟩
      · intro r hr
        rcases List.mem_append.1 hr with k | k
        · exact h.canon.in_ r (by simp [k])
        · simp at k
          subst k
          unfold inB
          dsimp only
          omega
      · rw [List.pairwise_append]
        refine ⟨hup.1, List.pairwise_singleton _ _, fun r hr q hq => ?_⟩
        simp at hq
        subst hq
        exact hup.2.2 r hr (t1, t2) (by simp)
      · intro r hr
        rcases List.mem_append.1 hr with k | k
        · have := h.low r (by simp [k]); omega
        · simp at k
          subst k
          dsimp only
          omega
      · rw [← key x, ← h.in_ x, in_append, in_append, in_one, in_one]
        dsimp only
        constructor
        · rintro (k | k)
          · exact .inl (.inl k)
          · rcases Int.lt_or_le x a with q | q
            · exact .inl (.inr ⟨k.1, by omega⟩)
            · exact .inr ⟨q, k.2⟩
        · rintro ((k | k) | k)
          · exact .inl k
          · exact .inr ⟨k.1, by omega⟩
          · exact .inr ⟨by omega, k.2⟩
    · rw [addR_more o0 (t1, t2) a b c]
      refine ⟨⟨?_, ?_⟩, ?_, fun x => ?_⟩
      · intro r hr
        rcases List.mem_append.1 hr with k | k
        · exact h.canon.in_ r k
        · simp at k
          subst k
          unfold inB
          dsimp only
          omega
      · rw [List.pairwise_append]
        refine ⟨h.canon.up, List.pairwise_singleton _ _, fun r hr q hq => ?_⟩
        simp at hq
        subst hq
        dsimp only
        rcases List.mem_append.1 hr with k | k
        · have := hup.2.2 r k (t1, t2) (by simp)
          dsimp only at this
          omega
        · simp at k
          subst k
          dsimp only
          omega
      · intro r hr
        rcases List.mem_append.1 hr with k | k
        · have := h.low r k; omega
        · simp at k
          subst k
          dsimp only
          omega
      · rw [← key x, ← h.in_ x, in_append, in_one]
/-- In a list of ranges nothing changes between two edges of it. -/
theorem Flat.in_ {l : List R2} {a b : Int} (h : Flat l a b) {x : Int} (h1 : a ≤ x) (h2 : x < b) : In x l ↔ In a l := by
  unfold In
  constructor
  · rintro ⟨r, hr, k⟩; exact ⟨r, hr, (h r hr x h1 h2).1 k⟩
  · rintro ⟨r, hr, k⟩; exact ⟨r, hr, (h r hr x h1 h2).2 k⟩
theorem Flat.left {l m : List R2} {a b : Int} (h : Flat (l ++ m) a b) : Flat l a b := fun r hr => h r (List.mem_append.2 (.inl hr))
theorem Flat.right {l m : List R2} {a b : Int} (h : Flat (l ++ m) a b) : Flat m a b := fun r hr => h r (List.mem_append.2 (.inr hr))
end Go.Proofs.Ytpjnnbegimaaeab

/- The document's In and Edges of a list of ranges: what they answer; no condition beside those told. -/
namespace Go.Proofs.Ytpjnnbegimaaeab
open Go.RowKit

theorem hasB_step (l : List R2) (k : Nat) (h : k < l.length) (x : Int) : hasB x (l.take (k + 1)) = (hasB x (l.take k) || (decide ((l[k]).1 ≤ x) && decide (x ≤ (l[k]).2))) := by
  unfold hasB
  rw [List.take_succ_eq_append_getElem h, List.any_append]
  simp only [List.any_cons, List.any_nil, Bool.or_false]
theorem hasB_found (l : List R2) (k : Nat) (h : k < l.length) (x : Int) (h1 : (l[k]).1 ≤ x) (h2 : x ≤ (l[k]).2) : hasB x l = true := hasB_iff.2 ⟨l[k], List.getElem_mem _, h1, h2⟩

set_option maxRecDepth 100000 in
set_option maxHeartbeats 4000000 in
theorem in_any (a : Option Addr) (cap : Nat) (l : List R2) (x : Int) (w : World) (hl : Rg w a l) (hb : l.length ≤ 140737488351232) :
    Calls Try.prog 19 #[.slice a l.length cap, .int .i64 x] w fun e w' => e = .returned (.bool (hasB x l)) ∧ Touch (fun _ => False) w w' := by
  have HL := hid hl
  clear hl
  go_enter Try.func19, Try.ntmps19
  go_wp2_with fail
  go_loopg [5] l.length (fun gk i wr => ∃ k : Nat, k + gk = l.length ∧ i = .int .i64 (k : Nat) ∧ hasB x (l.take k) = false ∧ w = wr)
  case atStart => exact ⟨0, by omega, rfl, rfl, rfl⟩
  case round =>
    obtain ⟨k, hk, rfl, hno, rfl⟩ := hrel
    have HN := hid hno
    clear hno
    by_cases hlt : k < l.length
    · obtain ⟨b, o, ha, hbl, hcell⟩ : ∃ b o, a = some ⟨b, o, none⟩ ∧ b < w.heap.size ∧ ∀ i (h : i < l.length), w.cell? ⟨b, o + i * 2, none⟩ = some (.int .i64 (l[i]).1) ∧ w.cell? ⟨b, o + i * 2 + 1, none⟩ = some (.int .i64 (l[i]).2) := by
        rcases HL.out with h | h
        · rw [h] at hlt; simp at hlt
        · exact h
      subst ha
      obtain ⟨d0, d1⟩ := hcell k hlt
      have HS := hid (hasB_step l k hlt x)
      have HF := hid (hasB_found l k hlt x)
      rw [HN.out] at HS
      obtain ⟨r, hr⟩ : ∃ r, r = l[k] := ⟨_, rfl⟩
      rw [← hr] at d0 d1 HS HF
      obtain ⟨y, z⟩ := r
      dsimp only at d0 d1 HS HF
      have hkI : (k : Int) < (l.length : Int) := by omega
      clear hcell hr
      by_cases h1 : y ≤ x
      · by_cases h2 : x ≤ z
        · have HT := hid (HF.out h1 h2)
          go_wp2
          go_ret
          rw [HT.out]
          exact ⟨rfl, Touch.refl _ _⟩
        · have HH := hid (show hasB x (l.take (k + 1)) = false by rw [HS.out]; simp [h2])
          go_wp2
          go_roundg (gk - 1)
          case measure => omega
          case rel => exact ⟨k + 1, by omega, by go_num, HH.out, rfl⟩
      · have HH := hid (show hasB x (l.take (k + 1)) = false by rw [HS.out]; simp [h1])
        go_wp2
        go_roundg (gk - 1)
        case measure => omega
        case rel => exact ⟨k + 1, by omega, by go_num, HH.out, rfl⟩
    · obtain rfl : k = l.length := by omega
      rw [List.take_length] at HN
      go_wp2
      go_ret
      rw [HN.out]
      exact ⟨rfl, Touch.refl _ _⟩

/-! ### Numbers in a list of the call's own -/
def encI (e : List Int) : List Value := e.map (Value.int .i64)
structure OwI (W0 wr : World) (v : Value) (e : List Int) : Prop where
  own : wr.ownsRow 0 3 1 v e.length (encI e)
  new : ∀ g, v.ownBlock = some g → W0.heap.size ≤ g
  touch : Touch (fun _ => False) W0 wr
theorem info3 : (Try.prog.info? 3).map (fun i => (i.zero, i.size, i.bytes)) = some (some (.int .i64 0), 1, 8) := by kernel_rfl
theorem OwI.more {W0 wr w1 : World} {v v' : Value} {e : List Int} {x : Int} {o : Obj} (h : OwI W0 wr v e) (hown : w1.ownsRow 0 3 1 v' (e.length + 1) (encI e ++ [.int .i64 x])) (hg : (wr.alloc o).grownBy w1 v.ownBlock) (hat : v'.ownBlock = v.ownBlock ∨ v'.ownBlock = some (wr.heap.size + 1)) : OwI W0 w1 v' (e ++ [x]) := by
  refine ⟨?_, fun g hg' => ?_, (h.touch.alloc o).grown hg (fun k e hk => by have := h.new k e; omega)⟩
  · rw [List.length_append, encI, List.map_append]
    exact hown
  · rcases hat with e | e
    · exact h.new g (by rw [← e]; exact hg')
    · rw [e] at hg'
      simp at hg'
      have := h.touch.size
      omega
/-- Numbers that lie there. -/
def Ig (w : World) (a : Option Addr) (e : List Int) : Prop := ∃ b, a = some ⟨b, 0, none⟩ ∧ b < w.heap.size ∧ ∀ i (h : i < e.length), w.cell? ⟨b, i, none⟩ = some (.int .i64 e[i])
theorem Ig.new {w w' : World} {a : Option Addr} {e : List Int} (h : Ig w a e) (t : Touch (fun _ => False) w w') : Ig w' a e := by
  obtain ⟨b, rfl, hb, hc⟩ := h
  refine ⟨b, rfl, Nat.lt_of_lt_of_le hb t.size, fun i hi => ?_⟩
  rw [t.cell (p := ⟨b, i, none⟩) hb id]
  exact hc i hi
theorem OwI.ig {W0 wr : World} {v : Value} {e : List Int} (h : OwI W0 wr v e) (h0 : e ≠ []) : ∃ a c, v = .slice a e.length c ∧ Ig wr a e := by
  rcases h.own.2 with ⟨rfl, k⟩ | ⟨g, cap, cur, rfl, hg, hh, rest⟩
  · exact absurd (List.eq_nil_of_length_eq_zero k) h0
  · refine ⟨_, cap, rfl, g, rfl, lt_of_block hh, fun i hi => ?_⟩
    have := h.own.cells (g := g) rfl i (.int .i64 e[i]) (by simp [encI, hi])
    rwa [add_g] at this
theorem OwI.one (w : World) (x : Int) : OwI w (w.alloc (.cells #[.int .i64 x] 3)) (.slice (some ⟨w.heap.size, 0, none⟩) 1 1) [x] := by
  refine ⟨?_, fun g hg => ?_, (Touch.refl _ w).alloc _⟩
  · exact ⟨rfl, .inr ⟨w.heap.size, 1, #[.int .i64 x], rfl, Nat.zero_le _, heap_alloc_new w _, Nat.le_refl _, by unfold maxLen; omega, rfl, rfl⟩⟩
  · simp [Value.ownBlock] at hg
    omega

theorem estep_take (l : List R2) (last : Int) (k : Nat) (h : k < l.length) : (l.take (k + 1)).foldl (estep last) 1114112 = estep last ((l.take k).foldl (estep last) 1114112) l[k] := by
  rw [List.take_succ_eq_append_getElem h, List.foldl_append]
  rfl
end Go.Proofs.Ytpjnnbegimaaeab
