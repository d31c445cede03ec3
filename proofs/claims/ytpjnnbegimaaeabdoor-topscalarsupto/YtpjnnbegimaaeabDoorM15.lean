/- Texts of this proof, one behind the other: what each says stands ahead of it. -/
import Derived.Test.YtpjnnbegimaaeabDoorM13
import Derived.Test.YtpjnnbegimaaeabDoorM14
import Derived.Test.YtpjnnbegimaaeabDoorM11
/- How many numbers a list of ranges has, plain facts; no condition beside those told. -/
namespace Go.Proofs.YtpjnnbegimaaeabDoor.S

def hasB (x : Int) (s : List R2) : Bool := s.any fun r => decide (r.1 ≤ x) && decide (x ≤ r.2)
theorem hasB_iff {x : Int} {s : List R2} : hasB x s = true ↔ In x s := by
  unfold hasB In
  simp [List.any_eq_true]
theorem hasB_eq {x : Int} {s : List R2} {p : Bool} (h : In x s ↔ p = true) : hasB x s = p := by
  rw [Bool.eq_iff_iff, hasB_iff, h]

def cnt (N : Nat) (p : Nat → Bool) : Nat := (List.range N).countP p
theorem cnt_zero (p : Nat → Bool) : cnt 0 p = 0 := rfl
theorem cnt_succ (N : Nat) (p : Nat → Bool) : cnt (N + 1) p = cnt N p + (if p N = true then 1 else 0) := by
  unfold cnt
  rw [List.range_succ, List.countP_append, List.countP_singleton]
theorem cnt_or (p q : Nat → Bool) : ∀ N, cnt N (fun i => p i || q i) + cnt N (fun i => p i && q i) = cnt N p + cnt N q
  | 0 => rfl
  | N + 1 => by
    have := cnt_or p q N
    rw [cnt_succ, cnt_succ, cnt_succ, cnt_succ]
    cases p N <;> cases q N <;> simp <;> omega
theorem cnt_not (p : Nat → Bool) : ∀ N, cnt N p + cnt N (fun i => !p i) = N
  | 0 => rfl
  | N + 1 => by
    have := cnt_not p N
    rw [cnt_succ, cnt_succ]
    cases p N <;> simp <;> omega
theorem cnt_none (p : Nat → Bool) (h : ∀ i, p i = false) : ∀ N, cnt N p = 0
  | 0 => rfl
  | N + 1 => by rw [cnt_succ, cnt_none p h N, h N]; rfl
theorem cnt_same (p q : Nat → Bool) : ∀ N, (∀ i, i < N → p i = q i) → cnt N p = cnt N q
  | 0, _ => rfl
  | N + 1, h => by rw [cnt_succ, cnt_succ, cnt_same p q N (fun i hi => h i (by omega)), h N (by omega)]
theorem cnt_le (p q : Nat → Bool) : ∀ N, (∀ i, i < N → p i = true → q i = true) → cnt N p ≤ cnt N q
  | 0, _ => Nat.le_refl _
  | N + 1, h => by
    have h1 := cnt_le p q N (fun i hi => h i (by omega))
    have h2 := h N (by omega)
    rw [cnt_succ, cnt_succ]
    cases hp : p N
    · simp; omega
    · rw [h2 hp]; simp; omega
theorem cnt_iv_at (a b : Int) (ha : 0 ≤ a) (hab : a ≤ b + 1) : ∀ N : Nat, (cnt N (fun i => decide (a ≤ (i : Int)) && decide ((i : Int) ≤ b)) : Int) = min (N : Int) (b + 1) - min (N : Int) a
  | 0 => by rw [cnt_zero]; omega
  | N + 1 => by
    have := cnt_iv_at a b ha hab N
    rw [cnt_succ]
    by_cases h1 : a ≤ (N : Int) <;> by_cases h2 : (N : Int) ≤ b
    · simp only [h1, h2, decide_true, Bool.and_self, if_true]
      omega
    · simp only [h1, h2, decide_true, decide_false, Bool.and_false, Bool.false_eq_true, if_false]
      omega
    · simp only [h1, h2, decide_true, decide_false, Bool.false_and, Bool.false_eq_true, if_false]
      omega
    · simp only [h1, h2, decide_false, Bool.false_and, Bool.false_eq_true, if_false]
      omega
def sizeL (s : List R2) : Int := (s.map fun r => r.2 - r.1 + 1).sum
theorem sizeL_nil : sizeL [] = 0 := rfl
theorem sizeL_cons (r : R2) (s : List R2) : sizeL (r :: s) = (r.2 - r.1 + 1) + sizeL s := by simp [sizeL]
theorem sizeL_append (s t : List R2) : sizeL (s ++ t) = sizeL s + sizeL t := by simp [sizeL]

theorem size_cnt_at (N : Nat) : ∀ s : List R2, (∀ r ∈ s, 0 ≤ r.1 ∧ r.1 ≤ r.2 ∧ r.2 < N) → s.Pairwise (fun a b => a.2 + 1 < b.1) → sizeL s = (cnt N (fun i => hasB i s) : Nat)
  | [], _, _ => by
    rw [cnt_none _ (fun i => by simp [hasB]) N]
    rfl
  | r :: s, hin, hup => by
    have hp := List.pairwise_cons.1 hup
    have hr := hin r (by simp)
    have ih := size_cnt_at N s (fun a ha => hin a (by simp [ha])) hp.2
    have h1 := cnt_or (fun i => decide (r.1 ≤ (i : Int)) && decide ((i : Int) ≤ r.2)) (fun i => hasB i s) N
    have h2 : cnt N (fun i => (decide (r.1 ≤ (i : Int)) && decide ((i : Int) ≤ r.2)) && hasB i s) = 0 := by
      refine cnt_none _ (fun i => ?_) N
      by_cases h : (decide (r.1 ≤ (i : Int)) && decide ((i : Int) ≤ r.2)) = true
      · by_cases k : hasB (i : Int) s = true
        · obtain ⟨q, hq, h3, _⟩ := hasB_iff.1 k
          have := hp.1 q hq
          simp only [Bool.and_eq_true, decide_eq_true_eq] at h
          omega
        · simp [k]
      · rw [Bool.not_eq_true] at h
        simp [h]
    have h3 := cnt_iv_at r.1 r.2 hr.1 (by omega) N
    have h4 : cnt N (fun i => hasB i (r :: s)) = cnt N (fun i => (decide (r.1 ≤ (i : Int)) && decide ((i : Int) ≤ r.2)) || hasB i s) := by
      refine cnt_same _ _ N (fun i _ => ?_)
      simp [hasB]
    rw [sizeL_cons, h4, ih]
    rw [h2] at h1
    omega

theorem size_cnt {s : List R2} (h : Canon s) : sizeL s = (cnt 1114112 (fun i => hasB i s) : Nat) := by
  refine size_cnt_at 1114112 s (fun r hr => ?_) h.up
  have := h.in_ r hr
  unfold inB at this
  exact ⟨this.1, by omega, by omega⟩
theorem cnt_top (N : Nat) (p : Nat → Bool) : cnt N p ≤ N := by
  have := cnt_not p N
  omega
theorem sizeL_pos {s : List R2} (h : Canon s) : 0 ≤ sizeL s ∧ sizeL s ≤ 1114112 := by
  rw [size_cnt h]
  have := cnt_top 1114112 (fun i => hasB i s)
  omega
theorem size_not {s n : List R2} (h : Canon s) (k : Canon n) (hn : ∀ x, In x n ↔ (0 ≤ x ∧ x ≤ 1114111) ∧ ¬ In x s) : sizeL s + sizeL n = 1114112 := by
  rw [size_cnt h, size_cnt k, cnt_same (fun i => hasB i n) (fun i => !hasB i s) 1114112 (fun i hi => ?_)]
  · have := cnt_not (fun i => hasB i s) 1114112
    omega
  · refine hasB_eq ?_
    rw [hn, Bool.not_eq_true', ← Bool.not_eq_true, hasB_iff]
    constructor
    · exact fun h => h.2
    · exact fun h => ⟨by omega, h⟩
theorem size_or {s t o a : List R2} (hs : Canon s) (ht : Canon t) (ho : Canon o) (ha : Canon a) (h1 : ∀ x, In x o ↔ In x s ∨ In x t) (h2 : ∀ x, In x a ↔ In x s ∧ In x t) : sizeL o = sizeL s + sizeL t - sizeL a := by
  have := cnt_or (fun i => hasB i s) (fun i => hasB i t) 1114112
  rw [size_cnt hs, size_cnt ht, size_cnt ho, size_cnt ha,
    cnt_same (fun i => hasB i o) (fun i => hasB i s || hasB i t) 1114112 (fun i hi => hasB_eq (by rw [h1, Bool.or_eq_true, hasB_iff, hasB_iff])),
    cnt_same (fun i => hasB i a) (fun i => hasB i s && hasB i t) 1114112 (fun i hi => hasB_eq (by rw [h2, Bool.and_eq_true, hasB_iff, hasB_iff]))]
  omega
end Go.Proofs.YtpjnnbegimaaeabDoor.S

/- Where a number would be in a list of ranges that rises, plain facts; no condition beside those told. -/
namespace Go.Proofs.YtpjnnbegimaaeabDoor.S

theorem canon_lt {s : List R2} (h : Canon s) (i j : Nat) (hi : i < s.length) (hj : j < s.length) (hij : i < j) : s[i].2 + 1 < s[j].1 := (List.pairwise_iff_getElem.1 h.up) i j hi hj hij
theorem canon_mono {s : List R2} (h : Canon s) (i j : Nat) (hi : i < s.length) (hj : j < s.length) (hij : i ≤ j) : s[i].2 ≤ s[j].2 := by
  rcases Nat.lt_or_ge i j with k | k
  · have h1 := canon_lt h i j hi hj k
    have h2 := h.in_ s[j] (List.getElem_mem _)
    unfold inB at h2
    omega
  · obtain rfl : i = j := by omega
    exact Int.le_refl _
theorem has_none {s : List R2} (x : Int) (h1 : ∀ t (hl : t < s.length), ¬ x ≤ s[t].2) : hasB x s = false := by
  rw [← Bool.not_eq_true, hasB_iff]
  rintro ⟨r, hr, _, k⟩
  obtain ⟨t, ht, rfl⟩ := List.getElem_of_mem hr
  exact h1 t ht k
theorem has_at {s : List R2} (h : Canon s) (x : Int) (k : Nat) (hk : k < s.length) (h1 : ∀ t (_ : t < k) (hl : t < s.length), ¬ x ≤ s[t].2) (h2 : x ≤ s[k].2) : hasB x s = decide (s[k].1 ≤ x) := by
  refine hasB_eq ?_
  rw [decide_eq_true_eq]
  constructor
  · rintro ⟨r, hr, k1, k2⟩
    obtain ⟨t, ht, rfl⟩ := List.getElem_of_mem hr
    rcases Nat.lt_trichotomy t k with q | q | q
    · exact absurd k2 (h1 t q ht)
    · subst q
      exact k1
    · have := canon_lt h k t hk ht q
      omega
  · exact fun q => ⟨s[k], List.getElem_mem _, q, h2⟩
end Go.Proofs.YtpjnnbegimaaeabDoor.S

/- Has of a set: what it answers; no condition beside those told. -/
namespace Go.Proofs.YtpjnnbegimaaeabDoor.S
open Go.RowKit

theorem box_new (w : World) (v : Value) (t : TypeId) : (w.alloc (.cells #[v] t)).cell? ⟨w.heap.size, 0, none⟩ = some v := by
  rw [World.cell?_alloc_at _ _ _ _ (by simp)]; rfl

set_option maxRecDepth 100000 in
set_option maxHeartbeats 4000000 in
theorem has_says (a : Option Addr) (cap : Nat) (s : List R2) (r : Int) (w : World) (hl : Rg w a s) (hs : Canon s) :
    Calls Tryd.prog 7 #[.slice a s.length cap, .int .i64 r] w fun e w' => e = .returned (.bool (hasB r s)) ∧ Touch (fun _ => False) w w' := by
  have HL := hid hl
  have HS := hid hs
  have hb := canon_len hs
  have K := hid (fun (wq : World) h1 h2 h3 h4 h5 => search_any (w.heap.size + 1) w.heap.size r a cap s wq h1 h2 h3 h4 h5 (canon_mono hs) (by omega))
  have T2 := hid (((Touch.refl (fun _ => False) w).alloc (.cells #[.slice a s.length cap] 31)).alloc (.cells #[.int .i64 r] 3))
  clear hl hs
  go_enter Tryd.func7, Tryd.ntmps7
  go_wp2_with fail
  have q1 : ((w.alloc (.cells #[.slice a s.length cap] 31)).alloc (.cells #[.int .i64 r] 3)).cell? ⟨w.heap.size, 0, none⟩ = some (.slice a s.length cap) := (((Touch.refl (fun _ => False) _).alloc _).cell (p := ⟨w.heap.size, 0, none⟩) (by simp) id).trans (box_new _ _ _)
  have q2 : ((w.alloc (.cells #[.slice a s.length cap] 31)).alloc (.cells #[.int .i64 r] 3)).cell? ⟨w.heap.size + 1, 0, none⟩ = some (.int .i64 r) := by
    have := box_new (w.alloc (.cells #[.slice a s.length cap] 31)) (.int .i64 r) 3
    rw [show (w.alloc (.cells #[.slice a s.length cap] 31)).heap.size = w.heap.size + 1 by simp] at this
    exact this
  have z2 : w.heap.size + 1 < ((w.alloc (.cells #[.slice a s.length cap] 31)).alloc (.cells #[.int .i64 r] 3)).heap.size := by simp
  generalize ((w.alloc (.cells #[.slice a s.length cap] 31)).alloc (.cells #[.int .i64 r] 3)) = w2 at *
  have z1 : w.heap.size < w2.heap.size := Nat.lt_of_succ_lt z2
  refine (K.out w2 z2 z1 q2 q1 (HL.out.new T2.out)).mono ?_
  rintro e w3 ⟨k, rfl, hk, h1, h2, tc⟩
  have T3 := hid (T2.out.trans tc (fun _ _ e => e))
  have p1 := (tc.cell (p := ⟨w.heap.size, 0, none⟩) z1 id).trans q1
  have p2 := (tc.cell (p := ⟨w.heap.size + 1, 0, none⟩) z2 id).trans q2
  have R3 := hid (HL.out.new T3.out)
  clear tc q1 q2 z1 z2 K
  by_cases hlt : k < s.length
  · have HX := hid (has_at HS.out r k hlt (fun t p q => by have := h1 t p q; omega) (h2 k (Nat.le_refl _) hlt))
    obtain ⟨b, o, ha, hbl, hcell⟩ : ∃ b o, a = some ⟨b, o, none⟩ ∧ b < w3.heap.size ∧ ∀ i (h : i < s.length), w3.cell? ⟨b, o + i * 2, none⟩ = some (.int .i64 (s[i]).1) ∧ w3.cell? ⟨b, o + i * 2 + 1, none⟩ = some (.int .i64 (s[i]).2) := by
      rcases R3.out with h | h
      · rw [h] at hlt; simp at hlt
      · exact h
    subst ha
    obtain ⟨d0, d1⟩ := hcell k hlt
    obtain ⟨x, hx⟩ : ∃ x, x = s[k].1 := ⟨_, rfl⟩
    rw [← hx] at d0 HX
    have hkI : (k : Int) < (s.length : Int) := by omega
    have hd : decide ((k : Int) < (s.length : Int)) = true := decide_eq_true hkI
    clear hcell hx h1 h2 d1
    go_wp2_with fail
    go_quiet (fail)
    go_wp2
    go_ret
    rw [HX.out]
    exact ⟨rfl, T3.out.drewN _⟩
  · have HX := hid (has_none (s := s) r (fun t ht => by have := h1 t (by omega) ht; omega))
    have hd : decide ((k : Int) < (s.length : Int)) = false := decide_eq_false (by omega)
    clear h1 h2
    go_wp2_with fail
    go_quiet (fail)
    go_wp2
    go_ret
    rw [HX.out]
    exact ⟨rfl, T3.out.drewN _⟩
end Go.Proofs.YtpjnnbegimaaeabDoor.S

/- TopScalars' walk: what any bytes tell in any coding, told anew in another one, is told by that as the same; conditions: the text is of at most 1048576 bytes. -/
namespace Go.Proofs.YtpjnnbegimaaeabDoor
open Go.RowKit
open Go.Lib

theorem RB2.set {w : World} {q : Nat} {b0 b1 b2 b3 f0 f1 : Value} (h : RB2 w q b0 b1 b2 b3 f0 f1) (c0 c1 c2 c3 g0 g1 : Value) :
    RB2 ((((((w.setCell ⟨q, 0, none⟩ c0).setCell ⟨q, 1, none⟩ c1).setCell ⟨q, 2, none⟩ c2).setCell ⟨q, 3, none⟩ c3).setCell ⟨q + 1, 0, none⟩ g0).setCell ⟨q + 1, 1, none⟩ g1) q c0 c1 c2 c3 g0 g1 := by
  have hq : q ≠ q + 1 := by omega
  refine ⟨?_, ?_⟩
  · rw [set_other _ hq, set_other _ hq]
    exact four_set h.a c0 c1 c2 c3
  · refine two_set (a0 := f0) (a1 := f1) ?_ g0 g1
    rw [set_other _ hq.symm, set_other _ hq.symm, set_other _ hq.symm, set_other _ hq.symm]
    exact h.b
theorem set6_touch {w0 w : World} {q : Nat} (h : Touch (fun _ => False) w0 w) (hq : w0.heap.size ≤ q) (c0 c1 c2 c3 g0 g1 : Value) :
    Touch (fun _ => False) w0 ((((((w.setCell ⟨q, 0, none⟩ c0).setCell ⟨q, 1, none⟩ c1).setCell ⟨q, 2, none⟩ c2).setCell ⟨q, 3, none⟩ c3).setCell ⟨q + 1, 0, none⟩ g0).setCell ⟨q + 1, 1, none⟩ g1) := by
  have h1 : q < w0.heap.size → False := fun k => by omega
  have h2 : q + 1 < w0.heap.size → False := fun k => by omega
  exact (((((h.setCell (p := ⟨q, 0, none⟩) h1 c0).setCell (p := ⟨q, 1, none⟩) h1 c1).setCell (p := ⟨q, 2, none⟩) h1 c2).setCell (p := ⟨q, 3, none⟩) h1 c3).setCell (p := ⟨q + 1, 0, none⟩) h2 g0).setCell (p := ⟨q + 1, 1, none⟩) h2 g1
theorem set6_size (w : World) (q : Nat) (c0 c1 c2 c3 g0 g1 : Value) : ((((((w.setCell ⟨q, 0, none⟩ c0).setCell ⟨q, 1, none⟩ c1).setCell ⟨q, 2, none⟩ c2).setCell ⟨q, 3, none⟩ c3).setCell ⟨q + 1, 0, none⟩ g0).setCell ⟨q + 1, 1, none⟩ g1).heap.size = w.heap.size := by
  have t := (((((((Touch.refl (fun _ => True) w).setCell (p := ⟨q, 0, none⟩) (fun _ => trivial) c0).setCell (p := ⟨q, 1, none⟩) (fun _ => trivial) c1).setCell (p := ⟨q, 2, none⟩) (fun _ => trivial) c2).setCell (p := ⟨q, 3, none⟩) (fun _ => trivial) c3).setCell (p := ⟨q + 1, 0, none⟩) (fun _ => trivial) g0).setCell (p := ⟨q + 1, 1, none⟩) (fun _ => trivial) g1)
  have := t.size
  simp
theorem full_drop (c : Nat) (mark : Bool) (l : List Int) : dropM c (fullL c mark l) = if c ≠ 4 ∧ mark = false ∧ l.head? = some 65279 then l.tail else l := by
  unfold dropM fullL
  by_cases h4 : c = 4
  · simp [h4]
  · cases mark <;> simp [h4]
theorem a_text : bg ⟨#[97]⟩ 1 = (1, 0) ∧ dcGo ⟨#[97]⟩ 1 true 1 0 [] [] 0 = (none, [97], [0], 0) := by decide +kernel
theorem dec_a (w : World) (ht : Tabs w) : Calls Tryd.prog 4 #[.string ⟨#[97]⟩, .int .i64 1, .bool true] w fun e w' => ∃ b1 k1 a2 n2 k2, e = .returned (.tuple #[.agg #[.int .i64 1, .slice (some ⟨b1, 0, none⟩) 1 k1, .slice a2 n2 k2, .int .i64 0], .agg #[.int .i64 0, .int .i64 0]]) ∧ w'.cell? ⟨b1, 0, none⟩ = some (.int .i64 97) ∧ Touch (fun _ => False) w w' := by
  have K := decode_any ⟨#[97]⟩ 1 true w ht (by decide) (by decide)
  obtain ⟨h1, h2⟩ := a_text
  rw [h1, show (⟨#[97]⟩ : ByteArray).size = 1 from rfl, h2] at K
  refine K.mono ?_
  rintro e w' (⟨i, h, _⟩ | ⟨_, ⟨v1, v2, rfl, o1, o2⟩⟩)
  · cases h
  · obtain ⟨a1, k1, rfl, i1⟩ := o1.sh
    obtain ⟨a2, k2, rfl, i2⟩ := o2.sh
    obtain ⟨b1, rfl, _, hc⟩ := i1.resolve_left (by simp)
    exact ⟨b1, k1, a2, _, k2, rfl, hc 0 (by simp), o1.touch⟩
theorem dec_data (s : ByteArray) (c : Nat) (hc : c ≤ 4) (hs : s.size ≤ 1048576) (w : World) (ht : Tabs w) : ∃ (c1 bad : Nat) (l : List Int), (∀ x ∈ l, scB x = true) ∧ l.length ≤ 1048576 ∧
    Calls Tryd.prog 4 #[.string s, .int .i64 (c : Nat), .bool false] w fun e w' => ∃ a1 k1 a2 n2 k2, e = .returned (.tuple #[.agg #[.int .i64 (c1 : Nat), .slice a1 l.length k1, .slice a2 n2 k2, .int .i64 (bad : Nat)], .agg #[.int .i64 0, .int .i64 0]]) ∧ (l = [] ∨ ∃ b, a1 = some ⟨b, 0, none⟩ ∧ w.heap.size ≤ b ∧ b < w'.heap.size ∧ ∀ i (h : i < l.length), w'.cell? ⟨b, i, none⟩ = some (.int .i64 l[i])) ∧ Touch (fun _ => False) w w' := by
  have K := decode_any s c false w ht (by omega) hc
  rw [dc_seg] at K
  have hbg := bg_in s c hc
  have hcc : (bg s c).1 = 1 ∨ (bg s c).1 = 2 ∨ (bg s c).1 = 3 ∨ (bg s c).1 = 4 := by omega
  refine ⟨(bg s c).1, 0 + (seg s (bg s c).1 s.size (bg s c).2).countP (badAt s (bg s c).1), [] ++ (seg s (bg s c).1 s.size (bg s c).2).map (outAt s (bg s c).1), ?_, ?_, K.mono ?_⟩
  · intro x hx
    rw [List.nil_append, List.mem_map] at hx
    obtain ⟨p, hp, rfl⟩ := hx
    obtain ⟨j, hj, rfl⟩ := List.getElem_of_mem hp
    exact okc_sc (out_ok _ hcc s _ (seg_at s _ hcc s.size (bg s c).2 hbg.2.2 (by omega) j hj).1)
  · rw [List.nil_append, List.length_map]
    exact Nat.le_trans (seg_len _ _ _ _) hs
  · rintro e w' (⟨i, h, _⟩ | ⟨_, ⟨v1, v2, rfl, o1, o2⟩⟩)
    · cases h
    · obtain ⟨a1, k1, rfl, i1⟩ := o1.sh
      obtain ⟨a2, k2, rfl, i2⟩ := o2.sh
      refine ⟨a1, k1, a2, _, k2, rfl, ?_, o1.touch⟩
      rcases i1 with i1 | ⟨b, rfl, hb, hcl⟩
      · exact .inl i1
      · exact .inr ⟨b, rfl, o1.new b rfl, hb, hcl⟩
theorem good_in (n s : List S.R2) (x : Int) (hx : scB x = true) (h1 : ∀ x, S.In x s ↔ (0 ≤ x ∧ x ≤ 1114111) ∧ S.In x [(55296, 57343)]) (h2 : ∀ x, S.In x n ↔ (0 ≤ x ∧ x ≤ 1114111) ∧ ¬ S.In x s) : S.hasB x n = true := by
  rw [scB_iff] at hx
  rw [S.hasB_iff, h2, h1]
  refine ⟨⟨hx.1, hx.2.1⟩, fun e => ?_⟩
  obtain ⟨_, r, hr, h3⟩ := e
  simp only [List.mem_singleton] at hr
  subst hr
  dsimp only at h3
  omega
end Go.Proofs.YtpjnnbegimaaeabDoor
