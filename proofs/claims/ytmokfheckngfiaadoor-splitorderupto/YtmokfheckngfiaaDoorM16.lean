/- Texts of this proof, one behind the other: what each says stands ahead of it. -/
import Derived.Test.YtmokfheckngfiaaDoorM6
import Derived.Test.YtmokfheckngfiaaDoorM15
import Derived.Test.YtmokfheckngfiaaDoorM13
/- How many numbers a list of ranges has, plain facts; no condition beside those told. -/
namespace Go.Proofs.YtmokfheckngfiaaDoor.S

def hasB (x : Int) (s : List R2) : Bool := s.any fun r => decide (r.1 ≤ x) && decide (x ≤ r.2)
theorem hasB_iff {x : Int} {s : List R2} : hasB x s = true ↔ In x s := by
  unfold hasB In
  simp [List.any_eq_true]
theorem hasB_eq {x : Int} {s : List R2} {p : Bool} (h : In x s ↔ p = true) : hasB x s = p := by
  rw [Bool.eq_iff_iff, hasB_iff, h]

def cnt (N : Nat) (p : Nat → Bool) : Nat := (List.range N).countP p
theorem cnt_zero (p : Nat → Bool) : cnt 0 p = 0 := rfl
theorem cnt_succ (N : Nat) (p : Nat → Bool) : cnt (N + 1) p = cnt N p + (if p N = true then 1 else 0) := by
  unfold cnt
  rw [List.range_succ, List.countP_append, List.countP_singleton]
theorem cnt_or (p q : Nat → Bool) : ∀ N, cnt N (fun i => p i || q i) + cnt N (fun i => p i && q i) = cnt N p + cnt N q
  | 0 => rfl
  | N + 1 => by
    have := cnt_or p q N
    rw [cnt_succ, cnt_succ, cnt_succ, cnt_succ]
    cases p N <;> cases q N <;> simp <;> omega
theorem cnt_not (p : Nat → Bool) : ∀ N, cnt N p + cnt N (fun i => !p i) = N
  | 0 => rfl
  | N + 1 => by
    have := cnt_not p N
    rw [cnt_succ, cnt_succ]
    cases p N <;> simp <;> omega
theorem cnt_none (p : Nat → Bool) (h : ∀ i, p i = false) : ∀ N, cnt N p = 0
  | 0 => rfl
  | N + 1 => by rw [cnt_succ, cnt_none p h N, h N]; rfl
theorem cnt_same (p q : Nat → Bool) : ∀ N, (∀ i, i < N → p i = q i) → cnt N p = cnt N q
  | 0, _ => rfl
  | N + 1, h => by rw [cnt_succ, cnt_succ, cnt_same p q N (fun i hi => h i (by omega)), h N (by omega)]
theorem cnt_le (p q : Nat → Bool) : ∀ N, (∀ i, i < N → p i = true → q i = true) → cnt N p ≤ cnt N q
  | 0, _ => Nat.le_refl _
  | N + 1, h => by
    have h1 := cnt_le p q N (fun i hi => h i (by omega))
    have h2 := h N (by omega)
    rw [cnt_succ, cnt_succ]
    cases hp : p N
    · simp; omega
    · rw [h2 hp]; simp; omega
theorem cnt_iv_at (a b : Int) (ha : 0 ≤ a) (hab : a ≤ b + 1) : ∀ N : Nat, (cnt N (fun i => decide (a ≤ (i : Int)) && decide ((i : Int) ≤ b)) : Int) = min (N : Int) (b + 1) - min (N : Int) a
  | 0 => by rw [cnt_zero]; omega
  | N + 1 => by
    have := cnt_iv_at a b ha hab N
    rw [cnt_succ]
    by_cases h1 : a ≤ (N : Int) <;> by_cases h2 : (N : Int) ≤ b
    · simp only [h1, h2, decide_true, Bool.and_self, if_true]
      omega
    · simp only [h1, h2, decide_true, decide_false, Bool.and_false, Bool.false_eq_true, if_false]
      omega
    · simp only [h1, h2, decide_true, decide_false, Bool.false_and, Bool.false_eq_true, if_false]
      omega
    · simp only [h1, h2, decide_false, Bool.false_and, Bool.false_eq_true, if_false]
      omega
def sizeL (s : List R2) : Int := (s.map fun r => r.2 - r.1 + 1).sum
theorem sizeL_nil : sizeL [] = 0 := rfl
theorem sizeL_cons (r : R2) (s : List R2) : sizeL (r :: s) = (r.2 - r.1 + 1) + sizeL s := by simp [sizeL]
theorem sizeL_append (s t : List R2) : sizeL (s ++ t) = sizeL s + sizeL t := by simp [sizeL]

theorem size_cnt_at (N : Nat) : ∀ s : List R2, (∀ r ∈ s, 0 ≤ r.1 ∧ r.1 ≤ r.2 ∧ r.2 < N) → s.Pairwise (fun a b => a.2 + 1 < b.1) → sizeL s = (cnt N (fun i => hasB i s) : Nat)
  | [], _, _ => by
    rw [cnt_none _ (fun i => by simp [hasB]) N]
    rfl
  | r :: s, hin, hup => by
    have hp := List.pairwise_cons.1 hup
    have hr := hin r (by simp)
    have ih := size_cnt_at N s (fun a ha => hin a (by simp [ha])) hp.2
    have h1 := cnt_or (fun i => decide (r.1 ≤ (i : Int)) && decide ((i : Int) ≤ r.2)) (fun i => hasB i s) N
    have h2 : cnt N (fun i => (decide (r.1 ≤ (i : Int)) && decide ((i : Int) ≤ r.2)) && hasB i s) = 0 := by
      refine cnt_none _ (fun i => ?_) N
      by_cases h : (decide (r.1 ≤ (i : Int)) && decide ((i : Int) ≤ r.2)) = true
      · by_cases k : hasB (i : Int) s = true
        · obtain ⟨q, hq, h3, _⟩ := hasB_iff.1 k
          have := hp.1 q hq
          simp only [Bool.and_eq_true, decide_eq_true_eq] at h
          omega
        · simp [k]
      · rw [Bool.not_eq_true] at h
        simp [h]
    have h3 := cnt_iv_at r.1 r.2 hr.1 (by omega) N
    have h4 : cnt N (fun i => hasB i (r :: s)) = cnt N (fun i => (decide (r.1 ≤ (i : Int)) && decide ((i : Int) ≤ r.2)) || hasB i s) := by
      refine cnt_same _ _ N (fun i _ => ?_)
      simp [hasB]
    rw [sizeL_cons, h4, ih]
    rw [h2] at h1
    omega

theorem size_cnt {s : List R2} (h : Canon s) : sizeL s = (cnt 1114112 (fun i => hasB i s) : Nat) := by
  refine size_cnt_at 1114112 s (fun r hr => ?_) h.up
  have := h.in_ r hr
  unfold inB at this
  exact ⟨this.1, by omega, by omega⟩
theorem cnt_top (N : Nat) (p : Nat → Bool) : cnt N p ≤ N := by
  have := cnt_not p N
  omega
theorem sizeL_pos {s : List R2} (h : Canon s) : 0 ≤ sizeL s ∧ sizeL s ≤ 1114112 := by
  rw [size_cnt h]
  have := cnt_top 1114112 (fun i => hasB i s)
  omega
theorem size_not {s n : List R2} (h : Canon s) (k : Canon n) (hn : ∀ x, In x n ↔ (0 ≤ x ∧ x ≤ 1114111) ∧ ¬ In x s) : sizeL s + sizeL n = 1114112 := by
  rw [size_cnt h, size_cnt k, cnt_same (fun i => hasB i n) (fun i => !hasB i s) 1114112 (fun i hi => ?_)]
  · have := cnt_not (fun i => hasB i s) 1114112
    omega
  · refine hasB_eq ?_
    rw [hn, Bool.not_eq_true', ← Bool.not_eq_true, hasB_iff]
    constructor
    · exact fun h => h.2
    · exact fun h => ⟨by omega, h⟩
theorem size_or {s t o a : List R2} (hs : Canon s) (ht : Canon t) (ho : Canon o) (ha : Canon a) (h1 : ∀ x, In x o ↔ In x s ∨ In x t) (h2 : ∀ x, In x a ↔ In x s ∧ In x t) : sizeL o = sizeL s + sizeL t - sizeL a := by
  have := cnt_or (fun i => hasB i s) (fun i => hasB i t) 1114112
  rw [size_cnt hs, size_cnt ht, size_cnt ho, size_cnt ha,
    cnt_same (fun i => hasB i o) (fun i => hasB i s || hasB i t) 1114112 (fun i hi => hasB_eq (by rw [h1, Bool.or_eq_true, hasB_iff, hasB_iff])),
    cnt_same (fun i => hasB i a) (fun i => hasB i s && hasB i t) 1114112 (fun i hi => hasB_eq (by rw [h2, Bool.and_eq_true, hasB_iff, hasB_iff]))]
  omega
end Go.Proofs.YtmokfheckngfiaaDoor.S

/- Into how many rows a text fits, and what scalar it is; conditions: those told. -/
namespace Go.Proofs.YtmokfheckngfiaaDoor
open Go.RowKit
open Go.Lib

/-- A text's bytes as numbers. -/
def bts (s : ByteArray) : List Int := s.data.toList.map fun b => (b.toNat : Int)
theorem bts_len (s : ByteArray) : (bts s).length = s.size := by
  unfold bts
  rw [List.length_map]
  rfl
theorem bts_get (s : ByteArray) (k : Nat) (h : k < s.size) (h' : k < (bts s).length) : (bts s)[k] = (s[k].toNat : Int) := by
  have := List.getElem_map (l := s.data.toList) (i := k) (fun b : UInt8 => (b.toNat : Int)) (h := h')
  exact this
theorem bts_in (s : ByteArray) : ∀ b ∈ bts s, 0 ≤ b ∧ b ≤ 255 := fun b hb => by
  unfold bts at hb
  obtain ⟨u, _, rfl⟩ := List.mem_map.1 hb
  have := UInt8.toNat_lt u
  omega
theorem bts_str (l : List Int) (h : ∀ b ∈ l, 0 ≤ b ∧ b ≤ 255) : bts (strOfNums l) = l := by
  unfold bts strOfNums
  rw [List.map_map]
  rw [List.map_congr_left (g := id) (fun b hb => ?_), List.map_id]
  have := h b hb
  simp only [Function.comp, id]
  rw [UInt8.toNat_ofNat', Nat.mod_eq_of_lt (by omega)]
  omega
theorem str_bts (s : ByteArray) : strOfNums (bts s) = s := by
  apply ByteArray.ext
  unfold strOfNums bts
  rw [List.map_map]
  rw [List.map_congr_left (g := id) (fun b hb => ?_), List.map_id]
  simp only [Function.comp, id, Int.toNat_natCast]
  exact UInt8.ofNat_toNat
/-- Do bytes fit into a row, as a truth value? -/
def fitLB : List S.R2 → List Int → Bool
  | [], [] => true
  | r :: z, b :: s => (decide (r.1 ≤ b) && decide (b ≤ r.2)) && fitLB z s
  | _, _ => false
theorem fitLB_iff : ∀ (z : List S.R2) (s : List Int), fitLB z s = true ↔ fitL z s
  | [], [] => ⟨fun _ => trivial, fun _ => rfl⟩
  | r :: z, b :: s => by
    unfold fitLB fitL
    rw [Bool.and_eq_true, Bool.and_eq_true, decide_eq_true_eq, decide_eq_true_eq, fitLB_iff z s]
  | [], _ :: _ => ⟨fun h => (by cases h), fun h => h.elim⟩
  | _ :: _, [] => ⟨fun h => (by cases h), fun h => h.elim⟩
theorem fitL_at : ∀ (z : List S.R2) (t : List Int), fitL z t ↔ z.length = t.length ∧ ∀ k (h : k < z.length) (h' : k < t.length), (z[k]).1 ≤ t[k] ∧ t[k] ≤ (z[k]).2
  | [], [] => ⟨fun _ => ⟨rfl, fun k h => by simp at h⟩, fun _ => trivial⟩
  | r :: z, b :: s => by
    unfold fitL
    rw [fitL_at z s]
    constructor
    · rintro ⟨h1, h2, h3⟩
      refine ⟨by simp [h2], fun k h h' => ?_⟩
      match k, h, h' with
      | 0, _, _ => exact h1
      | k + 1, h, h' => exact h3 k (by simpa using h) (by simpa using h')
    · rintro ⟨h2, h3⟩
      refine ⟨h3 0 (by simp) (by simp), by simpa using h2, fun k h h' => ?_⟩
      exact h3 (k + 1) (by simpa using h) (by simpa using h')
  | [], _ :: _ => ⟨fun h => h.elim, fun h => by simp at h⟩
  | _ :: _, [] => ⟨fun h => h.elim, fun h => by simp at h⟩
theorem fitFrom_iff {z : List S.R2} {s : ByteArray} (h : s.size = z.length) : fitFrom z s z.length ↔ fitLB z (bts s) = true := by
  rw [fitLB_iff, fitL_at]
  constructor
  · intro hf
    refine ⟨by rw [bts_len, h], fun k hk hk' => ?_⟩
    have hs : k < s.size := by omega
    rw [bts_get s k hs hk']
    exact hf k hk hs hk
  · rintro ⟨_, hf⟩ k hk hs _
    have := hf k hk (by rw [bts_len]; exact hs)
    rw [bts_get s k hs] at this
    exact this
theorem fitLB_len {z : List S.R2} {s : ByteArray} (h : s.size ≠ z.length) : fitLB z (bts s) = false := by
  rw [Bool.eq_false_iff]
  intro k
  have := ((fitL_at _ _).1 ((fitLB_iff _ _).1 k)).1
  rw [bts_len] at this
  omega
theorem en8_short (x : Int) : (en8 x).length ≠ 0 ∧ (en8 x).length ≤ 4 := by
  unfold en8
  repeat' split
  all_goals simp
attribute [local irreducible] fitL zOf en8
theorem count_none {l : List (Nat × Nat)} {t : List Int} (h : ¬ ∃ p ∈ l, fitL (zOf p) t) : (l.map zOf).countP (fun z => fitLB z t) = 0 := by
  rw [List.countP_eq_zero]
  intro z hz k
  obtain ⟨p, hp, rfl⟩ := List.mem_map.1 hz
  exact h ⟨p, hp, (fitLB_iff _ _).1 k⟩
theorem count_one {t : List Int} : ∀ {l : List (Nat × Nat)}, l.Pairwise (fun p q => ¬ (fitL (zOf p) t ∧ fitL (zOf q) t)) → (∃ p ∈ l, fitL (zOf p) t) → (l.map zOf).countP (fun z => fitLB z t) = 1
  | [], _, h => by obtain ⟨p, hp, _⟩ := h; simp at hp
  | q :: l, hw, h => by
    rw [List.pairwise_cons] at hw
    rw [List.map_cons]
    by_cases hq : fitL (zOf q) t
    · rw [List.countP_cons_of_pos (by exact (fitLB_iff _ _).2 hq), count_none (fun ⟨p, hp, hf⟩ => hw.1 p hp ⟨hq, hf⟩)]
    · rw [List.countP_cons_of_neg (by intro k; exact hq ((fitLB_iff _ _).1 k))]
      obtain ⟨p, hp, hf⟩ := h
      rcases List.mem_cons.1 hp with rfl | hp
      · exact absurd hf hq
      · exact count_one hw.2 ⟨p, hp, hf⟩
/-- What the document makes of a text's bytes. -/
def vOf : List Int → Int
  | [a] => a
  | [a, b] => 64 * (a % 32) + b % 64
  | [a, b, c] => 64 * (64 * (a % 16) + b % 64) + c % 64
  | [a, b, c, d] => 64 * (64 * (64 * (a % 8) + b % 64) + c % 64) + d % 64
  | _ => 0
/-- The scalar whose bytes a text is; -1: it is none. -/
def scOf (l : List Int) : Int := if (l.length ≠ 0 ∧ l.length ≤ 4) ∧ scB (vOf l) = true ∧ en8 (vOf l) = l then vOf l else -1
theorem vOf_en8 (x : Nat) (h : x ≤ 1114111) : vOf (en8 (x : Int)) = (x : Int) := by
  rcases Nat.lt_or_ge x 128 with a | a
  · rw [len1 a]
    rfl
  · rcases Nat.lt_or_ge x 2048 with b | b
    · rw [len2 a b]
      show 64 * ((192 + (x : Int) / 64) % 32) + (128 + (x : Int) % 64) % 64 = (x : Int)
      omega
    · rcases Nat.lt_or_ge x 65536 with c | c
      · rw [len3 b c]
        show 64 * (64 * ((224 + (x : Int) / 4096) % 16) + (128 + (x : Int) / 64 % 64) % 64) + (128 + (x : Int) % 64) % 64 = (x : Int)
        omega
      · rw [len4 c]
        show 64 * (64 * (64 * ((240 + (x : Int) / 262144) % 8) + (128 + (x : Int) / 4096 % 64) % 64) + (128 + (x : Int) / 64 % 64) % 64) + (128 + (x : Int) % 64) % 64 = (x : Int)
        omega
theorem scOf_en8 (x : Nat) (h : scB (x : Int) = true) : scOf (en8 (x : Int)) = (x : Int) := by
  have h1 := (scB_iff _).1 h
  unfold scOf
  rw [vOf_en8 x (by omega)]
  rw [if_pos ⟨en8_short _, h, rfl⟩]
theorem scOf_neg {l : List Int} (h : ¬ ∃ x : Nat, scB (x : Int) = true ∧ l = en8 (x : Int)) : scOf l = -1 := by
  unfold scOf
  rw [if_neg]
  rintro ⟨_, h1, h2⟩
  have h3 := (scB_iff _).1 h1
  obtain ⟨x, hx⟩ : ∃ x : Nat, vOf l = (x : Int) := ⟨(vOf l).toNat, by omega⟩
  rw [hx] at h1 h2
  exact h ⟨x, h1, h2.symm⟩
/-- Is a text the bytes of a scalar that is in some ranges? -/
def fitsB (l : List S.R2) (t : List Int) : Bool := decide (0 ≤ scOf t) && S.hasB (scOf t) l
theorem fitsB_iff {l : List S.R2} {t : List Int} : fitsB l t = true ↔ ∃ x : Nat, scB (x : Int) = true ∧ S.In (x : Int) l ∧ t = en8 (x : Int) := by
  unfold fitsB
  rw [Bool.and_eq_true, decide_eq_true_eq, S.hasB_iff]
  constructor
  · rintro ⟨h1, h2⟩
    by_cases h : ∃ x : Nat, scB (x : Int) = true ∧ t = en8 (x : Int)
    · obtain ⟨x, hx, rfl⟩ := h
      rw [scOf_en8 x hx] at h2
      exact ⟨x, hx, h2, rfl⟩
    · rw [scOf_neg h] at h1
      omega
  · rintro ⟨x, hx, h2, rfl⟩
    rw [scOf_en8 x hx]
    exact ⟨by omega, h2⟩
/-- Into how many rows a text fits. -/
theorem rows_count {s s0 m : List S.R2} {l : List (Nat × Nat)} (h0 : ∀ x, S.In x s ↔ (0 ≤ x ∧ x ≤ 1114111) ∧ S.In x s0) (h : ∀ x, S.In x m ↔ S.In x s ∧ ¬ S.In x surL) (hap : AllP m l) (hr : ∀ r ∈ m, r.2 ≤ 1114111 ∧ (r.2 < 55296 ∨ 57344 ≤ r.1)) (t : List Int) : (l.map zOf).countP (fun z => fitLB z t) = if fitsB s0 t = true then 1 else 0 := by
  have hf := allp_fit hap hr t
  have he : (∃ p ∈ l, fitL (zOf p) t) ↔ fitsB s0 t = true := by
    rw [hf, fitsB_iff]
    constructor
    · rintro ⟨x, hx, ht⟩
      obtain ⟨h1, h2⟩ := (h _).1 hx
      obtain ⟨h3, h4⟩ := (h0 _).1 h1
      refine ⟨x, (scB_iff _).2 ⟨h3.1, h3.2, ?_⟩, h4, ht⟩
      rw [surL, S.in_one] at h2
      dsimp only at h2
      omega
    · rintro ⟨x, hx, h4, ht⟩
      have h5 := (scB_iff _).1 hx
      refine ⟨x, (h _).2 ⟨(h0 _).2 ⟨⟨h5.1, h5.2.1⟩, h4⟩, fun h2 => ?_⟩, ht⟩
      rw [surL, S.in_one] at h2
      dsimp only at h2
      omega
  by_cases hc : fitsB s0 t = true
  · rw [if_pos hc]
    exact count_one (allp_apart hap hr t) (he.2 hc)
  · rw [if_neg hc]
    exact count_none (fun k => hc (he.1 k))
end Go.Proofs.YtmokfheckngfiaaDoor

/- Heads of any rows; conditions: those told. -/
namespace Go.Proofs.YtmokfheckngfiaaDoor
open Go.RowKit
open Go.Lib

/-- Rows in a list in memory. -/
def RowsIn (w : World) (a : Option Addr) (zs : List (List S.R2)) : Prop := zs = [] ∨ ∃ b o, a = some ⟨b, o, none⟩ ∧ b < w.heap.size ∧ ∀ i (h : i < zs.length), ∃ ai ci, w.cell? ⟨b, o + i, none⟩ = some (.slice ai (zs[i]).length ci) ∧ S.Rg w ai zs[i]
theorem RowsIn.new {w w' : World} {a : Option Addr} {zs : List (List S.R2)} (h : RowsIn w a zs) (t : Touch (fun _ => False) w w') : RowsIn w' a zs := by
  rcases h with h | ⟨b, o, rfl, hb, hc⟩
  · exact .inl h
  · refine .inr ⟨b, o, rfl, Nat.lt_of_lt_of_le hb t.size, fun i hi => ?_⟩
    obtain ⟨ai, ci, h1, h2⟩ := hc i hi
    exact ⟨ai, ci, (t.cell (p := ⟨b, o + i, none⟩) hb id).trans h1, h2.new t⟩
/-- The ranges with which rows begin. -/
def headsL (zs : List (List S.R2)) : List S.R2 := zs.flatMap (fun z => z.take 1)
theorem heads_len (zs : List (List S.R2)) : (headsL zs).length ≤ zs.length := by
  unfold headsL
  induction zs with
  | nil => simp
  | cons z zs ih =>
    rw [List.flatMap_cons, List.length_append, List.length_take, List.length_cons]
    omega
theorem heads_step {zs : List (List S.R2)} {k : Nat} (h : k < zs.length) : headsL (zs.take (k + 1)) = headsL (zs.take k) ++ (zs[k]).take 1 := by
  unfold headsL
  rw [List.take_succ_eq_append_getElem h, List.flatMap_append]
  simp
set_option maxRecDepth 100000 in
set_option maxHeartbeats 8000000 in
theorem heads_any (a : Option Addr) (cap : Nat) (zs : List (List S.R2)) (w : World) (hl : RowsIn w a zs) (hb : zs.length * 16 ≤ 140737488351232) :
    Calls Tryd.prog 21 #[.slice a zs.length cap] w fun e w' => ∃ v s, e = .returned v ∧ S.Canon s ∧ (∀ x, S.In x s ↔ (0 ≤ x ∧ x ≤ 1114111) ∧ S.In x (headsL zs)) ∧ S.OwE w w' 38 v s := by
  obtain ⟨i0, hi33, hz0, hz1, hz2⟩ := info_parts S.info33
  have HL := hid hl
  clear hl
  go_enter Tryd.func21, Tryd.ntmps21
  go_wp2_with fail
  go_loopg [3, 8] zs.length (fun gk v3 v8 wr => ∃ k : Nat, k + gk = zs.length ∧ v8 = .int .i64 (k : Nat) ∧ S.OwE w wr 38 v3 (headsL (zs.take k)))
  case atStart => exact ⟨0, by omega, rfl, S.OwE.nil _ _⟩
  case round =>
    obtain ⟨k, hk, rfl, h3⟩ := hrel
    have O3 := hid h3
    have HLR := hid (HL.out.new h3.touch)
    have hln : (headsL (zs.take k)).length ≤ k := by
      have := heads_len (zs.take k)
      rw [List.length_take] at this
      omega
    obtain ⟨a3, c3, hv3⟩ := own_shape h3.own
    subst hv3
    clear h3
    by_cases hlt : k < zs.length
    · obtain ⟨b, o, ha, hbl, hcell⟩ : ∃ b o, a = some ⟨b, o, none⟩ ∧ b < wr.heap.size ∧ ∀ i (h : i < zs.length), ∃ ai ci, wr.cell? ⟨b, o + i, none⟩ = some (.slice ai (zs[i]).length ci) ∧ S.Rg wr ai zs[i] := by
        rcases HLR.out with h | h
        · rw [h] at hlt; simp at hlt
        · exact h
      subst ha
      obtain ⟨ai, ci, d0, hrg⟩ := hcell k hlt
      have HT := hid (heads_step hlt)
      have hkI : (k : Int) < (zs.length : Int) := by omega
      obtain ⟨z, hz⟩ : ∃ z, z = zs[k] := ⟨_, rfl⟩
      rw [← hz] at d0 hrg HT
      obtain ⟨s, hs⟩ : ∃ s, s = headsL (zs.take k) := ⟨_, rfl⟩
      rw [← hs] at O3 HT hln ⊢
      clear hs hz hcell HLR
      rcases z with _ | ⟨⟨x, y⟩, z⟩
      · have HT2 := hid (show headsL (zs.take (k + 1)) = s by rw [HT.out]; simp)
        have d0' : wr.cell? ⟨b, o + k, none⟩ = some (.slice ai 0 ci) := d0
        clear d0 hrg HT
        go_wp2
        go_roundg (gk - 1)
        case measure => omega
        case rel => exact ⟨k + 1, by omega, by go_num, by rw [HT2.out]; exact O3.out⟩
      · have HT2 := hid (show headsL (zs.take (k + 1)) = s ++ [(x, y)] by rw [HT.out]; simp)
        obtain ⟨b4, o4, ha4, hb4, e0, e1, _⟩ := S.Rg.head hrg
        subst ha4
        dsimp only at e0 e1
        obtain ⟨n, hn⟩ : ∃ n, n = ((x, y) :: z).length := ⟨_, rfl⟩
        have hn1 : 0 < n := by rw [hn]; simp
        have hn1I : (0 : Int) < (n : Int) := by omega
        rw [← hn] at d0
        clear hrg HT hn
        go_wp2_with (at_builtin; refine wpList_append_own_at _ rfl _ _ 34 rfl 0 38 i0 (.agg #[.int .i64 0, .int .i64 0]) 2 16 Tryd.underlying34 hi33 hz0 hz1 hz2 rfl (by decide) _ _ _ rfl (O3.out.own.alloc _) ⟨wr.heap.size, 0, none⟩ 1 1 [.int .i64 x, .int .i64 y] rfl rfl (row_new wr [.int .i64 x, .int .i64 y] 38) (by intro u hu; simp at hu; rcases hu with rfl | rfl <;> rfl) (by unfold maxLen; omega) (by omega) (Nat.zero_le _) ?_)
        intro v4' w4 hown hgrow _ hat
        have P4 := hid (O3.out.more (xs := [(x, y)]) hown hgrow hat)
        clear hown hgrow hat d0 e0 e1
        go_wp2
        go_roundg (gk - 1)
        case measure => omega
        case rel => exact ⟨k + 1, by omega, by go_num, by rw [HT2.out]; exact P4.out⟩
    · obtain rfl : k = zs.length := by omega
      rw [List.take_length] at O3 hln ⊢
      obtain ⟨a4', c4', hv4, hrg⟩ := O3.out.rg
      simp only [Value.slice.injEq] at hv4
      obtain ⟨rfl, _, rfl⟩ := hv4
      have K := hid (S.of_says a3 c3 (headsL zs) wr hrg (by omega))
      clear hrg
      go_wp2_with fail
      refine K.out.mono ?_
      rintro e w1 ⟨v, s, rfl, hcn, hin, ow⟩
      have OW := hid ow
      have HCN := hid hcn
      have HIN := hid hin
      obtain ⟨a2, c2, hav⟩ := own_shape ow.own
      subst hav
      clear ow hcn hin K
      go_wp2
      go_ret
      exact ⟨_, s, rfl, HCN.out, HIN.out, ⟨OW.out.own, fun g e => Nat.le_trans O3.out.touch.size (OW.out.new g e), O3.out.touch.trans OW.out.touch (fun _ _ e => e)⟩⟩
end Go.Proofs.YtmokfheckngfiaaDoor

/- What Split hands back, as rows in memory; conditions: those told. -/
namespace Go.Proofs.YtmokfheckngfiaaDoor
open Go.RowKit
open Go.Lib

theorem RowsAt.get {w : World} {N : Nat} : ∀ {xs : List Value} {l : List (Nat × Nat)}, RowsAt w N xs l → ∀ i (h : i < xs.length) (h' : i < l.length), Rowed w N xs[i] (zOf l[i])
  | _ :: _, _ :: _, h, 0, _, _ => h.1
  | _ :: _, _ :: _, h, i + 1, h1, h2 => RowsAt.get h.2 i (by simpa using h1) (by simpa using h2)
/-- What Split hands back, as its callers see it. -/
structure Told (s : List S.R2) (w w' : World) (a : Option Addr) (zs : List (List S.R2)) : Prop where
  rows : RowsIn w' a zs
  few : zs.length ≤ 1114112
  one : ∀ z ∈ zs, 1 ≤ z.length ∧ z.length ≤ 4
  tells : ∀ t : List Int, (∃ z ∈ zs, fitL z t) ↔ ∃ x : Nat, (S.In (x : Int) s ∧ ¬ S.In (x : Int) surL) ∧ t = en8 (x : Int)
  touch : Touch (fun _ => False) w w'
theorem zOf_len (p : Nat × Nat) : 1 ≤ (zOf p).length ∧ (zOf p).length ≤ 4 := by
  unfold zOf
  rw [List.length_zip]
  have := en8_len (p.1 : Int)
  have := en8_len (p.2 : Int)
  omega
attribute [local irreducible] fitL zOf
theorem split_told {s : List S.R2} {w w' : World} {e : Ending} (h : SplitDone s w e w') : ∃ a zs c, e = .returned (.slice a zs.length c) ∧ Told s w w' a zs := by
  obtain ⟨m, l, v, os, hcm, him, hap, rfl, hown, hra, htc⟩ := h
  have hlen := hra.len
  have hin : ∀ r ∈ m, r.2 ≤ 1114111 ∧ (r.2 < 55296 ∨ 57344 ≤ r.1) := fun r hr => by
    have h1 := hcm.in_ r hr
    exact ⟨h1.2.2, apart_sur (fun x hx => ((him x).1 hx).2) r hr h1.2.1⟩
  have hfew := hap.few 1114112 (fun r hr => by have := (hin r hr).1; omega)
  obtain ⟨a, c, hv⟩ := own_shape hown
  subst hv
  refine ⟨a, l.map zOf, c, by rw [List.length_map, hlen], ?_, by rw [List.length_map]; exact hfew, fun z hz => ?_, fun t => ?_, htc⟩
  · rcases Nat.eq_zero_or_pos l.length with h0 | h0
    · exact .inl (by rw [List.eq_nil_of_length_eq_zero h0]; rfl)
    · rcases hown.2 with ⟨h1, h2⟩ | ⟨g, cap, cur, hv, hg, hh, rest⟩
      · omega
      · simp only [Value.slice.injEq] at hv
        obtain ⟨rfl, _, rfl⟩ := hv
        refine .inr ⟨g, 0, rfl, lt_of_block hh, fun i hi => ?_⟩
        rw [List.length_map] at hi
        obtain ⟨ai, ci, hx, hr, _⟩ := hra.get i (by omega) hi
        have h1 := hown.cells (g := g) rfl i os[i] (by rw [List.getElem?_eq_getElem])
        rw [S.add_g, hx] at h1
        refine ⟨ai, ci, ?_, ?_⟩
        · rw [Nat.zero_add, List.getElem_map]
          exact h1
        · rw [List.getElem_map]
          exact hr
  · obtain ⟨p, _, rfl⟩ := List.mem_map.1 hz
    exact zOf_len p
  · have hf := allp_fit hap hin t
    constructor
    · rintro ⟨z, hz, hft⟩
      obtain ⟨p, hp, hpz⟩ := List.mem_map.1 hz
      obtain ⟨x, hx, ht⟩ := hf.1 ⟨p, hp, by rw [hpz]; exact hft⟩
      exact ⟨x, (him _).1 hx, ht⟩
    · rintro ⟨x, hx, ht⟩
      obtain ⟨p, hp, hft⟩ := hf.2 ⟨x, (him _).2 hx, ht⟩
      exact ⟨zOf p, List.mem_map.2 ⟨p, hp, rfl⟩, hft⟩
end Go.Proofs.YtmokfheckngfiaaDoor

/- What Split hands back, all of it; conditions: those told. -/
namespace Go.Proofs.YtmokfheckngfiaaDoor
open Go.RowKit
open Go.Lib

/-- What Split hands back, all of it. -/
structure Told2 (s : List S.R2) (w w' : World) (a : Option Addr) (l : List (Nat × Nat)) : Prop where
  rows : RowsIn w' a (l.map zOf)
  few : l.length ≤ 1114112
  twelve : l.length ≤ 12 * s.length
  one : ∀ z ∈ l.map zOf, 1 ≤ z.length ∧ z.length ≤ 4
  cnt : ∀ (s0 : List S.R2) (t : List Int), (∀ x, S.In x s ↔ (0 ≤ x ∧ x ≤ 1114111) ∧ S.In x s0) → (l.map zOf).countP (fun z => fitLB z t) = if fitsB s0 t = true then 1 else 0
  up : l.Pairwise (fun p q => p.2 < q.1)
  part : ∀ p ∈ l, (∃ k, Cls k p.1 p.2) ∧ szL (zOf p) 1 = (p.2 : Int) - (p.1 : Int) + 1 ∧ fitL (zOf p) (en8 (p.1 : Int))
  sum : ∀ m, S.Canon m → (∀ x, S.In x m ↔ S.In x s ∧ ¬ S.In x surL) → sumP l = S.sizeL m
  touch : Touch (fun _ => False) w w'
attribute [local irreducible] fitL zOf
theorem split_told2 {s : List S.R2} {w w' : World} {e : Ending} (hs : S.Canon s) (h : SplitDone s w e w') : ∃ a l c, e = .returned (.slice a l.length c) ∧ Told2 s w w' a l := by
  have hd := h
  obtain ⟨m, l, v, os, hcm, him, hap, rfl, hown, hra, htc⟩ := h
  have hlen := hra.len
  have hin : ∀ r ∈ m, r.2 ≤ 1114111 ∧ (r.2 < 55296 ∨ 57344 ≤ r.1) := fun r hr => by
    have h1 := hcm.in_ r hr
    exact ⟨h1.2.2, apart_sur (fun x hx => ((him x).1 hx).2) r hr h1.2.1⟩
  have hfew := hap.few 1114112 (fun r hr => by have := (hin r hr).1; omega)
  obtain ⟨a, c, hv⟩ := own_shape hown
  subst hv
  obtain ⟨hsum, hsz⟩ := allp_size hap (fun r hr => ⟨(hcm.in_ r hr).2.1, hin r hr⟩)
  refine ⟨a, l, c, by rw [hlen], ?_, hfew, allp_twelve hs hcm him hap hin, fun z hz => ?_, fun s0 t h0 => rows_count h0 him hap hin t, (allp_up hap).2, fun p hp => ⟨allp_cls hap hin p hp, hsz p hp, (allp_leaf hap hin p hp _).2 ⟨p.1, Nat.le_refl _, ((allp_up hap).1 p hp).1, rfl⟩⟩, fun m' hm' hi' => ?_, htc⟩
  · rcases Nat.eq_zero_or_pos l.length with h0 | h0
    · exact .inl (by rw [List.eq_nil_of_length_eq_zero h0]; rfl)
    · rcases hown.2 with ⟨h1, h2⟩ | ⟨g, cap, cur, hv, hg, hh, rest⟩
      · omega
      · simp only [Value.slice.injEq] at hv
        obtain ⟨rfl, _, rfl⟩ := hv
        refine .inr ⟨g, 0, rfl, lt_of_block hh, fun i hi => ?_⟩
        rw [List.length_map] at hi
        obtain ⟨ai, ci, hx, hr, _⟩ := hra.get i (by omega) hi
        have h1 := hown.cells (g := g) rfl i os[i] (by rw [List.getElem?_eq_getElem])
        rw [S.add_g, hx] at h1
        refine ⟨ai, ci, ?_, ?_⟩
        · rw [Nat.zero_add, List.getElem_map]
          exact h1
        · rw [List.getElem_map]
          exact hr
  · obtain ⟨p, _, rfl⟩ := List.mem_map.1 hz
    exact zOf_len p
  · rw [S.canon_one hm' hcm (fun x => (hi' x).trans (him x).symm)]
    exact hsum
end Go.Proofs.YtmokfheckngfiaaDoor
