/- Parse of texts that tell keys and their values, and of such with one more; conditions: they fit into memory, the library's variables lie there. -/
import Derived.Test.YtmeekjfnmdbnpaaDoorTv
import Derived.Test.YtmeekjfnmdbnpaaDoorLw
namespace Go.Proofs.YtmeekjfnmdbnpaaDoor
open Go.RowKit
open Go.Lib

theorem pre_id : ∀ l : List Bs, (∀ t ∈ l, t.length ≤ 9999999) → pre l = l
  | [], _ => rfl
  | t :: l, h => by
    unfold pre
    rw [if_neg (by have := h t List.mem_cons_self; omega), pre_id l (fun u hu => h u (List.mem_cons_of_mem _ hu))]
theorem un_pack_all (l : List Bs) (h : ∀ t ∈ l, t.length ≤ 9999999) : un (packL l) = .ok l := by rw [un_pack, pre_id l h]
/-- A value of which nothing is told is zero. -/
theorem zero_of (n0 n1 n2 n3 n4 : Int) (b0 b1 b2 b3 b4 b5 b6 b7 b8 b9 : Bool) (s0 s1 s2 : ByteArray) : ∀ k, k < 18 → tellV ((vf (vals n0 n1 n2 n3 n4 b0 b1 b2 b3 b4 b5 b6 b7 b8 b9 s0 s1 s2)) k) = [] → v18[k]? = some ((vf (vals n0 n1 n2 n3 n4 b0 b1 b2 b3 b4 b5 b6 b7 b8 b9 s0 s1 s2)) k) := fun k hk => match k, hk with
  | 0, _ => fun h => by
    have e : n0 = 0 := by
      by_cases hn : n0 = 0
      · exact hn
      · have h2 : (if n0 = 0 then [] else itoa n0) = [] := h
        rw [if_neg hn] at h2
        exact absurd h2 (itoa_ne _)
    subst e
    rfl
  | 1, _ => fun h => by
    have e : n1 = 0 := by
      by_cases hn : n1 = 0
      · exact hn
      · have h2 : (if n1 = 0 then [] else itoa n1) = [] := h
        rw [if_neg hn] at h2
        exact absurd h2 (itoa_ne _)
    subst e
    rfl
  | 2, _ => fun h => by
    have e : n2 = 0 := by
      by_cases hn : n2 = 0
      · exact hn
      · have h2 : (if n2 = 0 then [] else itoa n2) = [] := h
        rw [if_neg hn] at h2
        exact absurd h2 (itoa_ne _)
    subst e
    rfl
  | 3, _ => fun h => by
    have e : n3 = 0 := by
      by_cases hn : n3 = 0
      · exact hn
      · have h2 : (if n3 = 0 then [] else itoa n3) = [] := h
        rw [if_neg hn] at h2
        exact absurd h2 (itoa_ne _)
    subst e
    rfl
  | 4, _ => fun h => by
    have e : n4 = 0 := by
      by_cases hn : n4 = 0
      · exact hn
      · have h2 : (if n4 = 0 then [] else itoa n4) = [] := h
        rw [if_neg hn] at h2
        exact absurd h2 (itoa_ne _)
    subst e
    rfl
  | 5, _ => fun h => by
    cases b0 with
    | false => rfl
    | true => cases h
  | 6, _ => fun h => by
    cases b1 with
    | false => rfl
    | true => cases h
  | 7, _ => fun h => by
    cases b2 with
    | false => rfl
    | true => cases h
  | 8, _ => fun h => by
    cases b3 with
    | false => rfl
    | true => cases h
  | 9, _ => fun h => by
    cases b4 with
    | false => rfl
    | true => cases h
  | 10, _ => fun h => by
    cases b5 with
    | false => rfl
    | true => cases h
  | 11, _ => fun h => by
    cases b6 with
    | false => rfl
    | true => cases h
  | 12, _ => fun h => by
    cases b7 with
    | false => rfl
    | true => cases h
  | 13, _ => fun h => by
    cases b8 with
    | false => rfl
    | true => cases h
  | 14, _ => fun h => by
    cases b9 with
    | false => rfl
    | true => cases h
  | 15, _ => fun h => by
    have e : s0 = ⟨#[]⟩ := ba_eq h
    subst e
    rfl
  | 16, _ => fun h => by
    have e : s1 = ⟨#[]⟩ := ba_eq h
    subst e
    rfl
  | 17, _ => fun h => by
    have e : s2 = ⟨#[]⟩ := ba_eq h
    subst e
    rfl
  | k + 18, h => absurd h (by omega)
theorem ok_of (n0 n1 n2 n3 n4 : Int) (b0 b1 b2 b3 b4 b5 b6 b7 b8 b9 : Bool) (s0 s1 s2 : ByteArray) (h0 : n0.natAbs < 1000000000000000000) (h1 : n1.natAbs < 1000000000000000000) (h2 : n2.natAbs < 1000000000000000000) (h3 : n3.natAbs < 1000000000000000000) (h4 : n4.natAbs < 1000000000000000000) : ∀ k, k < 18 → tellV ((vf (vals n0 n1 n2 n3 n4 b0 b1 b2 b3 b4 b5 b6 b7 b8 b9 s0 s1 s2)) k) ≠ [] → Okv k ((vf (vals n0 n1 n2 n3 n4 b0 b1 b2 b3 b4 b5 b6 b7 b8 b9 s0 s1 s2)) k) := fun k hk => match k, hk with
  | 0, _ => fun h => tell_int n0 (fun e => h (by subst e; rfl)) h0 0 (by decide)
  | 1, _ => fun h => tell_int n1 (fun e => h (by subst e; rfl)) h1 1 (by decide)
  | 2, _ => fun h => tell_int n2 (fun e => h (by subst e; rfl)) h2 2 (by decide)
  | 3, _ => fun h => tell_int n3 (fun e => h (by subst e; rfl)) h3 3 (by decide)
  | 4, _ => fun h => tell_int n4 (fun e => h (by subst e; rfl)) h4 4 (by decide)
  | 5, _ => fun h => by
    cases b0 with
    | false => exact absurd rfl h
    | true => exact tell_bool 5 (by decide) (by decide)
  | 6, _ => fun h => by
    cases b1 with
    | false => exact absurd rfl h
    | true => exact tell_bool 6 (by decide) (by decide)
  | 7, _ => fun h => by
    cases b2 with
    | false => exact absurd rfl h
    | true => exact tell_bool 7 (by decide) (by decide)
  | 8, _ => fun h => by
    cases b3 with
    | false => exact absurd rfl h
    | true => exact tell_bool 8 (by decide) (by decide)
  | 9, _ => fun h => by
    cases b4 with
    | false => exact absurd rfl h
    | true => exact tell_bool 9 (by decide) (by decide)
  | 10, _ => fun h => by
    cases b5 with
    | false => exact absurd rfl h
    | true => exact tell_bool 10 (by decide) (by decide)
  | 11, _ => fun h => by
    cases b6 with
    | false => exact absurd rfl h
    | true => exact tell_bool 11 (by decide) (by decide)
  | 12, _ => fun h => by
    cases b7 with
    | false => exact absurd rfl h
    | true => exact tell_bool 12 (by decide) (by decide)
  | 13, _ => fun h => by
    cases b8 with
    | false => exact absurd rfl h
    | true => exact tell_bool 13 (by decide) (by decide)
  | 14, _ => fun h => by
    cases b9 with
    | false => exact absurd rfl h
    | true => exact tell_bool 14 (by decide) (by decide)
  | 15, _ => fun _ => tell_text s0 15 (by decide) (by decide)
  | 16, _ => fun _ => tell_text s1 16 (by decide) (by decide)
  | 17, _ => fun _ => tell_text s2 17 (by decide) (by decide)
  | k + 18, h => absurd h (by omega)
theorem set_all (n0 n1 n2 n3 n4 : Int) (b0 b1 b2 b3 b4 b5 b6 b7 b8 b9 : Bool) (s0 s1 s2 : ByteArray) (ps : List Nat) (hm : ∀ k, k ∈ ps ↔ k < 18 ∧ tellV ((vf (vals n0 n1 n2 n3 n4 b0 b1 b2 b3 b4 b5 b6 b7 b8 b9 s0 s1 s2)) k) ≠ []) : setV (vf (vals n0 n1 n2 n3 n4 b0 b1 b2 b3 b4 b5 b6 b7 b8 b9 s0 s1 s2)) ps v18 = vals n0 n1 n2 n3 n4 b0 b1 b2 b3 b4 b5 b6 b7 b8 b9 s0 s1 s2 := by
  apply Array.ext_getElem?
  intro k
  by_cases hk : k < 18
  · rw [setV_get (vf (vals n0 n1 n2 n3 n4 b0 b1 b2 b3 b4 b5 b6 b7 b8 b9 s0 s1 s2)) ps v18 k hk]
    have e : (vals n0 n1 n2 n3 n4 b0 b1 b2 b3 b4 b5 b6 b7 b8 b9 s0 s1 s2)[k]? = some ((vf (vals n0 n1 n2 n3 n4 b0 b1 b2 b3 b4 b5 b6 b7 b8 b9 s0 s1 s2)) k) := by
      have h2 : k < (vals n0 n1 n2 n3 n4 b0 b1 b2 b3 b4 b5 b6 b7 b8 b9 s0 s1 s2).size := hk
      unfold vf
      rw [Array.getElem?_eq_getElem h2, Array.getD, dif_pos h2]
      rfl
    by_cases h : k ∈ ps
    · rw [if_pos h, e]
    · rw [if_neg h, e]
      refine zero_of n0 n1 n2 n3 n4 b0 b1 b2 b3 b4 b5 b6 b7 b8 b9 s0 s1 s2 k hk ?_
      by_cases h2 : tellV ((vf (vals n0 n1 n2 n3 n4 b0 b1 b2 b3 b4 b5 b6 b7 b8 b9 s0 s1 s2)) k) = []
      · exact h2
      · exact absurd ((hm k).2 ⟨hk, h2⟩) h
  · rw [Array.getElem?_eq_none (by rw [setV_size]; exact Nat.not_lt.1 hk), Array.getElem?_eq_none (Nat.not_lt.1 hk)]
theorem both_rd (ls : List Bs) : Bth (rdF (ls.length + 2) ls (List.range 18) z18 0) (dpF (ls.length + 2) ls (List.replicate 18 false) v18 0) :=
  bth (ls.length + 2) ls (List.range 18) (List.replicate 18 false) z18 v18 0 List.nodup_range (fun k => by
      rw [List.mem_range]
      constructor
      · intro h
        refine ⟨h, ?_⟩
        rw [List.getD_eq_getElem?_getD, List.getElem?_replicate, if_pos h]
        rfl
      · exact fun h => h.1) rfl rfl rfl zero_same
theorem parse_keys (n0 n1 n2 n3 n4 : Int) (b0 b1 b2 b3 b4 b5 b6 b7 b8 b9 : Bool) (s0 s1 s2 : ByteArray) (ps : List Nat) (hn : ps.Nodup) (hm : ∀ k, k ∈ ps ↔ k < 18 ∧ tellV ((vf (vals n0 n1 n2 n3 n4 b0 b1 b2 b3 b4 b5 b6 b7 b8 b9 s0 s1 s2)) k) ≠ []) (hok : ∀ k, k < 18 → tellV ((vf (vals n0 n1 n2 n3 n4 b0 b1 b2 b3 b4 b5 b6 b7 b8 b9 s0 s1 s2)) k) ≠ [] → Okv k ((vf (vals n0 n1 n2 n3 n4 b0 b1 b2 b3 b4 b5 b6 b7 b8 b9 s0 s1 s2)) k)) (hle : ∀ t ∈ shP (vf (vals n0 n1 n2 n3 n4 b0 b1 b2 b3 b4 b5 b6 b7 b8 b9 s0 s1 s2)) ps, t.length ≤ 9999999) (B : ByteArray) (hB : B.data.toList = packL (shP (vf (vals n0 n1 n2 n3 n4 b0 b1 b2 b3 b4 b5 b6 b7 b8 b9 s0 s1 s2)) ps)) (hs : B.size ≤ 1099511627776) (w : World) (hx : Sx w) :
    Calls Tryd.prog 13 #[.string B] w fun e w' => e = .returned (.tuple #[.agg (opts n0 n1 n2 n3 n4 b0 b1 b2 b3 b4 b5 b6 b7 b8 b9 s0 s1), .string s2, .agg #[.int .i64 0, .int .i64 0]]) ∧ Touch (fun _ => False) w w' := by
  have hu : un B.data.toList = .ok (shP (vf (vals n0 n1 n2 n3 n4 b0 b1 b2 b3 b4 b5 b6 b7 b8 b9 s0 s1 s2)) ps) := by rw [hB]; exact un_pack_all _ hle
  have hb := both_rd (shP (vf (vals n0 n1 n2 n3 n4 b0 b1 b2 b3 b4 b5 b6 b7 b8 b9 s0 s1 s2)) ps)
  rw [dp_all (vf (vals n0 n1 n2 n3 n4 b0 b1 b2 b3 b4 b5 b6 b7 b8 b9 s0 s1 s2)) ps v18 hn (fun k hk => ⟨((hm k).1 hk).1, hok k ((hm k).1 hk).1 ((hm k).1 hk).2⟩), set_all n0 n1 n2 n3 n4 b0 b1 b2 b3 b4 b5 b6 b7 b8 b9 s0 s1 s2 ps hm] at hb
  generalize hR : rdF ((shP (vf (vals n0 n1 n2 n3 n4 b0 b1 b2 b3 b4 b5 b6 b7 b8 b9 s0 s1 s2)) ps).length + 2) (shP (vf (vals n0 n1 n2 n3 n4 b0 b1 b2 b3 b4 b5 b6 b7 b8 b9 s0 s1 s2)) ps) (List.range 18) z18 0 = R at hb
  cases hb with
  | ok cs vs h1 h2 h =>
    refine (parse_good B _ cs w hs hx hu hR).mono ?_
    rintro e w' ⟨c17, bv, hcs, hl, rfl, t⟩
    obtain ⟨e1, rfl⟩ := words_opts n0 n1 n2 n3 n4 b0 b1 b2 b3 b4 b5 b6 b7 b8 b9 s0 s1 s2 h1 h hcs hl
    rw [e1]
    exact ⟨rfl, t⟩
theorem parse_more (V : Nat → Value) (ps : List Nat) (x y : Bs) (hn : ps.Nodup) (hk : ∀ k ∈ ps, k < 18 ∧ Okv k (V k)) (hx2 : kI x 18 < 0 ∨ ∃ k ∈ ps, x = wordB k) (hle : ∀ t ∈ shP V ps ++ [x, y], t.length ≤ 9999999) (B : ByteArray) (hB : B.data.toList = packL (shP V ps ++ [x, y])) (hs : B.size ≤ 1099511627776) (w : World) (hx : Sx w) :
    Calls Tryd.prog 13 #[.string B] w fun e w' => e = .returned (.tuple #[.agg z17, .string ⟨#[]⟩, .agg #[.int .i64 29, .int .i64 ((2 * ps.length : Nat) : Int)]]) ∧ Touch (fun _ => False) w w' := by
  have hu : un B.data.toList = .ok (shP V ps ++ [x, y]) := by rw [hB]; exact un_pack_all _ hle
  have hb := both_rd (shP V ps ++ [x, y])
  rw [dp_bad V ps v18 hn hk x y hx2] at hb
  generalize hR : rdF ((shP V ps ++ [x, y]).length + 2) (shP V ps ++ [x, y]) (List.range 18) z18 0 = R at hb
  cases hb with
  | err p => exact parse_word B _ _ w hs hx hu hR
theorem shK_mem (V : Nat → Value) (k : Nat) : k ∈ shK V (List.range 18) ↔ k < 18 ∧ tellV (V k) ≠ [] := by
  unfold shK
  rw [List.mem_filter, List.mem_range]
  refine and_congr_right fun _ => ?_
  cases tellV (V k) <;> simp
theorem shK_nodup (V : Nat → Value) : (shK V (List.range 18)).Nodup := List.nodup_range.filter _
theorem shP_le (V : Nat → Value) (ps : List Nat) (hp : ∀ k ∈ ps, k < 18 ∧ (tellV (V k)).length ≤ 9999999) : ∀ t ∈ shP V ps, t.length ≤ 9999999 := fun t ht => by
  unfold shP at ht
  obtain ⟨k, hk, h⟩ := List.mem_flatMap.1 ht
  obtain ⟨h1, h2⟩ := hp k hk
  have := word_len k h1
  simp only [List.mem_cons, List.not_mem_nil, or_false] at h
  rcases h with rfl | rfl
  · omega
  · exact h2
theorem packL_le : ∀ l : List Bs, (packL l).length ≤ wt l := wt_pack
end Go.Proofs.YtmeekjfnmdbnpaaDoor
