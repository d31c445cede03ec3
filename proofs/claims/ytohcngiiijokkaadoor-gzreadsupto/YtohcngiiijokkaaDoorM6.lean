/- Texts of this proof, one behind the other: what each says stands ahead of it. -/
import Derived.Test.YtohcngiiijokkaaDoorM4
import Derived.Test.YtohcngiiijokkaaDoorM5
import Derived.Test.YtohcngiiijokkaaDoorM1
import Derived.OwnWalk
/- What Next answers is what the document answers; condition: the lengths make a table. -/
namespace Go.Proofs.YtohcngiiijokkaaDoor
open Go.RowKit

/-- The symbols that have a code. -/
def Laid (f : Nat → Nat) (len i : Nat) : Prop := i < len ∧ f i ≠ 0

theorem err_ok {f : Nat → Nat} {len : Nat} (h : errOf f len = 0) : rm f len ≤ 2 ^ 15 ∧ (rm f len = 2 ^ 15 ∨ usedTo f len = 0 ∨ (usedTo f len = 1 ∧ rm f len = 16384)) := by
  unfold errOf at h
  rw [show (2 : Nat) ^ 15 = 32768 by rfl]
  by_cases a : 32768 < rm f len
  · rw [if_pos a] at h; omega
  · rw [if_neg a] at h
    by_cases b : rm f len < 32768 ∧ 0 < usedTo f len ∧ ¬ (usedTo f len = 1 ∧ rm f len = 16384)
    · rw [if_pos b] at h; omega
    · exact ⟨by omega, by omega⟩

/-- Bits that are there, as many as fifteen. -/
theorem rval_upto (s : ByteArray) (t m n : Nat) (h : n ≤ m) : Bt.rval s t m % 2 ^ n = Bt.rval s t n := by
  have e : m = n + (m - n) := by omega
  rw [e, Bt.rval_mod]

theorem full_fits {f path : Nat → Nat} {s : ByteArray} {t i : Nat} (h15 : f i ≤ 15) (hlt : path i < 2 ^ f i) (h : Full f path s t i) : Bt.rval s t (min 15 (8 * s.size - t)) % 2 ^ f i = path i := by
  obtain ⟨h0, h1, h2⟩ := h
  rw [rval_upto s t _ _ (by omega)]
  unfold Like at h2
  rw [h2, Nat.mod_eq_of_lt hlt]
theorem fits_full {f path : Nat → Nat} {s : ByteArray} {t i : Nat} (h15 : f i ≤ 15) (hlt : path i < 2 ^ f i) (h0 : f i ≠ 0) (h1 : t + f i ≤ 8 * s.size) (h : Bt.rval s t (min 15 (8 * s.size - t)) % 2 ^ f i = path i) : Full f path s t i := by
  refine ⟨h0, h1, ?_⟩
  rw [rval_upto s t _ _ (by omega)] at h
  unfold Like
  rw [h, Nat.mod_eq_of_lt hlt]
theorem fits_begs {f path : Nat → Nat} {s : ByteArray} {t i : Nat} (h15 : f i ≤ 15) (h0 : f i ≠ 0) (h1 : 8 * s.size < t + f i) (h : Bt.rval s t (min 15 (8 * s.size - t)) % 2 ^ f i = path i) : Begs f path s t i := by
  refine ⟨h0, h1, ?_⟩
  have e : min 15 (8 * s.size - t) = 8 * s.size - t := by omega
  rw [e] at h
  unfold Like
  rw [← h, Tb.mod_mod (by omega), Nat.mod_eq_of_lt (Bt.rval_lt s t _)]

theorem fits_one {f path : Nat → Nat} {laid : Nat → Prop} (hs : Tb.Sym laid f path) {p i j : Nat} (hi : laid i) (hj : laid j) (h1 : p % 2 ^ f i = path i) (h2 : p % 2 ^ f j = path j) : i = j := by
  rcases Nat.le_total (f i) (f j) with h | h
  · exact hs.apart i j hi hj h (by rw [← h2, Tb.mod_mod h]; exact h1)
  · exact (hs.apart j i hj hi h (by rw [← h1, Tb.mod_mod h]; exact h2)).symm

/-- The same symbol, as many bits, the same error. -/
def Both (s : ByteArray) (t r : Nat) (w : World) (e e' : Ending) (w' : World) (f : Nat → Nat) (len : Nat) : Prop :=
  (∃ i, Laid f len i ∧ t + f i ≤ 8 * s.size ∧ e = .returned (.tuple #[.int .i64 (i : Nat), .int .i64 0]) ∧ e' = .returned (.tuple #[.int .i64 (i : Nat), .int .i64 (f i : Nat), .int .i64 0]) ∧ RStep w w' r s (t + f i)) ∨
  (∃ g : Int, (g = 3 ∨ g = 5) ∧ e = .returned (.tuple #[.int .i64 0, .int .i64 g]) ∧ e' = .returned (.tuple #[.int .i64 0, .int .i64 0, .int .i64 g]) ∧ RStep w w' r s t)

theorem ans_same {f : Nat → Nat} {len : Nat} (hf : ∀ i, f i ≤ 15) (he : errOf f len = 0) {s : ByteArray} {t r : Nat} {w w' : World} {e e' : Ending} (ht : t ≤ 8 * s.size)
    (h : Answer (Laid f len) f (pathOf f len) (Bt.rval s t (min 15 (8 * s.size - t))) s t r w e w') (h' : RefAns f (pathOf f len) len s t e') : Both s t r w e e' w' f len := by
  obtain ⟨hr, hk⟩ := err_ok he
  have hs : Tb.Sym (Laid f len) f (pathOf f len) := sym_of f hf len hr
  rcases h with ⟨i, hi, hp, hl, h1, h2⟩ | ⟨i, hi, hp, hl, h1, h2⟩ | ⟨hn, h1, h2⟩
  · rcases h' with ⟨j, hj, hfu, h3⟩ | ⟨hno, _⟩ | ⟨hno, _⟩
    · obtain rfl := fits_one hs (j := i) (i := j) ⟨hj, hfu.1⟩ hi (full_fits (hf j) (hs.lt j ⟨hj, hfu.1⟩) hfu) hp
      exact .inl ⟨j, hi, hl, h1, h3, h2⟩
    · exact absurd (fits_full (hf i) (hs.lt i hi) hi.2 hl hp) (hno i hi.1)
    · exact absurd (fits_full (hf i) (hs.lt i hi) hi.2 hl hp) (hno i hi.1)
  · rcases h' with ⟨j, hj, hfu, h3⟩ | ⟨hno, _, h3⟩ | ⟨hno, hnb, _⟩
    · obtain rfl := fits_one hs (j := i) (i := j) ⟨hj, hfu.1⟩ hi (full_fits (hf j) (hs.lt j ⟨hj, hfu.1⟩) hfu) hp
      have := hfu.2.1
      omega
    · exact .inr ⟨3, .inl rfl, h1, h3, h2⟩
    · exact absurd (fits_begs (hf i) hi.2 hl hp) (hnb i hi.1)
  · rcases h' with ⟨j, hj, hfu, h3⟩ | ⟨hno, ⟨j, hj, hb⟩, h3⟩ | ⟨hno, hnb, h3⟩
    · exact absurd (full_fits (hf j) (hs.lt j ⟨hj, hfu.1⟩) hfu) (hn j ⟨hj, hfu.1⟩)
    · exfalso
      rcases hk with hk | hk | ⟨hk1, hk2⟩
      · obtain ⟨i, hi, hp⟩ := full f hf len hk (Bt.rval s t (min 15 (8 * s.size - t)))
        exact hn i hi hp
      · exact hb.1 (used_zero f len hk j hj)
      · obtain ⟨m, hm, h1m, hpm, hone⟩ := half_path f hf len hk1 hk2
        have hjm := hone j hj hb.1
        subst hjm
        have := hb.2.1
        have hz : 8 * s.size - t = 0 := by omega
        refine hn j ⟨hm, by omega⟩ ?_
        rw [hz, Nat.min_zero, Bt.rval_zero, hpm, Nat.zero_mod]
    · exact .inr ⟨5, .inr rfl, h1, h3, h2⟩

end Go.Proofs.YtohcngiiijokkaaDoor

/- Length and Distance of any number, the program's and the document's. -/
namespace Go.Proofs.YtohcngiiijokkaaDoor
open Go.RowKit

/-- How many bits more a length's symbol has; the least length. -/
def lb (s : Nat) : Nat := if s < 265 ∨ s = 285 then 0 else (s - 261) / 4
def ll : Nat → Nat
  | 0 => 3
  | s + 1 => ll s + 2 ^ lb (257 + s)
def lenN (s : Nat) : Nat := if s = 285 then 258 else ll (s - 257)
def db (s : Nat) : Nat := if s < 4 then 0 else s / 2 - 1
def dl : Nat → Nat
  | 0 => 1
  | s + 1 => dl s + 2 ^ db s

theorem len_out (x : Int) (w : World) (h : x < 257 ∨ 285 < x) : Calls Tryd.prog 73 #[.int .i64 x] w fun e w' => e = .returned (.tuple #[.int .i64 0, .int .i64 0, .bool false]) ∧ w' = w := by
  rcases h with h | h
  · go_enter Tryd.func73, Tryd.ntmps73
    go_wp2
    go_ret3
    exact ⟨rfl, rfl⟩
  · have h' : ¬ x < 257 := by omega
    go_enter Tryd.func73, Tryd.ntmps73
    go_wp2
    go_ret3
    exact ⟨rfl, rfl⟩

set_option maxRecDepth 10000 in
set_option maxHeartbeats 4000000 in
theorem len_in (x : Nat) (w : World) (h : 257 ≤ x) (h2 : x ≤ 285) : Calls Tryd.prog 73 #[.int .i64 (x : Nat)] w fun e w' => e = .returned (.tuple #[.int .i64 (lenN x : Nat), .int .i64 (lb x : Nat), .bool true]) ∧ w' = w := by
  have hx : x = 257 ∨ x = 258 ∨ x = 259 ∨ x = 260 ∨ x = 261 ∨ x = 262 ∨ x = 263 ∨ x = 264 ∨ x = 265 ∨ x = 266 ∨ x = 267 ∨ x = 268 ∨ x = 269 ∨ x = 270 ∨ x = 271 ∨ x = 272 ∨ x = 273 ∨ x = 274 ∨ x = 275 ∨ x = 276 ∨ x = 277 ∨ x = 278 ∨ x = 279 ∨ x = 280 ∨ x = 281 ∨ x = 282 ∨ x = 283 ∨ x = 284 ∨ x = 285 := by omega
  rcases hx with rfl | rfl | rfl | rfl | rfl | rfl | rfl | rfl | rfl | rfl | rfl | rfl | rfl | rfl | rfl | rfl | rfl | rfl | rfl | rfl | rfl | rfl | rfl | rfl | rfl | rfl | rfl | rfl | rfl
  all_goals
    go_enter Tryd.func73, Tryd.ntmps73
    go_wp2
    go_ret3
    exact ⟨rfl, rfl⟩

theorem dist_out (x : Int) (w : World) (h : x < 0 ∨ 30 ≤ x) : Calls Tryd.prog 74 #[.int .i64 x] w fun e w' => e = .returned (.tuple #[.int .i64 0, .int .i64 0, .bool false]) ∧ w' = w := by
  rcases h with h | h
  · go_enter Tryd.func74, Tryd.ntmps74
    go_wp2
    go_ret3
    exact ⟨rfl, rfl⟩
  · have h' : ¬ x < 0 := by omega
    go_enter Tryd.func74, Tryd.ntmps74
    go_wp2
    go_ret3
    exact ⟨rfl, rfl⟩

set_option maxRecDepth 10000 in
set_option maxHeartbeats 4000000 in
theorem dist_in (x : Nat) (w : World) (h2 : x ≤ 29) : Calls Tryd.prog 74 #[.int .i64 (x : Nat)] w fun e w' => e = .returned (.tuple #[.int .i64 (dl x : Nat), .int .i64 (db x : Nat), .bool true]) ∧ w' = w := by
  have hx : x = 0 ∨ x = 1 ∨ x = 2 ∨ x = 3 ∨ x = 4 ∨ x = 5 ∨ x = 6 ∨ x = 7 ∨ x = 8 ∨ x = 9 ∨ x = 10 ∨ x = 11 ∨ x = 12 ∨ x = 13 ∨ x = 14 ∨ x = 15 ∨ x = 16 ∨ x = 17 ∨ x = 18 ∨ x = 19 ∨ x = 20 ∨ x = 21 ∨ x = 22 ∨ x = 23 ∨ x = 24 ∨ x = 25 ∨ x = 26 ∨ x = 27 ∨ x = 28 ∨ x = 29 := by omega
  rcases hx with rfl | rfl | rfl | rfl | rfl | rfl | rfl | rfl | rfl | rfl | rfl | rfl | rfl | rfl | rfl | rfl | rfl | rfl | rfl | rfl | rfl | rfl | rfl | rfl | rfl | rfl | rfl | rfl | rfl | rfl
  all_goals
    go_enter Tryd.func74, Tryd.ntmps74
    go_wp2
    go_ret3
    exact ⟨rfl, rfl⟩
end Go.Proofs.YtohcngiiijokkaaDoor
