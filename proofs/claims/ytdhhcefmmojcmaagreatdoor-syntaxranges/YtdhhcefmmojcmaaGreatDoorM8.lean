/- Texts of this proof, one behind the other: what each says stands ahead of it. -/
import Derived.Test.YtdhhcefmmojcmaaGreatDoorM0
import Derived.Test.YtdhhcefmmojcmaaGreatDoorM7
import Derived.Laws.Rows
/- A parser of patterns in memory; no condition. -/
namespace Go.Proofs.YtdhhcefmmojcmaaGreatDoor
open Go.RowKit
open Go.Lib

/-- What a parser keeps: the scalars, their places, the text, and where they lie. -/
structure Px where
  R : List Int
  P : List Int
  s : ByteArray
  cd : Int
  bd : Int
  ar : Option Addr
  cr : Nat
  ap : Option Addr
  cp : Nat
def Px.cells (X : Px) (k : Nat) (f : Fl) (vn : Value) (op : Nat) : Array Value :=
  #[.int .i64 X.cd, .slice X.ar X.R.length X.cr, .slice X.ap X.P.length X.cp, .int .i64 X.bd, .string X.s, .int .i64 (k : Nat), .bool f.i, .bool f.m, .bool f.s, .bool f.u, vn, .int .i64 (op : Nat)]
def SL (w : World) (v : Value) (ks : List ByteArray) : Prop := w.ownsRow 0 9 1 v ks.length (ks.map Value.string)
/-- A parser in memory: its place, its flags, the names so far, how many brackets are open. -/
structure PS (w : World) (b : Nat) (X : Px) (k : Nat) (f : Fl) (vn : Value) (ns : List ByteArray) (op : Nat) : Prop where
  cells : w.heap[b]? = some (.cells (X.cells k f vn op) 74 (0, 0))
  runes : Io w X.ar X.R
  places : Io w X.ap X.P
  names : SL w vn ns
  oldR : ∀ g o, X.ar = some ⟨g, o, none⟩ → g < b
  oldP : ∀ g o, X.ap = some ⟨g, o, none⟩ → g < b
  env : Sx w
  low : 7 ≤ b
  lowN : ∀ g, vn.ownBlock = some g → 7 ≤ g
  apN : ∀ g o, X.ar = some ⟨g, o, none⟩ ∨ X.ap = some ⟨g, o, none⟩ → vn.ownBlock ≠ some g
/-- What is true of the text all along. -/
structure Px.Good (X : Px) : Prop where
  lenR : X.R.length ≤ 1024
  lenP : X.P.length = X.R.length + 1
  nonneg : ∀ c ∈ X.R, 0 ≤ c ∧ c ≤ 1114111
  size : X.s.size ≤ 1024
  up : ∀ i (h : i < X.P.length), 0 ≤ X.P[i] ∧ X.P[i] ≤ X.s.size
  ascii : ∀ i (h : i < X.R.length) (h1 : i < X.P.length) (h2 : i + 1 < X.P.length), X.R[i] < 128 → X.P[i + 1] = X.P[i] + 1 ∧ X.s.data.toList[X.P[i].toNat]? = some (UInt8.ofNat X.R[i].toNat)
  mono : ∀ i (h1 : i < X.P.length) (h2 : i + 1 < X.P.length), X.P[i] ≤ X.P[i + 1]
theorem own_lt2 {w : World} {base : Nat} {e : TypeId} {sz n : Nat} {v : Value} {xs : List Value} (h : w.ownsRow base e sz v n xs) : ∀ g, v.ownBlock = some g → g < w.heap.size := by
  intro g eg
  rcases h.2 with ⟨hv, _⟩ | ⟨g2, _, _, hv, _, hh, _⟩
  · rw [hv] at eg
    cases eg
  · rw [hv] at eg
    cases eg
    exact lt_of_block hh
theorem own_type {w : World} {base : Nat} {e : TypeId} {sz n : Nat} {v : Value} {xs : List Value} (h : w.ownsRow base e sz v n xs) : ∀ g, v.ownBlock = some g → ∃ cs fr, w.heap[g]? = some (.cells cs e fr) := by
  intro g eg
  rcases h.2 with ⟨hv, _⟩ | ⟨g2, _, _, hv, _, hh, _⟩
  · rw [hv] at eg
    cases eg
  · rw [hv] at eg
    cases eg
    exact ⟨_, _, hh⟩
theorem rowKept {w w' : World} {e : TypeId} {sz n : Nat} {v : Value} {xs : List Value} {S : Nat → Prop} (h : w.ownsRow 0 e sz v n xs) (tc : Touch S w w') (hn : ∀ g, v.ownBlock = some g → ¬ S g) : w'.ownsRow 0 e sz v n xs := by
  refine ⟨h.1, ?_⟩
  rcases h.2 with h0 | ⟨g, cap, cur, hv, hg, hh, rest⟩
  · exact .inl h0
  · exact .inr ⟨g, cap, cur, hv, hg, (tc.block g (lt_of_block hh) (hn g (by rw [hv]; rfl))).trans hh, rest⟩
theorem Io.kept {w w' : World} {S : Nat → Prop} {a : Option Addr} {l : List Int} (h : Io w a l) (t : Touch S w w') (hs : ∀ b o, a = some ⟨b, o, none⟩ → ¬ S b) (hb : ∀ b o, l ≠ [] → a = some ⟨b, o, none⟩ → b < w.heap.size) : Io w' a l := by
  rcases h with h | ⟨b, o, rfl, hc⟩
  · exact .inl h
  · by_cases hl : l = []
    · exact .inl hl
    · exact .inr ⟨b, o, rfl, fun i hi => by rw [t.cell (p := ⟨b, o + i, none⟩) (hb b o hl rfl) (hs b o rfl)]; exact hc i hi⟩
theorem io_lt {w : World} {l : List Int} {b o : Nat} (h : Io w (some ⟨b, o, none⟩) l) (hl : l ≠ []) : b < w.heap.size := by
  rcases h with h | ⟨b', o', e, hc⟩
  · exact absurd h hl
  · cases e
    have := hc 0 (List.length_pos_iff.2 hl)
    unfold World.cell? at this
    rcases Nat.lt_or_ge b w.heap.size with g | g
    · exact g
    · rw [Array.getElem?_eq_none g] at this
      cases this
theorem Io.new {w w' : World} {a : Option Addr} {l : List Int} (h : Io w a l) (t : Touch (fun _ => False) w w') : Io w' a l :=
  h.kept t (fun _ _ _ e => e) (fun b o hl e => io_lt (by rw [e] at h; exact h) hl)

theorem PS.c1 {w : World} {b : Nat} {X : Px} {k : Nat} {f : Fl} {vn : Value} {ns : List ByteArray} {op : Nat} (h : PS w b X k f vn ns op) : w.cell? ⟨b, 1, none⟩ = some (.slice X.ar X.R.length X.cr) := by have := h.cells; simp [World.cell?, this, Px.cells]
theorem PS.c2 {w : World} {b : Nat} {X : Px} {k : Nat} {f : Fl} {vn : Value} {ns : List ByteArray} {op : Nat} (h : PS w b X k f vn ns op) : w.cell? ⟨b, 2, none⟩ = some (.slice X.ap X.P.length X.cp) := by have := h.cells; simp [World.cell?, this, Px.cells]
theorem PS.c4 {w : World} {b : Nat} {X : Px} {k : Nat} {f : Fl} {vn : Value} {ns : List ByteArray} {op : Nat} (h : PS w b X k f vn ns op) : w.cell? ⟨b, 4, none⟩ = some (.string X.s) := by have := h.cells; simp [World.cell?, this, Px.cells]
theorem PS.c5 {w : World} {b : Nat} {X : Px} {k : Nat} {f : Fl} {vn : Value} {ns : List ByteArray} {op : Nat} (h : PS w b X k f vn ns op) : w.cell? ⟨b, 5, none⟩ = some (.int .i64 (k : Nat)) := by have := h.cells; simp [World.cell?, this, Px.cells]
theorem PS.c6 {w : World} {b : Nat} {X : Px} {k : Nat} {f : Fl} {vn : Value} {ns : List ByteArray} {op : Nat} (h : PS w b X k f vn ns op) : w.cell? ⟨b, 6, none⟩ = some (.bool f.i) := by have := h.cells; simp [World.cell?, this, Px.cells]
theorem PS.c7 {w : World} {b : Nat} {X : Px} {k : Nat} {f : Fl} {vn : Value} {ns : List ByteArray} {op : Nat} (h : PS w b X k f vn ns op) : w.cell? ⟨b, 7, none⟩ = some (.bool f.m) := by have := h.cells; simp [World.cell?, this, Px.cells]
theorem PS.c8 {w : World} {b : Nat} {X : Px} {k : Nat} {f : Fl} {vn : Value} {ns : List ByteArray} {op : Nat} (h : PS w b X k f vn ns op) : w.cell? ⟨b, 8, none⟩ = some (.bool f.s) := by have := h.cells; simp [World.cell?, this, Px.cells]
theorem PS.c9 {w : World} {b : Nat} {X : Px} {k : Nat} {f : Fl} {vn : Value} {ns : List ByteArray} {op : Nat} (h : PS w b X k f vn ns op) : w.cell? ⟨b, 9, none⟩ = some (.bool f.u) := by have := h.cells; simp [World.cell?, this, Px.cells]
theorem PS.c10 {w : World} {b : Nat} {X : Px} {k : Nat} {f : Fl} {vn : Value} {ns : List ByteArray} {op : Nat} (h : PS w b X k f vn ns op) : w.cell? ⟨b, 10, none⟩ = some vn := by have := h.cells; simp [World.cell?, this, Px.cells]
theorem PS.c11 {w : World} {b : Nat} {X : Px} {k : Nat} {f : Fl} {vn : Value} {ns : List ByteArray} {op : Nat} (h : PS w b X k f vn ns op) : w.cell? ⟨b, 11, none⟩ = some (.int .i64 (op : Nat)) := by have := h.cells; simp [World.cell?, this, Px.cells]
theorem PS.fr {w : World} {b : Nat} {X : Px} {k : Nat} {f : Fl} {vn : Value} {ns : List ByteArray} {op : Nat} (h : PS w b X k f vn ns op) (i : Nat) : w.frozen? ⟨b, i, none⟩ = false := by have := h.cells; simp [World.frozen?, this]
theorem PS.lt {w : World} {b : Nat} {X : Px} {k : Nat} {f : Fl} {vn : Value} {ns : List ByteArray} {op : Nat} (h : PS w b X k f vn ns op) : b < w.heap.size := lt_of_block h.cells
theorem PS.new {w w' : World} {b : Nat} {X : Px} {k : Nat} {f : Fl} {vn : Value} {ns : List ByteArray} {op : Nat} (h : PS w b X k f vn ns op) (t : Touch (fun _ => False) w w') : PS w' b X k f vn ns op :=
  ⟨(t.block b h.lt id).trans h.cells, h.runes.new t, h.places.new t, rowKept h.names t (fun _ _ e => e), h.oldR, h.oldP, h.env.new t, h.low, h.lowN, h.apN⟩
/-- The names lie in a block of their own. -/
theorem PS.apart {w : World} {b : Nat} {X : Px} {k : Nat} {f : Fl} {vn : Value} {ns : List ByteArray} {op : Nat} (h : PS w b X k f vn ns op) : vn.ownBlock ≠ some b := by
  intro e
  obtain ⟨cs, fr, hh⟩ := own_type h.names b e
  rw [h.cells] at hh
  cases hh
/-- What lies in the parser's own block alone is turned. -/
theorem PS.turn {w w' : World} {b : Nat} {X : Px} {k k' : Nat} {f f' : Fl} {vn : Value} {ns : List ByteArray} {op op' : Nat} (h : PS w b X k f vn ns op) (hc : w'.heap[b]? = some (.cells (X.cells k' f' vn op') 74 (0, 0))) (t : Touch (fun g => g = b) w w') : PS w' b X k' f' vn ns op' :=
  ⟨hc, h.runes.kept t (fun g o e x => by have := h.oldR g o e; omega) (fun g o hl e => io_lt (by rw [← e]; exact h.runes) hl), h.places.kept t (fun g o e x => by have := h.oldP g o e; omega) (fun g o hl e => io_lt (by rw [← e]; exact h.places) hl), rowKept h.names t (fun g e x => by subst x; exact h.apart e), h.oldR, h.oldP, h.env.kept t (fun g e => by subst e; exact h.low), h.low, h.lowN, h.apN⟩
theorem touch_one (w : World) (b i : Nat) (x : Value) : Touch (fun g => g = b) w (w.setCell ⟨b, i, none⟩ x) := Touch.setCell (S := fun g => g = b) (Touch.refl _ _) (p := ⟨b, i, none⟩) (fun _ => rfl) x
theorem PS.setk {w : World} {b : Nat} {X : Px} {k : Nat} {f : Fl} {vn : Value} {ns : List ByteArray} {op : Nat} (h : PS w b X k f vn ns op) (k' : Nat) : PS (w.setCell ⟨b, 5, none⟩ (.int .i64 (k' : Nat))) b X k' f vn ns op :=
  h.turn (block_set h.cells 5 _) (touch_one _ _ _ _)
theorem PS.setop {w : World} {b : Nat} {X : Px} {k : Nat} {f : Fl} {vn : Value} {ns : List ByteArray} {op : Nat} (h : PS w b X k f vn ns op) (op' : Nat) : PS (w.setCell ⟨b, 11, none⟩ (.int .i64 (op' : Nat))) b X k f vn ns op' :=
  h.turn (block_set h.cells 11 _) (touch_one _ _ _ _)
end Go.Proofs.YtdhhcefmmojcmaaGreatDoor

/- Latin1's taker; no condition beside those told. -/
namespace Go.Proofs.YtdhhcefmmojcmaaGreatDoor
open Go.RowKit

/-- The byte at a place. -/
def byN (s : ByteArray) (i : Nat) : Nat := if h : i < s.size then s[i].toNat else 0
theorem by_get (s : ByteArray) (i : Nat) (h : i < s.size) : s[i].toNat = byN s i := by
  unfold byN
  rw [dif_pos h]
theorem by_lt (s : ByteArray) (i : Nat) : byN s i < 256 := by
  unfold byN
  split
  · exact UInt8.toNat_lt _
  · omega

theorem wraps_i64 (n : Int) (h₀ : 0 ≤ n) (h₁ : n < 2 ^ 62) : IntKind.i64.wrap n = n := by rw [IntKind.wrap_i64]; omega
theorem i64_or_nat (a b : Nat) (ha : a < 2 ^ 62) (hb : b < 2 ^ 62) : bits .or .i64 (a : Int) (b : Int) = ((a ||| b : Nat) : Int) :=
  (bits_nat .i64 62 (by decide) wraps_i64 a b ha hb).2
theorem or_low (a b k : Nat) (ha : a < 2 ^ k) (hb : 2 ^ k * b + a < 2 ^ 62) : bits .or .i64 (a : Int) ((2 ^ k * b : Nat) : Int) = ((a + 2 ^ k * b : Nat) : Int) := by
  rw [i64_or_nat _ _ (by omega) (by omega), Nat.or_comm, ← Nat.two_pow_add_eq_or_of_lt ha, Nat.add_comm]
theorem or_high (a b k : Nat) (ha : a < 2 ^ k) (hb : 2 ^ k * b + a < 2 ^ 62) : bits .or .i64 ((2 ^ k * b : Nat) : Int) (a : Int) = ((2 ^ k * b + a : Nat) : Int) := by
  rw [i64_or_nat _ _ (by omega) (by omega), ← Nat.two_pow_add_eq_or_of_lt ha]
/-- Two bytes as one number. -/
theorem two_bytes (x y : Nat) (hx : x < 256) (hy : y < 256) : bits .or .i64 (wrap64 (x : Int)) (wrap64 (wrap64 (y : Int) * 256)) = ((x + 256 * y : Nat) : Int) := by
  have e1 : wrap64 (x : Int) = (x : Int) := IntWalk.wrap64_in _ (by omega)
  have e2 : wrap64 (y : Int) = (y : Int) := IntWalk.wrap64_in _ (by omega)
  rw [e1, e2, show (y : Int) * 256 = ((2 ^ 8 * y : Nat) : Int) by omega, IntWalk.wrap64_in _ (by omega), or_low x y 8 (by omega) (by omega)]

set_option maxRecDepth 100000 in
theorem take_latin (b i : Nat) (s : ByteArray) (w : World) (hd : w.cell? ⟨b, 0, none⟩ = some (.string s)) (hi : i < s.size) :
    Calls Tryz.prog 65 (#[.int .i64 i] ++ #[.pointer (some ⟨b, 0, none⟩)]) w fun e w' => e = .returned (.tuple #[.int .i64 (byN s i : Nat), .int .i64 1]) ∧ Touch (fun _ => False) w w' := by
  have hiI : (i : Int) < (s.size : Int) := by omega
  have HB := hid (by_get s i hi)
  go_enter Tryz.func65, Tryz.ntmps65
  go_wp2
  go_ret2
  exact ⟨by rw [HB.out, IntWalk.wrap64_in _ (by have := by_lt s i; omega)]; rfl, Touch.refl _ _⟩
set_option maxRecDepth 100000 in
theorem units_little (bd bl bh i : Nat) (s : ByteArray) (w : World) (hd : w.cell? ⟨bd, 0, none⟩ = some (.string s)) (hl : w.cell? ⟨bl, 0, none⟩ = some (.int .i64 0)) (hh : w.cell? ⟨bh, 0, none⟩ = some (.int .i64 1)) (hs : s.size ≤ 140737488351232) (hi2 : i ≤ 140737488351240) :
    Calls Tryz.prog 90 (#[.int .i64 i] ++ #[.pointer (some ⟨bd, 0, none⟩), .pointer (some ⟨bl, 0, none⟩), .pointer (some ⟨bh, 0, none⟩)]) w fun e w' => e = .returned (.int .i64 (if s.size < i + 2 then -1 else (byN s i + 256 * byN s (i + 1) : Nat))) ∧ Touch (fun _ => False) w w' := by
  by_cases h2 : s.size < i + 2
  · have hq : (s.size : Int) < (i : Int) + 2 := by omega
    rw [if_pos h2]
    go_enter Tryz.func90, Tryz.ntmps90
    go_wp2
    go_ret
    exact ⟨rfl, Touch.refl _ _⟩
  · have hq : ¬ ((s.size : Int) < (i : Int) + 2) := by omega
    rw [if_neg h2]
    have q1 : (i : Int) < (s.size : Int) := by omega
    obtain ⟨j, hj⟩ : ∃ j, j = i + 1 := ⟨_, rfl⟩
    have q2 : (j : Int) < (s.size : Int) := by omega
    have q3 : i < s.size := by omega
    have q4 : j < s.size := by omega
    rw [← hj]
    have z0 : IntKind.i64.wrap (i : Int) = (i : Int) := by rw [IntKind.wrap_i64]; omega
    have z1 : IntKind.i64.wrap ((i : Int) + 1) = (j : Int) := by rw [IntKind.wrap_i64]; omega
    have HB1 := hid (by_get s i q3)
    have HB2 := hid (by_get s j q4)
    have HV := hid (two_bytes (byN s i) (byN s j) (by_lt s i) (by_lt s j))
    clear hj h2
    go_enter Tryz.func90, Tryz.ntmps90
    go_wp2_with fail
    go_quiet (fail)
    go_wp2
    go_ret
    exact ⟨by rw [HB1.out, HB2.out, HV.out]; rfl, (Touch.refl _ w).drewN _⟩
set_option maxRecDepth 100000 in
theorem units_big (bd bl bh i : Nat) (s : ByteArray) (w : World) (hd : w.cell? ⟨bd, 0, none⟩ = some (.string s)) (hl : w.cell? ⟨bl, 0, none⟩ = some (.int .i64 1)) (hh : w.cell? ⟨bh, 0, none⟩ = some (.int .i64 0)) (hs : s.size ≤ 140737488351232) (hi2 : i ≤ 140737488351240) :
    Calls Tryz.prog 90 (#[.int .i64 i] ++ #[.pointer (some ⟨bd, 0, none⟩), .pointer (some ⟨bl, 0, none⟩), .pointer (some ⟨bh, 0, none⟩)]) w fun e w' => e = .returned (.int .i64 (if s.size < i + 2 then -1 else (byN s (i + 1) + 256 * byN s i : Nat))) ∧ Touch (fun _ => False) w w' := by
  by_cases h2 : s.size < i + 2
  · have hq : (s.size : Int) < (i : Int) + 2 := by omega
    rw [if_pos h2]
    go_enter Tryz.func90, Tryz.ntmps90
    go_wp2
    go_ret
    exact ⟨rfl, Touch.refl _ _⟩
  · have hq : ¬ ((s.size : Int) < (i : Int) + 2) := by omega
    rw [if_neg h2]
    have q1 : (i : Int) < (s.size : Int) := by omega
    obtain ⟨j, hj⟩ : ∃ j, j = i + 1 := ⟨_, rfl⟩
    have q2 : (j : Int) < (s.size : Int) := by omega
    have q3 : i < s.size := by omega
    have q4 : j < s.size := by omega
    rw [← hj]
    have z0 : IntKind.i64.wrap (i : Int) = (i : Int) := by rw [IntKind.wrap_i64]; omega
    have z1 : IntKind.i64.wrap ((i : Int) + 1) = (j : Int) := by rw [IntKind.wrap_i64]; omega
    have HB1 := hid (by_get s i q3)
    have HB2 := hid (by_get s j q4)
    have HV := hid (two_bytes (byN s j) (byN s i) (by_lt s j) (by_lt s i))
    clear hj h2
    go_enter Tryz.func90, Tryz.ntmps90
    go_wp2_with fail
    go_quiet (fail)
    go_wp2
    go_ret
    exact ⟨by rw [HB1.out, HB2.out, HV.out]; rfl, (Touch.refl _ w).drewN _⟩
end Go.Proofs.YtdhhcefmmojcmaaGreatDoor

/- The table of first bytes, and the row that a first byte has; condition: the two tables lie there. -/
namespace Go.Proofs.YtdhhcefmmojcmaaGreatDoor
open Go.RowKit

/-- A row: first, last, how many follow, the second's least and greatest. -/
structure Lead where
  first : Nat
  last : Nat
  more : Nat
  low : Nat
  high : Nat

def leadsL : List Lead := [⟨0, 127, 0, 0, 0⟩, ⟨194, 223, 1, 128, 191⟩, ⟨224, 224, 2, 160, 191⟩, ⟨225, 236, 2, 128, 191⟩, ⟨237, 237, 2, 128, 159⟩, ⟨238, 239, 2, 128, 191⟩, ⟨240, 240, 3, 144, 191⟩, ⟨241, 243, 3, 128, 191⟩, ⟨244, 244, 3, 128, 143⟩]
def leadV (l : Lead) : Array Value := #[.int .u8 l.first, .int .u8 l.last, .int .i64 l.more, .int .u8 l.low, .int .u8 l.high]
def leadsC : Array Value := #[.int .u8 0, .int .u8 127, .int .i64 0, .int .u8 0, .int .u8 0, .int .u8 194, .int .u8 223, .int .i64 1, .int .u8 128, .int .u8 191, .int .u8 224, .int .u8 224, .int .i64 2, .int .u8 160, .int .u8 191, .int .u8 225, .int .u8 236, .int .i64 2, .int .u8 128, .int .u8 191, .int .u8 237, .int .u8 237, .int .i64 2, .int .u8 128, .int .u8 159, .int .u8 238, .int .u8 239, .int .i64 2, .int .u8 128, .int .u8 191, .int .u8 240, .int .u8 240, .int .i64 3, .int .u8 144, .int .u8 191, .int .u8 241, .int .u8 243, .int .i64 3, .int .u8 128, .int .u8 191, .int .u8 244, .int .u8 244, .int .i64 3, .int .u8 128, .int .u8 143]
def marksC : Array Value := #[.string ⟨#[]⟩, .string ⟨#[239, 187, 191]⟩, .string ⟨#[255, 254]⟩, .string ⟨#[254, 255]⟩, .string ⟨#[]⟩]
/-- Both tables lie where they lie. -/
structure TabsK (w : World) : Prop where
  marks : ∃ t, w.heap[0]? = some (.cells marksC t (0, 0))
  leads : ∃ t, w.heap[1]? = some (.cells leadsC t (0, 0))
theorem TabsK.new {w w' : World} (h : TabsK w) (t : Touch (fun _ => False) w w') : TabsK w' := by
  obtain ⟨⟨t0, h0⟩, ⟨t1, h1⟩⟩ := h
  exact ⟨⟨t0, (t.block 0 (lt_of_block h0) id).trans h0⟩, ⟨t1, (t.block 1 (lt_of_block h1) id).trans h1⟩⟩
theorem info70 : (Tryz.prog.info? 147).map (fun i => (i.zero, i.size, i.bytes)) = some (some (.agg #[.int .u8 0, .int .u8 0, .int .i64 0, .int .u8 0, .int .u8 0]), 5, 24) := by kernel_rfl
theorem run_index73 (k : Nat) (l : Lead) (w : World) (hk : k < 9) (hx : leadsL[k]? = some l) : (Instr.index 162 (.agg leadsC) (.int .i64 (k : Int))).run Tryz.prog w = .ok (.agg (leadV l)) w := by
  obtain ⟨i0, h1, hz0, hz1, hz2⟩ := info_parts info70
  rcases (show k = 0 ∨ k = 1 ∨ k = 2 ∨ k = 3 ∨ k = 4 ∨ k = 5 ∨ k = 6 ∨ k = 7 ∨ k = 8 by omega) with rfl | rfl | rfl | rfl | rfl | rfl | rfl | rfl | rfl <;>
    (simp [leadsL] at hx
     subst hx
     simp [Instr.index, run_underlying Tryz.underlying162, asIntOf, go_sem, part, sizeOf, typeInfo, h1, hz1, leadsC, leadV])
def hasLead (b : Nat) (l : Lead) : Bool := decide (l.first ≤ b) && decide (b ≤ l.last)
def leadOf (b : Nat) : Option Lead := leadsL.find? (hasLead b)
theorem find_moreK {α : Type} (f : α → Bool) (l : List α) (k : Nat) (h : k < l.length) (h0 : (l.take k).find? f = none) : (l.take (k + 1)).find? f = if f l[k] = true then some l[k] else none := by
  rw [List.take_succ_eq_append_getElem h, List.find?_append, h0]
  simp [List.find?_cons]
  split <;> simp_all
theorem find_thereK {α : Type} (f : α → Bool) (l : List α) (k : Nat) (x : α) (h : (l.take k).find? f = some x) : l.find? f = some x := by
  rw [← List.take_append_drop k l, List.find?_append, h]
  rfl
theorem lead_small : ∀ l ∈ leadsL, l.first < 256 ∧ l.last < 256 ∧ l.more ≤ 3 ∧ l.low < 256 ∧ l.high < 256 := by decide
theorem results_ct {P : Program} {fn : Func} {p q : Tmp} {ty : TypeId} (h : fn.results = #[.cell p ty, .tmp q]) (tmps : Array Value) (w : World) (g : Nat) (et : TypeId) (cs : Array Value) (fr : Nat × Nat) (d : TypeDesc)
    (hp : tmps.getD p undef = .pointer (some ⟨g, 0, none⟩)) (hg : w.heap[g]? = some (.cells cs et fr))
    (hu : P.underlying ty = some d) (hd : (match d with | .struct _ | .array _ _ => true | _ => false) = true) (hi : (P.info? ty).map (·.size) = some cs.size) :
    (results fn tmps).run P w = .ok (.tuple #[.agg cs, tmps.getD q undef]) w := by
  have hp' : tmps[p]?.getD undef = .pointer (some ⟨g, 0, none⟩) := by simpa using hp
  simp [results, h, hp', asAddr, run_loadVar_row w g et ty cs fr d hg hu hd hi]
theorem block_new (w : World) (cs : Array Value) (t : TypeId) : (w.alloc (.cells cs t)).heap[w.heap.size]? = some (.cells cs t (0, 0)) := by
  show (w.heap.push _)[_]? = _
  simp

/-- What leadOf answers. -/
def leadR (b : Nat) : Value := .tuple (match leadOf b with | some l => #[.agg (leadV l), .bool true] | none => #[.agg #[.int .u8 0, .int .u8 0, .int .i64 0, .int .u8 0, .int .u8 0], .bool false])
theorem leadR_some {b : Nat} {l : Lead} (h : leadOf b = some l) : leadR b = .tuple #[.agg (leadV l), .bool true] := by unfold leadR; rw [h]
theorem leadR_none {b : Nat} (h : leadOf b = none) : leadR b = .tuple #[.agg #[.int .u8 0, .int .u8 0, .int .i64 0, .int .u8 0, .int .u8 0], .bool false] := by unfold leadR; rw [h]
/-- Five cells set one behind the other. -/
theorem five_set {w : World} {g : Nat} {t : TypeId} {a0 a1 a2 a3 a4 : Value} (h : w.heap[g]? = some (.cells #[a0, a1, a2, a3, a4] t (0, 0))) (b0 b1 b2 b3 b4 : Value) :
    (((((w.setCell ⟨g, 0, none⟩ b0).setCell ⟨g, 1, none⟩ b1).setCell ⟨g, 2, none⟩ b2).setCell ⟨g, 3, none⟩ b3).setCell ⟨g, 4, none⟩ b4).heap[g]? = some (.cells #[b0, b1, b2, b3, b4] t (0, 0)) :=
  block_set (block_set (block_set (block_set (block_set h 0 b0) 1 b1) 2 b2) 3 b3) 4 b4
theorem five_touch {w0 w : World} {g : Nat} (h : Touch (fun _ => False) w0 w) (hg : w0.heap.size ≤ g) (b0 b1 b2 b3 b4 : Value) :
    Touch (fun _ => False) w0 (((((w.setCell ⟨g, 0, none⟩ b0).setCell ⟨g, 1, none⟩ b1).setCell ⟨g, 2, none⟩ b2).setCell ⟨g, 3, none⟩ b3).setCell ⟨g, 4, none⟩ b4) :=
  ((((h.setCell (p := ⟨g, 0, none⟩) (fun k => absurd k (Nat.not_lt.2 hg)) b0).setCell (p := ⟨g, 1, none⟩) (fun k => absurd k (Nat.not_lt.2 hg)) b1).setCell (p := ⟨g, 2, none⟩) (fun k => absurd k (Nat.not_lt.2 hg)) b2).setCell (p := ⟨g, 3, none⟩) (fun k => absurd k (Nat.not_lt.2 hg)) b3).setCell (p := ⟨g, 4, none⟩) (fun k => absurd k (Nat.not_lt.2 hg)) b4

set_option maxRecDepth 100000 in
set_option maxHeartbeats 4000000 in
theorem leadOf_any (b : Nat) (w : World) (ht : TabsK w) :
    Calls Tryz.prog 92 #[.int .u8 b] w fun e w' => e = .returned (leadR b) ∧ Touch (fun _ => False) w w' := by
  have HT := hid ht
  obtain ⟨_, ⟨t1, h1⟩⟩ := ht
  have B0 := hid (block_new w #[.int .u8 0, .int .u8 0, .int .i64 0, .int .u8 0, .int .u8 0] 147)
  have TA := hid ((Touch.refl (fun _ => False) w).alloc (.cells #[.int .u8 0, .int .u8 0, .int .i64 0, .int .u8 0, .int .u8 0] 147))
  have h1' : (w.alloc (.cells #[.int .u8 0, .int .u8 0, .int .i64 0, .int .u8 0, .int .u8 0] 147)).heap[1]? = some (.cells leadsC t1 (0, 0)) := (TA.out.block 1 (lt_of_block h1) id).trans h1
  go_enter Tryz.func92, Tryz.ntmps92
  go_wp2_with (first | refine wpList_load_row rfl 162 _ rfl 1 rfl t1 leadsC (0, 0) _ h1' Tryz.underlying162 rfl (by kernel_rfl) ?_ | fail)
  generalize (w.alloc (.cells #[.int .u8 0, .int .u8 0, .int .i64 0, .int .u8 0, .int .u8 0] 147)) = w1 at *
  obtain ⟨g, hg⟩ : ∃ g, g = w.heap.size := ⟨_, rfl⟩
  rw [← hg] at B0 ⊢
  have HGW := hid (show w.heap.size ≤ g by omega)
  clear hg h1 h1'
  go_loopg [7] 9 (fun gk i wq => ∃ k : Nat, k + gk = 9 ∧ i = .int .i64 (k : Nat) ∧ (leadsL.take k).find? (hasLead b) = none ∧ Touch (fun _ => False) w1 wq)
  case atStart => exact ⟨0, rfl, rfl, rfl, Touch.refl _ _⟩
  case round =>
    obtain ⟨k, hk, rfl, hno, htc⟩ := hrel
    have TC := hid htc
    have HNO := hid hno
    clear hno htc
    by_cases hlt : k < 9
    · obtain ⟨l, hl⟩ : ∃ l, leadsL[k]? = some l := ⟨leadsL[k]'(by simpa [leadsL] using hlt), List.getElem?_eq_getElem _⟩
      have hix := run_index73 k l wr hlt hl
      have hgk : leadsL[k]'(by simpa [leadsL] using hlt) = l := by
        rw [List.getElem?_eq_getElem (by simpa [leadsL] using hlt)] at hl
        exact Option.some.inj hl
      have HF := hid (find_moreK (hasLead b) leadsL k (by simpa [leadsL] using hlt) HNO.out)
      rw [hgk] at HF
      have hsm := lead_small l (by rw [← hgk]; exact List.getElem_mem _)
      have hkI : (k : Int) < 9 := by omega
      clear hl hgk
      obtain ⟨x, y, m, lo, hi⟩ := l
      unfold leadV at hix
      dsimp only at hix hsm HF
      have B5 := hid (block_new wr #[.int .u8 x, .int .u8 y, .int .i64 m, .int .u8 lo, .int .u8 hi] 147)
      have T5 := hid (TC.out.alloc (.cells #[.int .u8 x, .int .u8 y, .int .i64 m, .int .u8 lo, .int .u8 hi] 147))
      go_upto_region 4 with fail
      generalize (wr.alloc (.cells #[.int .u8 x, .int .u8 y, .int .i64 m, .int .u8 lo, .int .u8 hi] 147)) = wA at *
      have c0 : wA.cell? ⟨wr.heap.size, 0, none⟩ = some (.int .u8 x) := by simp [World.cell?, B5.out]
      have c1 : wA.cell? ⟨wr.heap.size, 1, none⟩ = some (.int .u8 y) := by simp [World.cell?, B5.out]
      have c2 : wA.cell? ⟨wr.heap.size, 2, none⟩ = some (.int .i64 m) := by simp [World.cell?, B5.out]
      have c3 : wA.cell? ⟨wr.heap.size, 3, none⟩ = some (.int .u8 lo) := by simp [World.cell?, B5.out]
      have c4 : wA.cell? ⟨wr.heap.size, 4, none⟩ = some (.int .u8 hi) := by simp [World.cell?, B5.out]
      have G0 := hid ((T5.out.block g (lt_of_block B0.out) id).trans B0.out)
      have f0 : wA.frozen? ⟨g, 0, none⟩ = false := by simp [World.frozen?, G0.out]
      have f1 : wA.frozen? ⟨g, 1, none⟩ = false := by simp [World.frozen?, G0.out]
      have f2 : wA.frozen? ⟨g, 2, none⟩ = false := by simp [World.frozen?, G0.out]
      have f3 : wA.frozen? ⟨g, 3, none⟩ = false := by simp [World.frozen?, G0.out]
      have f4 : wA.frozen? ⟨g, 4, none⟩ = false := by simp [World.frozen?, G0.out]
      have g0K : wA.cell? ⟨g, 0, none⟩ = some (.int .u8 0) := by simp [World.cell?, G0.out]
      have g1K : wA.cell? ⟨g, 1, none⟩ = some (.int .u8 0) := by simp [World.cell?, G0.out]
      have g2 : wA.cell? ⟨g, 2, none⟩ = some (.int .i64 0) := by simp [World.cell?, G0.out]
      have g3 : wA.cell? ⟨g, 3, none⟩ = some (.int .u8 0) := by simp [World.cell?, G0.out]
      have g4 : wA.cell? ⟨g, 4, none⟩ = some (.int .u8 0) := by simp [World.cell?, G0.out]
      clear hix
      by_cases hx : x ≤ b
      · have hxI : (x : Int) ≤ (b : Int) := by omega
        by_cases hy : b ≤ y
        · have hyI : (b : Int) ≤ (y : Int) := by omega
          have HL := hid (show leadOf b = some ⟨x, y, m, lo, hi⟩ from find_thereK _ _ (k + 1) _ (by rw [HF.out, if_pos (by simp [hasLead, hx, hy])]))
          have TE := hid (TA.out.trans T5.out (fun _ _ e => e))
          go_wp2
          refine bodyPost_ret (results_ct rfl _ _ g 147 _ (0, 0) _ rfl (five_set G0.out _ _ _ _ _) Tryz.underlying147 rfl (by kernel_rfl)) rfl ?_
          exact ⟨by rw [leadR_some HL.out]; rfl, five_touch TE.out HGW.out _ _ _ _ _⟩
        · have HNX := hid (show (leadsL.take (k + 1)).find? (hasLead b) = none by rw [HF.out, if_neg (by simp [hasLead, hy])])
          have hyd : decide ((b : Int) ≤ (y : Int)) = false := decide_eq_false (by omega)
          go_wp2
          go_roundg (gk - 1)
          case measure => omega
          case rel => exact ⟨k + 1, by omega, by go_num, HNX.out, T5.out⟩
      · have HNX := hid (show (leadsL.take (k + 1)).find? (hasLead b) = none by rw [HF.out, if_neg (by simp [hasLead, hx])])
        have hxd : decide ((x : Int) ≤ (b : Int)) = false := decide_eq_false (by omega)
        go_wp2
        go_roundg (gk - 1)
        case measure => omega
        case rel => exact ⟨k + 1, by omega, by go_num, HNX.out, T5.out⟩
    · obtain rfl : k = 9 := by omega
      have HL := hid (show leadOf b = none from HNO.out)
      have G0 := hid ((TC.out.block g (lt_of_block B0.out) id).trans B0.out)
      have f0 : wr.frozen? ⟨g, 0, none⟩ = false := by simp [World.frozen?, G0.out]
      have f1 : wr.frozen? ⟨g, 1, none⟩ = false := by simp [World.frozen?, G0.out]
      have f2 : wr.frozen? ⟨g, 2, none⟩ = false := by simp [World.frozen?, G0.out]
      have f3 : wr.frozen? ⟨g, 3, none⟩ = false := by simp [World.frozen?, G0.out]
      have f4 : wr.frozen? ⟨g, 4, none⟩ = false := by simp [World.frozen?, G0.out]
      have g0K : wr.cell? ⟨g, 0, none⟩ = some (.int .u8 0) := by simp [World.cell?, G0.out]
      have g1K : wr.cell? ⟨g, 1, none⟩ = some (.int .u8 0) := by simp [World.cell?, G0.out]
      have g2 : wr.cell? ⟨g, 2, none⟩ = some (.int .i64 0) := by simp [World.cell?, G0.out]
      have g3 : wr.cell? ⟨g, 3, none⟩ = some (.int .u8 0) := by simp [World.cell?, G0.out]
      have g4 : wr.cell? ⟨g, 4, none⟩ = some (.int .u8 0) := by simp [World.cell?, G0.out]
      have TE := hid (TA.out.trans TC.out (fun _ _ e => e))
      go_wp2
      refine bodyPost_ret (results_ct rfl _ _ g 147 _ (0, 0) _ rfl (five_set G0.out _ _ _ _ _) Tryz.underlying147 rfl (by kernel_rfl)) rfl ?_
      exact ⟨by rw [leadR_none HL.out]; rfl, five_touch TE.out HGW.out _ _ _ _ _⟩
end Go.Proofs.YtdhhcefmmojcmaaGreatDoor
