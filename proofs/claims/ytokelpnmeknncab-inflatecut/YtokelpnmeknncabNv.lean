/- New and the document's New of any list: what both answer; conditions: the list fits into memory. -/
import Derived.Test.YtokelpnmeknncabSpk
import Derived.Test.YtokelpnmeknncabRefC
namespace Go.Proofs.Ytokelpnmeknncab
open Go.RowKit

def okLens (g : Nat → Int) (len : Nat) : Prop := ∀ i, i < len → 0 ≤ g i ∧ g i ≤ 15
def fl (g : Nat → Int) (len i : Nat) : Nat := if i < len then min (g i).toNat 15 else 0

theorem fl_le (g : Nat → Int) (len i : Nat) : fl g len i ≤ 15 := by
  unfold fl
  split <;> omega
theorem fl_eq {g : Nat → Int} {len : Nat} (h : okLens g len) {i : Nat} (hi : i < len) : g i = ((fl g len i : Nat) : Int) := by
  have := h i hi
  unfold fl
  rw [if_pos hi]
  omega
theorem Ints.ext {w : World} {a : Option Addr} {len : Nat} {f g : Nat → Int} (h : Ints w a len f) (e : ∀ i, i < len → f i = g i) : Ints w a len g := by
  rcases h with h | ⟨b, o, rfl, hb, hc⟩
  · exact .inl h
  · exact .inr ⟨b, o, rfl, hb, fun i hi => by rw [← e i hi]; exact hc i hi⟩

/-- What is wrong with lengths: 1 an argument that is none, else as layer 2 says; 0: nothing. -/
def Verd (g : Nat → Int) (len c : Nat) : Prop :=
  (len ≤ 1024 ∧ okLens g len ∧ c = errOf (fl g len) len) ∨ (¬ (len ≤ 1024 ∧ okLens g len) ∧ c = 1)

theorem Verd.same {g : Nat → Int} {len c d : Nat} (h : Verd g len c) (k : Verd g len d) : c = d := by
  rcases h with ⟨h1, h2, h3⟩ | ⟨h1, h2⟩
  · rcases k with ⟨_, _, k3⟩ | ⟨k1, _⟩
    · rw [h3, k3]
    · exact absurd ⟨h1, h2⟩ k1
  · rcases k with ⟨k1, k2, _⟩ | ⟨_, k2⟩
    · exact absurd ⟨k1, k2⟩ h1
    · rw [h2, k2]

theorem verd_le {g : Nat → Int} {len c : Nat} (h : Verd g len c) : c ≤ 7 := by
  rcases h with ⟨_, _, rfl⟩ | ⟨_, rfl⟩
  · unfold errOf
    split
    · omega
    · split <;> omega
  · omega

theorem first_bad (g : Nat → Int) : ∀ len, ¬ okLens g len → ∃ m, m < len ∧ (g m < 0 ∨ 15 < g m) ∧ okLens g m
  | 0, h => absurd (fun i hi => by omega) h
  | n + 1, h => by
    by_cases hn : okLens g n
    · refine ⟨n, by omega, ?_, hn⟩
      rcases Int.lt_or_le (g n) 0 with h0 | h0
      · exact .inl h0
      · rcases Int.lt_or_le 15 (g n) with h1 | h1
        · exact .inr h1
        · refine absurd (fun i hi => ?_) h
          rcases Nat.lt_or_ge i n with k | k
          · exact hn i k
          · obtain rfl : i = n := by omega
            exact ⟨h0, h1⟩
    · obtain ⟨m, h1, h2, h3⟩ := first_bad g n hn
      exact ⟨m, by omega, h2, h3⟩

theorem new_all (a : Option Addr) (len cap : Nat) (g : Nat → Int) (w : World) (hl : len ≤ 140737488351232) (hi : Ints w a len g) :
    Calls Try.prog 9 #[.slice a len cap] w fun e w' => ∃ c, Verd g len c ∧ Touch (fun _ => False) w w' ∧
      ((c ≠ 0 ∧ e = .returned (.tuple #[.pointer none, .int .i64 (c : Nat)])) ∨ (c = 0 ∧ ∃ b, e = .returned (.tuple #[.pointer (some ⟨b, 0, none⟩), .int .i64 0]) ∧ TblIn w' b (fl g len) len w.heap.size w'.heap.size)) := by
  rcases Nat.lt_or_ge 1024 len with hbig | hsm
  · refine (new_big a len cap w hbig hl).mono ?_
    rintro e w' ⟨rfl, rfl⟩
    exact ⟨1, .inr ⟨fun h => by omega, rfl⟩, Touch.refl _ _, .inl ⟨by decide, rfl⟩⟩
  · by_cases hok : okLens g len
    · have hi' : Ints w a len (fun i => ((fl g len i : Nat) : Int)) := hi.ext (fun i h => fl_eq hok h)
      by_cases he : errOf (fl g len) len = 0
      · refine (new_ok a len cap (fl g len) w hsm (fl_le g len) hi' he).mono ?_
        rintro e w' ⟨b, rfl, hT, ht⟩
        exact ⟨0, .inl ⟨hsm, hok, he.symm⟩, ht, .inr ⟨rfl, b, rfl, hT⟩⟩
      · refine (new_err a len cap (fl g len) w hsm (fl_le g len) hi' he).mono ?_
        rintro e w' ⟨rfl, ht⟩
        exact ⟨_, .inl ⟨hsm, hok, rfl⟩, ht, .inl ⟨he, rfl⟩⟩
    · obtain ⟨m, h1, h2, h3⟩ := first_bad g len hok
      refine (new_bad a len cap m g (fl g m) w hsm (fl_le g m) hi h1 (fun i h => fl_eq h3 h) h2).mono ?_
      rintro e w' ⟨rfl, ht⟩
      exact ⟨1, .inr ⟨fun h => hok h.2, rfl⟩, ht, .inl ⟨by decide, rfl⟩⟩

theorem refnew_all (a : Option Addr) (len cap : Nat) (g : Nat → Int) (w : World) (hl : len ≤ 140737488351232) (hi : Ints w a len g) :
    Calls Try.prog 47 #[.slice a len cap] w fun e w' => ∃ c, Verd g len c ∧ Touch (fun _ => False) w w' ∧
      ((c ≠ 0 ∧ e = .returned (.tuple #[.slice none 0 0, .int .i64 (c : Nat)])) ∨ (c = 0 ∧ ∃ v, e = .returned (.tuple #[v, .int .i64 0]) ∧ w'.ownsRow w.heap.size 3 1 v len ((List.range len).map fun i => .int .i64 (codeOf (cOf (fl g len) len) (fl g len) i : Nat)))) := by
  rcases Nat.lt_or_ge 1024 len with hbig | hsm
  · refine (refnew_big a len cap w hbig hl).mono ?_
    rintro e w' ⟨rfl, rfl⟩
    exact ⟨1, .inr ⟨fun h => by omega, rfl⟩, Touch.refl _ _, .inl ⟨by decide, rfl⟩⟩
  · by_cases hok : okLens g len
    · have hi' : Ints w a len (fun i => ((fl g len i : Nat) : Int)) := hi.ext (fun i h => fl_eq hok h)
      by_cases he : errOf (fl g len) len = 0
      · refine (refnew_codes a len cap (fl g len) w hsm (fl_le g len) hi' he).mono ?_
        rintro e w' ⟨v, rfl, ho, ht⟩
        rw [natsV, List.map_map] at ho
        exact ⟨0, .inl ⟨hsm, hok, he.symm⟩, ht, .inr ⟨rfl, v, rfl, ho⟩⟩
      · refine (refnew_err a len cap (fl g len) w hsm (fl_le g len) hi' he).mono ?_
        rintro e w' ⟨rfl, rfl⟩
        exact ⟨_, .inl ⟨hsm, hok, rfl⟩, Touch.refl _ _, .inl ⟨he, rfl⟩⟩
    · obtain ⟨m, h1, h2, h3⟩ := first_bad g len hok
      refine (refnew_bad a len cap m g (fl g m) w hsm (fl_le g m) hi h1 (fun i h => fl_eq h3 h) h2).mono ?_
      rintro e w' ⟨rfl, rfl⟩
      exact ⟨1, .inr ⟨fun h => hok h.2, rfl⟩, Touch.refl _ _, .inl ⟨by decide, rfl⟩⟩
end Go.Proofs.Ytokelpnmeknncab
