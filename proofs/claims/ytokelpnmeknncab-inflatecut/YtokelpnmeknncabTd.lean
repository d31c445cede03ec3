/- toldBy of an unpacker: what a symbol tells; no condition beside those told. -/
import Derived.Test.YtokelpnmeknncabFt
namespace Go.Proofs.Ytokelpnmeknncab
open Go.RowKit Go.Lib

theorem toldBy_none (ub : Nat) (a : Option Addr) (cap : Nat) (w : World) :
    Calls Try.prog 67 #[.pointer (some ⟨ub, 0, none⟩), .int .i64 (16 : Nat), .slice a 0 cap] w fun e w' => e = .returned (.tuple #[.int .i64 0, .int .i64 0, .int .i64 5]) ∧ w' = w := by
  go_enter Try.func67, Try.ntmps67
  go_wp2
  go_ret3
  exact ⟨rfl, rfl⟩

/-- What is told, and what the reader has taken then. -/
def TdPost (s : ByteArray) (t i : Nat) (told : List Nat) (r : Nat) (w : World) (e : Ending) (w' : World) : Prop :=
  (t + Inf.moreBits i ≤ 8 * s.size ∧ e = .returned (.tuple #[.int .i64 (Inf.valT i told : Nat), .int .i64 (Inf.leastT i + Bt.rval s t (Inf.moreBits i) : Nat), .int .i64 0]) ∧ RStep w w' r s (t + Inf.moreBits i)) ∨
  (8 * s.size < t + Inf.moreBits i ∧ (∃ x y : Int, e = .returned (.tuple #[.int .i64 x, .int .i64 y, .int .i64 3])) ∧ RStep w w' r s t)

theorem rval_32 (s : ByteArray) (t n : Nat) (h : n ≤ 13) : Bt.rval s t n < 8192 := rval_13 s t n h

set_option maxRecDepth 100000 in
set_option maxHeartbeats 4000000 in
theorem toldBy_17 (ub r : Nat) (v : Value) (out : List Nat) (most : Int) (tl td : Option Addr) (s : ByteArray) (t : Nat) (told : List Nat) (a : Option Addr) (cap : Nat) (w : World) (h : Up w ub r v out most tl td) (hr : Rd w r s t) (hs : s.size ≤ 140737488351232) (ht : t ≤ 8 * s.size) :
    Calls Try.prog 67 #[.pointer (some ⟨ub, 0, none⟩), .int .i64 (17 : Nat), .slice a told.length cap] w (TdPost s t 17 told r w) := by
  obtain ⟨c0, _, _, _, _⟩ := up_cells h
  have hrv := rval_32 s t 3 (by decide)
  have HB := hid (show Inf.moreBits 17 = 3 from rfl)
  have HL := hid (show Inf.leastT 17 = 3 from rfl)
  have HV := hid (show Inf.valT 17 told = 0 from rfl)
  by_cases hfit : t + 3 ≤ 8 * s.size
  · have K := hid (take_yes r s t 3 w hr (by omega) (by decide) hfit)
    obtain ⟨x, hx⟩ : ∃ x, x = Bt.rval s t 3 := ⟨_, rfl⟩
    rw [← hx] at K hrv
    have HX := hid hx
    clear hx h hr
    go_enter Try.func67, Try.ntmps67
    go_wp2_with fail
    refine K.out.mono ?_
    rintro e w1 ⟨rfl, st⟩
    have ST := hid st
    clear st K
    go_wp2
    go_ret3
    refine .inl ⟨by rw [HB.out]; exact hfit, ?_, by rw [HB.out]; exact ST.out⟩
    rw [HB.out, HL.out, HV.out, ← HX.out, show ((3 + x : Nat) : Int) = 3 + (x : Int) by omega]
    rfl
  · have K := hid (take_end r s t 3 w hr (by omega) (by decide) ht (by omega))
    have HR := hid hr
    clear h hr
    go_enter Try.func67, Try.ntmps67
    go_wp2_with fail
    refine K.out.mono ?_
    rintro e w1 ⟨rfl, st⟩
    have ST := hid (st.rstep HR.out)
    clear st K
    go_wp2
    go_ret3
    exact .inr ⟨by rw [HB.out]; omega, ⟨_, _, rfl⟩, ST.out⟩

set_option maxRecDepth 100000 in
set_option maxHeartbeats 4000000 in
theorem toldBy_18 (ub r : Nat) (v : Value) (out : List Nat) (most : Int) (tl td : Option Addr) (s : ByteArray) (t : Nat) (told : List Nat) (a : Option Addr) (cap : Nat) (w : World) (h : Up w ub r v out most tl td) (hr : Rd w r s t) (hs : s.size ≤ 140737488351232) (ht : t ≤ 8 * s.size) :
    Calls Try.prog 67 #[.pointer (some ⟨ub, 0, none⟩), .int .i64 (18 : Nat), .slice a told.length cap] w (TdPost s t 18 told r w) := by
  obtain ⟨c0, _, _, _, _⟩ := up_cells h
  have hrv := rval_32 s t 7 (by decide)
  have HB := hid (show Inf.moreBits 18 = 7 from rfl)
  have HL := hid (show Inf.leastT 18 = 11 from rfl)
  have HV := hid (show Inf.valT 18 told = 0 from rfl)
  by_cases hfit : t + 7 ≤ 8 * s.size
  · have K := hid (take_yes r s t 7 w hr (by omega) (by decide) hfit)
    obtain ⟨x, hx⟩ : ∃ x, x = Bt.rval s t 7 := ⟨_, rfl⟩
    rw [← hx] at K hrv
    have HX := hid hx
    clear hx h hr
    go_enter Try.func67, Try.ntmps67
    go_wp2_with fail
    refine K.out.mono ?_
    rintro e w1 ⟨rfl, st⟩
    have ST := hid st
    clear st K
    go_wp2
    go_ret3
    refine .inl ⟨by rw [HB.out]; exact hfit, ?_, by rw [HB.out]; exact ST.out⟩
    rw [HB.out, HL.out, HV.out, ← HX.out, show ((11 + x : Nat) : Int) = 11 + (x : Int) by omega]
    rfl
  · have K := hid (take_end r s t 7 w hr (by omega) (by decide) ht (by omega))
    have HR := hid hr
    clear h hr
    go_enter Try.func67, Try.ntmps67
    go_wp2_with fail
    refine K.out.mono ?_
    rintro e w1 ⟨rfl, st⟩
    have ST := hid (st.rstep HR.out)
    clear st K
    go_wp2
    go_ret3
    exact .inr ⟨by rw [HB.out]; omega, ⟨_, _, rfl⟩, ST.out⟩

set_option maxRecDepth 100000 in
set_option maxHeartbeats 4000000 in
theorem toldBy_other (ub r : Nat) (v : Value) (out : List Nat) (most : Int) (tl td : Option Addr) (s : ByteArray) (t i : Nat) (told : List Nat) (a : Option Addr) (cap : Nat) (w : World) (h : Up w ub r v out most tl td) (hr : Rd w r s t) (hs : s.size ≤ 140737488351232) (ht : t ≤ 8 * s.size) (hi : i ≠ 16 ∧ i ≠ 17 ∧ i ≠ 18) :
    Calls Try.prog 67 #[.pointer (some ⟨ub, 0, none⟩), .int .i64 (i : Nat), .slice a told.length cap] w (TdPost s t i told r w) := by
  obtain ⟨c0, _, _, _, _⟩ := up_cells h
  have hrv := rval_32 s t 0 (by decide)
  have HB := hid (show Inf.moreBits i = 0 by unfold Inf.moreBits; rw [if_neg hi.1, if_neg hi.2.1, if_neg hi.2.2])
  have HL := hid (show Inf.leastT i = 1 by unfold Inf.leastT; rw [if_neg hi.1, if_neg hi.2.1, if_neg hi.2.2])
  have HV := hid (show Inf.valT i told = i by unfold Inf.valT; rw [if_neg hi.1, if_neg hi.2.1, if_neg hi.2.2])
  have e16 : ((i : Int) == 16) = false := by simp; omega
  have e17 : ((i : Int) == 17) = false := by simp; omega
  have e18 : ((i : Int) == 18) = false := by simp; omega
  clear hi
  by_cases hfit : t + 0 ≤ 8 * s.size
  · have K := hid (take_yes r s t 0 w hr (by omega) (by decide) hfit)
    obtain ⟨x, hx⟩ : ∃ x, x = Bt.rval s t 0 := ⟨_, rfl⟩
    rw [← hx] at K hrv
    have HX := hid hx
    clear hx h hr
    go_enter Try.func67, Try.ntmps67
    go_wp2_with fail
    refine K.out.mono ?_
    rintro e w1 ⟨rfl, st⟩
    have ST := hid st
    clear st K
    go_wp2
    go_ret3
    refine .inl ⟨by rw [HB.out]; exact hfit, ?_, by rw [HB.out]; exact ST.out⟩
    rw [HB.out, HL.out, HV.out, ← HX.out, show ((1 + x : Nat) : Int) = 1 + (x : Int) by omega]
    rfl
  · exact absurd ht (by omega)

set_option maxRecDepth 100000 in
set_option maxHeartbeats 4000000 in
theorem toldBy_16 (ub r : Nat) (v : Value) (out : List Nat) (most : Int) (tl td : Option Addr) (s : ByteArray) (t : Nat) (told : List Nat) (a : Option Addr) (cap : Nat) (w : World) (h : Up w ub r v out most tl td) (hr : Rd w r s t) (hs : s.size ≤ 140737488351232) (ht : t ≤ 8 * s.size) (hI : Ints w a told.length (fun j => ((told.getD j 0 : Nat) : Int))) (h0 : told.length ≠ 0) (hlen : told.length ≤ 100000) :
    Calls Try.prog 67 #[.pointer (some ⟨ub, 0, none⟩), .int .i64 (16 : Nat), .slice a told.length cap] w (TdPost s t 16 told r w) := by
  obtain ⟨c0, _, _, _, _⟩ := up_cells h
  have hrv := rval_32 s t 2 (by decide)
  have HB := hid (show Inf.moreBits 16 = 2 from rfl)
  have HL := hid (show Inf.leastT 16 = 3 from rfl)
  obtain ⟨y, hy⟩ : ∃ y, y = told.getD (told.length - 1) 0 := ⟨_, rfl⟩
  have HV := hid (show Inf.valT 16 told = y by rw [hy]; rfl)
  obtain ⟨b, o, ha, hb, hcell⟩ : ∃ b o, a = some ⟨b, o, none⟩ ∧ b < w.heap.size ∧ ∀ i, i < told.length → w.cell? ⟨b, o + i, none⟩ = some (.int .i64 ((told.getD i 0 : Nat) : Int)) := by
    rcases hI with h | h
    · exact absurd h h0
    · exact h
  subst ha
  have hlast := hcell (told.length - 1) (by omega)
  rw [← hy] at hlast
  obtain ⟨m, hm⟩ : ∃ m, told.length = m + 1 := ⟨told.length - 1, by omega⟩
  rw [hm, show m + 1 - 1 = m by omega] at hlast
  rw [hm]
  have hne : (((m + 1 : Nat) : Int) == 0) = false := by simp; omega
  clear hcell hI h0 hy
  by_cases hfit : t + 2 ≤ 8 * s.size
  · have K := hid (take_yes r s t 2 w hr (by omega) (by decide) hfit)
    obtain ⟨x, hx⟩ : ∃ x, x = Bt.rval s t 2 := ⟨_, rfl⟩
    rw [← hx] at K hrv
    have HX := hid hx
    clear hx h hr
    go_enter Try.func67, Try.ntmps67
    go_wp2_with fail
    refine K.out.mono ?_
    rintro e w1 ⟨rfl, st⟩
    have ST := hid st
    clear st K
    go_wp2
    go_ret3
    refine .inl ⟨by rw [HB.out]; exact hfit, ?_, by rw [HB.out]; exact ST.out⟩
    rw [HB.out, HL.out, HV.out, ← HX.out, show ((3 + x : Nat) : Int) = 3 + (x : Int) by omega]
    rfl
  · have K := hid (take_end r s t 2 w hr (by omega) (by decide) ht (by omega))
    have HR := hid hr
    clear h hr
    go_enter Try.func67, Try.ntmps67
    go_wp2_with fail
    refine K.out.mono ?_
    rintro e w1 ⟨rfl, st⟩
    have ST := hid (st.rstep HR.out)
    clear st K
    go_wp2
    go_ret3
    exact .inr ⟨by rw [HB.out]; omega, ⟨_, _, rfl⟩, ST.out⟩

theorem toldBy_any (ub r : Nat) (v : Value) (out : List Nat) (most : Int) (tl td : Option Addr) (s : ByteArray) (t i : Nat) (told : List Nat) (a : Option Addr) (cap : Nat) (w : World) (h : Up w ub r v out most tl td) (hr : Rd w r s t) (hs : s.size ≤ 140737488351232) (ht : t ≤ 8 * s.size)
    (hI : Ints w a told.length (fun j => ((told.getD j 0 : Nat) : Int))) (h0 : ¬ (i = 16 ∧ told.length = 0)) (hlen : told.length ≤ 100000) :
    Calls Try.prog 67 #[.pointer (some ⟨ub, 0, none⟩), .int .i64 (i : Nat), .slice a told.length cap] w (TdPost s t i told r w) := by
  by_cases h16 : i = 16
  · subst h16
    exact toldBy_16 ub r v out most tl td s t told a cap w h hr hs ht hI (fun e => h0 ⟨rfl, e⟩) hlen
  by_cases h17 : i = 17
  · subst h17
    exact toldBy_17 ub r v out most tl td s t told a cap w h hr hs ht
  by_cases h18 : i = 18
  · subst h18
    exact toldBy_18 ub r v out most tl td s t told a cap w h hr hs ht
  exact toldBy_other ub r v out most tl td s t i told a cap w h hr hs ht ⟨h16, h17, h18⟩
end Go.Proofs.Ytokelpnmeknncab
