/- Take and Bytes of a reader. -/
import Derived.Test.YtokelpnmeknncabPeek
namespace Go.Proofs.Ytokelpnmeknncab
open Go.RowKit

/-- The reader at b has taken t bits of s; of what was there only its block may have turned. -/
structure RStep (w w' : World) (b : Nat) (s : ByteArray) (t : Nat) : Prop where
  rd : Rd w' b s t
  touch : Touch (fun k => k = b) w w'

theorem RStep.refl {w : World} {b : Nat} {s : ByteArray} {t : Nat} (r : Rd w b s t) : RStep w w b s t := ⟨r, Touch.refl _ _⟩
theorem RStep.trans {a w c : World} {b : Nat} {s : ByteArray} {t t' : Nat} (h : RStep a w b s t) (k : RStep w c b s t') : RStep a c b s t' := ⟨k.rd, h.touch.trans k.touch (fun _ _ e => e)⟩
theorem Still.rstep {w w' : World} {b : Nat} {s : ByteArray} {t : Nat} (h : Still w w') (r : Rd w b s t) : RStep w w' b s t := ⟨h.rd r, h.touch _⟩
theorem Rd.step {w w' : World} {b : Nat} {s : ByteArray} {t : Nat} (r : Rd w b s t) (h : Still w w') (t' : Nat) : RStep w (w'.setCell ⟨b, 1, none⟩ (.int .i64 t')) b s t' :=
  ⟨(h.rd r).set, (h.touch (fun k => k = b)).setCell (p := ⟨b, 1, none⟩) (fun _ => rfl) _⟩

theorem peek_no (b : Nat) (n : Int) (w : World) (h : n < 0 ∨ 32 < n) :
    Calls Try.prog 28 #[.pointer (some ⟨b, 0, none⟩), .int .i64 n] w fun e w' => e = .returned (.tuple #[.int .i64 0, .int .i64 0]) ∧ w' = w := by
  go_enter Try.func28, Try.ntmps28
  go_wp2_with (go_at_call 26; refine (fits_no _ _ h).mono ?_; rintro e w ⟨rfl, rfl⟩)
  go_ret2
  exact ⟨rfl, rfl⟩

theorem take_no (b : Nat) (n : Int) (w : World) (h : n < 0 ∨ 32 < n) :
    Calls Try.prog 29 #[.pointer (some ⟨b, 0, none⟩), .int .i64 n] w fun e w' => e = .returned (.tuple #[.int .i64 0, .int .i64 1]) ∧ w' = w := by
  go_enter Try.func29, Try.ntmps29
  go_wp2_with (go_at_call 26; refine (fits_no _ _ h).mono ?_; rintro e w ⟨rfl, rfl⟩)
  go_ret2
  exact ⟨rfl, rfl⟩

set_option maxHeartbeats 400000 in
theorem take_yes (b : Nat) (s : ByteArray) (t n : Nat) (w : World) (r : Rd w b s t) (hs : s.size ≤ 140737488355328) (hn : n ≤ 32) (hl : t + n ≤ 8 * s.size) :
    Calls Try.prog 29 #[.pointer (some ⟨b, 0, none⟩), .int .i64 n] w fun e w' => e = .returned (.tuple #[.int .i64 (Bt.rval s t n : Nat), .int .i64 0]) ∧ RStep w w' b s (t + n) := by
  have hp := peek_yes b s t n w r hs (by omega) hn
  rw [show min n (8 * s.size - t) = n by omega] at hp
  have HP : Hid _ := hp
  clear hp
  go_enter Try.func29, Try.ntmps29
  go_wp2_with (go_at_call 26; refine (fits_yes _ _ (by omega) (by omega)).mono ?_; rintro e w ⟨rfl, rfl⟩)
  refine Calls.mono HP.out ?_
  rintro e w1 ⟨rfl, hst⟩
  have H : Hid _ := hst
  have r1 := hst.rd r
  have c1 := r1.c1
  have f1 := r1.f1
  clear HP hst r1
  go_wp2
  go_ret2
  exact ⟨rfl, r.step H.out (t + n)⟩

set_option maxHeartbeats 400000 in
theorem take_end (b : Nat) (s : ByteArray) (t n : Nat) (w : World) (r : Rd w b s t) (hs : s.size ≤ 140737488355328) (hn : n ≤ 32) (ht : t ≤ 8 * s.size) (hl : 8 * s.size < t + n) :
    Calls Try.prog 29 #[.pointer (some ⟨b, 0, none⟩), .int .i64 n] w fun e w' => e = .returned (.tuple #[.int .i64 0, .int .i64 3]) ∧ Still w w' := by
  have hp := peek_yes b s t n w r hs (by omega) hn
  obtain ⟨m, hm⟩ : ∃ m, 8 * s.size - t = m := ⟨_, rfl⟩
  rw [show min n (8 * s.size - t) = m by omega] at hp
  have hmn : m < n := by omega
  have HP : Hid _ := hp
  clear hp hm
  go_enter Try.func29, Try.ntmps29
  go_wp2_with (go_at_call 26; refine (fits_yes _ _ (by omega) (by omega)).mono ?_; rintro e w ⟨rfl, rfl⟩)
  refine Calls.mono HP.out ?_
  rintro e w1 ⟨rfl, hst⟩
  have H : Hid _ := hst
  clear HP hst
  go_wp2
  go_ret2
  exact ⟨rfl, H.out⟩

end Go.Proofs.Ytokelpnmeknncab
