/- A reader of bits: Open, Taken, Left. -/
import Derived.Test.YtokelpnmeknncabPut
import Derived.Test.YtokelpnmeknncabRmath
namespace Go.Proofs.Ytokelpnmeknncab
open Go.RowKit

def Rd (w : World) (b : Nat) (s : ByteArray) (t : Nat) : Prop := w.heap[b]? = some (.cells #[.string s, .int .i64 t] 65 (0, 0))

/-- Nothing but draws. -/
structure Still (w w' : World) : Prop where
  heap : w'.heap = w.heap
  os : w'.os = w.os
  tape : w'.tape = w.tape
  output : w'.output = w.output

theorem Still.refl (w : World) : Still w w := ⟨rfl, rfl, rfl, rfl⟩
theorem Still.trans {a b c : World} (h : Still a b) (k : Still b c) : Still a c := ⟨k.heap.trans h.heap, k.os.trans h.os, k.tape.trans h.tape, k.output.trans h.output⟩
theorem Still.drew {w w' : World} (h : Still w w') : Still w w'.drew := ⟨h.heap, h.os, h.tape, h.output⟩
theorem Still.drewN {w w' : World} (h : Still w w') (n : Nat) : Still w (w'.drewN n) := ⟨h.heap, h.os, h.tape, h.output⟩
theorem Still.touch {w w' : World} (h : Still w w') (S : Nat → Prop) : Touch S w w' := ⟨h.os, h.tape, h.output, by rw [h.heap]; exact Nat.le_refl _, fun k _ _ => by rw [h.heap]⟩
theorem Still.rd {w w' : World} {b : Nat} {s : ByteArray} {t : Nat} (h : Still w w') (r : Rd w b s t) : Rd w' b s t := by unfold Rd; rw [h.heap]; exact r
theorem Still.size {w w' : World} (h : Still w w') : w'.heap.size = w.heap.size := by rw [h.heap]

theorem Rd.lt {w : World} {b : Nat} {s : ByteArray} {t : Nat} (r : Rd w b s t) : b < w.heap.size := lt_of_block r
theorem Rd.c0 {w : World} {b : Nat} {s : ByteArray} {t : Nat} (r : Rd w b s t) : w.cell? ⟨b, 0, none⟩ = some (.string s) := cell_two0 r
theorem Rd.c1 {w : World} {b : Nat} {s : ByteArray} {t : Nat} (r : Rd w b s t) : w.cell? ⟨b, 1, none⟩ = some (.int .i64 t) := cell_two1 r
theorem Rd.f1 {w : World} {b : Nat} {s : ByteArray} {t : Nat} (r : Rd w b s t) : w.frozen? ⟨b, 1, none⟩ = false := free_two r
theorem Rd.set {w : World} {b : Nat} {s : ByteArray} {t t' : Nat} (r : Rd w b s t) : Rd (w.setCell ⟨b, 1, none⟩ (.int .i64 t')) b s t' := two_set1 r

theorem open_any (s : ByteArray) (w : World) :
    Calls Try.prog 12 #[.string s] w fun e w' => e = .returned (.pointer (some ⟨w.heap.size, 0, none⟩)) ∧ w' = w.alloc (.cells #[.string s, .int .i64 0] 65) := by
  go_enter Try.func12, Try.ntmps12
  go_wp2
  go_ret
  exact ⟨rfl, rfl⟩

theorem rd_new (w : World) (s : ByteArray) : Rd (w.alloc (.cells #[.string s, .int .i64 0] 65)) w.heap.size s 0 := by
  show (w.heap.push _)[_]? = _
  simp

theorem taken_any (b : Nat) (s : ByteArray) (t : Nat) (w : World) (r : Rd w b s t) :
    Calls Try.prog 33 #[.pointer (some ⟨b, 0, none⟩)] w fun e w' => e = .returned (.int .i64 t) ∧ w' = w := by
  have c1 := r.c1
  go_enter Try.func33, Try.ntmps33
  go_wp2
  go_ret
  exact ⟨rfl, rfl⟩

set_option maxHeartbeats 400000 in
theorem left_any (b : Nat) (s : ByteArray) (t : Nat) (w : World) (r : Rd w b s t) (hs : s.size ≤ 140737488355328) (ht : t ≤ 8 * s.size) :
    Calls Try.prog 42 #[.pointer (some ⟨b, 0, none⟩)] w fun e w' => e = .returned (.int .i64 (8 * s.size - t)) ∧ Still w w' := by
  have c0 := r.c0
  have c1 := r.c1
  go_enter Try.func42, Try.ntmps42
  go_wp2
  go_region
  all_goals go_wp2
  all_goals go_ret
  all_goals exact ⟨rfl, (Still.refl _).drew⟩

theorem whole_any (n : Int) (w : World) (h0 : 0 ≤ n) (h1 : n ≤ 1125899906842632) :
    Calls Try.prog 43 #[.int .i64 n] w fun e w' => e = .returned (.int .i64 ((n + 7) / 8)) ∧ w' = w := by
  go_enter Try.func43, Try.ntmps43
  go_wp2
  go_ret
  exact ⟨rfl, rfl⟩
end Go.Proofs.Ytokelpnmeknncab
