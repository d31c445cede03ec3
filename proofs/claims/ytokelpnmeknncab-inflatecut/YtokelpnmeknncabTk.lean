/- Bytes of a reader. -/
import Derived.Test.YtokelpnmeknncabTake
namespace Go.Proofs.Ytokelpnmeknncab
open Go.RowKit

theorem rbytes_no (b : Nat) (n : Int) (w : World) (h : n < 0) :
    Calls Try.prog 57 #[.pointer (some ⟨b, 0, none⟩), .int .i64 n] w fun e w' => e = .returned (.tuple #[.string ByteArray.empty, .int .i64 1]) ∧ w' = w := by
  go_enter Try.func57, Try.ntmps57
  go_wp2
  go_ret2
  exact ⟨rfl, rfl⟩

set_option maxHeartbeats 400000 in
theorem rbytes_end (b : Nat) (s : ByteArray) (t : Nat) (n : Int) (w : World) (r : Rd w b s t) (hs : s.size ≤ 140737488355328) (ht : t ≤ 8 * s.size) (h0 : 0 ≤ n) (h : s.size - ((t + 7) / 8 : Nat) < n) :
    Calls Try.prog 57 #[.pointer (some ⟨b, 0, none⟩), .int .i64 n] w fun e w' => e = .returned (.tuple #[.string ByteArray.empty, .int .i64 3]) ∧ w' = w := by
  have c0 := r.c0
  have c1 := r.c1
  have hd : ¬ n < 0 := by omega
  go_enter Try.func57, Try.ntmps57
  go_wp2
  go_ret2
  exact ⟨rfl, rfl⟩

set_option maxHeartbeats 400000 in
theorem rbytes_yes (b : Nat) (s : ByteArray) (t n : Nat) (w : World) (r : Rd w b s t) (hs : s.size ≤ 140737488355328) (ht : t ≤ 8 * s.size) (h : (t + 7) / 8 + n ≤ s.size) :
    Calls Try.prog 57 #[.pointer (some ⟨b, 0, none⟩), .int .i64 n] w fun e w' => e = .returned (.tuple #[.string (s.extract ((t + 7) / 8) ((t + 7) / 8 + n)), .int .i64 0]) ∧ RStep w w' b s (8 * ((t + 7) / 8 + n)) := by
  have c0 := r.c0
  have c1 := r.c1
  have f1 := r.f1
  have hd : ¬ (n : Int) < 0 := by omega
  go_enter Try.func57, Try.ntmps57
  go_wp2
  go_ret2
  exact ⟨rfl, by have := r.step (Still.refl w) (8 * ((t + 7) / 8 + n)); simpa using this⟩
end Go.Proofs.Ytokelpnmeknncab
