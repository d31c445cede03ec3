/- Two writers side by side in memory: a step of one leaves the other alone; no condition. -/
import Derived.Test.YtcpjbagljpohnaaSpk
namespace Go.Proofs.Ytcpjbagljpohnaa
open Go.RowKit

structure Duo (B : Nat) (w0 w : World) (a b : Nat) (la lb : List Bool) : Prop where
  wa : Wr w a la
  wb : Wr w b lb
  dis : ∀ k, Fp w a k → Fp w b k → False
  lowa : ∀ k, Fp w a k → B ≤ k
  lowb : ∀ k, Fp w b k → B ≤ k
  bel : Below B w0 w
  base : B ≤ w0.heap.size

theorem Duo.swap {B : Nat} {w0 w : World} {a b : Nat} {la lb : List Bool} (h : Duo B w0 w a b la lb) : Duo B w0 w b a lb la :=
  ⟨h.wb, h.wa, fun k x y => h.dis k y x, h.lowb, h.lowa, h.bel, h.base⟩

theorem Duo.step {B : Nat} {w0 w w' : World} {a b : Nat} {la lb la' : List Bool} (h : Duo B w0 w a b la lb) (s : WStep w w' a la') : Duo B w0 w' a b la' lb := by
  have hB : B ≤ w.heap.size := Nat.le_trans h.base h.bel.size
  have keep : ∀ k, Fp w b k → w'.heap[k]? = w.heap[k]? := fun k hk => s.touch.block k (h.wb.fp_lt hk) (fun e => h.dis k e hk)
  have fpb : ∀ k, Fp w' b k → Fp w b k := fun k hk => Fp.of_same (keep b (Fp.self w b)) hk
  refine ⟨s.wr, h.wb.kept keep, fun k x y => ?_, fun k hk => ?_, fun k hk => h.lowb k (fpb k hk), h.bel.trans (s.touch.below B hB h.lowa), h.base⟩
  · rcases s.fp k x with e | e
    · exact h.dis k e (fpb k y)
    · have := h.wb.fp_lt (fpb k y); omega
  · rcases s.fp k hk with e | e
    · exact h.lowa k e
    · omega

theorem duo_new (w : World) (B : Nat) (w0 : World) (hb : Below B w0 w) (hB : B ≤ w0.heap.size) :
    Duo B w0 ((w.alloc (.cells #[.slice none 0 0, .int .i64 0] 41)).alloc (.cells #[.slice none 0 0, .int .i64 0] 41)) w.heap.size (w.heap.size + 1) [] [] := by
  have hs : (w.alloc (.cells #[.slice none 0 0, .int .i64 0] 41)).heap.size = w.heap.size + 1 := by simp
  have hlt : w.heap.size < (w.alloc (.cells #[.slice none 0 0, .int .i64 0] 41)).heap.size := by omega
  have hsz := hb.size
  have fa : ∀ k, Fp ((w.alloc (.cells #[.slice none 0 0, .int .i64 0] 41)).alloc (.cells #[.slice none 0 0, .int .i64 0] 41)) w.heap.size k → k = w.heap.size :=
    fun k hk => fp_new (Fp.of_same (Below.heap_alloc _ _ _ hlt) hk)
  have fb : ∀ k, Fp ((w.alloc (.cells #[.slice none 0 0, .int .i64 0] 41)).alloc (.cells #[.slice none 0 0, .int .i64 0] 41)) (w.heap.size + 1) k → k = w.heap.size + 1 := by
    rw [← hs]; exact fun k hk => fp_new hk
  refine ⟨wr_new.kept fun k hk => ?_, ?_, fun k x y => ?_, fun k hk => ?_, fun k hk => ?_, ?_, hB⟩
  · rw [fp_new hk]; exact Below.heap_alloc _ _ _ hlt
  · rw [← hs]; exact wr_new
  · have := fa k x; have := fb k y; omega
  · have := fa k hk; omega
  · have := fb k hk; omega
  · exact (hb.alloc (by omega) _).alloc (by omega) _

end Go.Proofs.Ytcpjbagljpohnaa
