/- The laws' first row: the byte of the document's example is written; no condition. -/
import Derived.Test.YtcpjbagljpohnaaAll
namespace Go.Proofs.Ytcpjbagljpohnaa
open Go.RowKit

theorem put_int (b : Nat) (bs : List Bool) (v n : Int) (w : World) (h : Wr w b bs) (h0 : 0 ≤ n) (hn : n ≤ 32) (hlen : bs.length + n.toNat < 1125899906842624) :
    Calls Try.prog 21 #[.pointer (some ⟨b, 0, none⟩), .int .i64 v, .int .i64 n] w fun e w' => e = .returned (.tuple #[]) ∧ WStep w w' b (bs ++ (List.range n.toNat).map (ibit v)) := by
  obtain ⟨m, rfl⟩ := Int.eq_ofNat_of_zero_le h0
  exact put_yes b bs v m w h hlen (by omega)

theorem code_int (b : Nat) (bs : List Bool) (v n : Int) (w : World) (h : Wr w b bs) (h0 : 0 ≤ n) (hn : n ≤ 32) (hlen : bs.length + n.toNat < 1125899906842624) :
    Calls Try.prog 18 #[.pointer (some ⟨b, 0, none⟩), .int .i64 v, .int .i64 n] w fun e w' => e = .returned (.tuple #[]) ∧ WStep w w' b (bs ++ (List.range n.toNat).map (fun i => ibit v (n.toNat - 1 - i))) := by
  obtain ⟨m, rfl⟩ := Int.eq_ofNat_of_zero_le h0
  exact code_yes b bs v m w h hlen (by omega)

theorem WStep.below {w w' : World} {b B : Nat} {bs : List Bool} (h : WStep w w' b bs) (hB : B ≤ w.heap.size) (hf : ∀ k, Fp w b k → B ≤ k) : Below B w w' := h.touch.below B hB hf

theorem below_new {w w' : World} {bs : List Bool} (h : WStep (w.alloc (.cells #[.slice none 0 0, .int .i64 0] 41)) w' w.heap.size bs) : Below w.heap.size w w' :=
  ((Below.refl _ w).alloc (Nat.le_refl _) _).trans (h.touch.below w.heap.size (by simp) (fun k hk => by rw [fp_new hk]; exact Nat.le_refl _))

theorem ret_bool {a b : Bool} (h : a = b) : Ending.returned (.bool a) = .returned (.bool b) := by rw [h]

theorem speaks_eq : ((strOf (Bt.pack [ibit 1 0, ibit 2 0, ibit 2 1, ibit 1 1, ibit 1 0])).toList == [21]) = true := by decide +kernel

set_option maxHeartbeats 400000 in
theorem speaks_any (w : World) : Calls Try.prog 9 #[] w fun e w' => e = .returned (.bool true) ∧ Below w.heap.size w w' := by
  go_enter Try.func9, Try.ntmps9
  go_wp2_with fail
  refine (put_int w.heap.size [] 1 1 _ wr_new (by decide) (by decide) (by decide)).mono ?_
  rintro e w1 ⟨rfl, s1⟩
  go_wp2_with fail
  refine (put_int w.heap.size _ 2 2 _ s1.wr (by decide) (by decide) (by decide)).mono ?_
  rintro e w2 ⟨rfl, s2⟩
  have S2 : Hid _ := s1.trans s2
  clear s1 s2
  go_wp2_with fail
  refine (code_int w.heap.size _ 1 2 _ S2.out.wr (by decide) (by decide) (by decide)).mono ?_
  rintro e w3 ⟨rfl, s3⟩
  have S3 : Hid _ := S2.out.trans s3
  clear S2 s3
  go_wp2_with fail
  refine (all_any w.heap.size _ _ S3.out.wr).mono ?_
  rintro e w4 ⟨rfl, rfl⟩
  go_wp2
  go_ret
  exact ⟨ret_bool speaks_eq, below_new S3.out⟩
end Go.Proofs.Ytcpjbagljpohnaa
