/- New where the lengths take too much room, or too little. -/
import Derived.Test.YtokelpnmeknncabNewE
import Derived.Test.YtokelpnmeknncabRoom
import Derived.BigQuiet
namespace Go.Proofs.Ytokelpnmeknncab
open Go.RowKit

theorem cnts_cOf (f : Nat → Nat) (k j : Nat) : (if j = 0 then 0 else cnts f k j) = cOf f k j := by unfold cnts cOf; rfl

set_option maxRecDepth 100000 in
set_option maxHeartbeats 4000000 in
theorem new_err (a : Option Addr) (len cap : Nat) (f : Nat → Nat) (w : World) (hl : len ≤ 1024) (hf : ∀ i, f i ≤ 15) (hi : Ints w a len (fun i => (f i : Nat))) (he : errOf f len ≠ 0) :
    Calls Try.prog 9 #[.slice a len cap] w fun e w' => e = .returned (.tuple #[.pointer none, .int .i64 (errOf f len : Nat)]) ∧ Touch (fun _ => False) w w' := by
  have HF := hid hf
  have HI := hid hi
  have HE := hid he
  clear hf hi he
  go_enter Try.func9, Try.ntmps9
  go_wp2_with fail
  go_loopw [16] (fun i wr => ∃ k : Nat, k ≤ len ∧ i = .int .i64 k ∧ Blk wr w.heap.size (cnts f k) ∧ Touch (fun _ => False) w wr) (fun i _ => len - (intOf i).toNat)
  case atStart => exact ⟨0, Nat.zero_le _, rfl, blk_zero w, (Touch.refl _ w).alloc _⟩
  case round =>
    obtain ⟨k, hk, rfl, hb1, ht⟩ := hrel
    have Z := hid hb1
    have TT := hid ht
    clear hb1 ht
    by_cases hlt : k < len
    · rcases (HI.out.new TT.out) with h | ⟨b, o, ha, hb, hcell⟩
      · omega
      · subst ha
        have d0 : wr.cell? ⟨b, o + k, none⟩ = some (.int .i64 (f k : Nat)) := hcell k hlt
        have hfk := HF.out k
        have d1 := Z.out.cell (f k) (by omega)
        have d2 := Z.out.free (f k)
        have hcn : cnts f k (f k) ≤ 1024 := by have := cntTo_le f (f k) k; unfold cnts; omega
        have hst := hid ((Z.out.set (f k) (cnts f k (f k) + 1)).ext (fun j _ => cnts_step f k j))
        generalize cnts f k (f k) = x at *
        clear hcell
        go_wp2
        go_roundw
        case rel => exact ⟨k + 1, by omega, by go_num, by have := hst.out; simpa using this, TT.out.setCell (fun h => by simp at h) _⟩
        case measure => simp [intOf]; omega
    · obtain rfl : k = len := by omega
      have d2 := Z.out.free 0
      have c0 := Z.out.cell 0 (by decide)
      have c1 := Z.out.cell 1 (by decide)
      have c2 := Z.out.cell 2 (by decide)
      have c3 := Z.out.cell 3 (by decide)
      have c4 := Z.out.cell 4 (by decide)
      have c5 := Z.out.cell 5 (by decide)
      have c6 := Z.out.cell 6 (by decide)
      have c7 := Z.out.cell 7 (by decide)
      have c8 := Z.out.cell 8 (by decide)
      have c9 := Z.out.cell 9 (by decide)
      have c10 := Z.out.cell 10 (by decide)
      have c11 := Z.out.cell 11 (by decide)
      have c12 := Z.out.cell 12 (by decide)
      have c13 := Z.out.cell 13 (by decide)
      have c14 := Z.out.cell 14 (by decide)
      have c15 := Z.out.cell 15 (by decide)
      have hst := hid ((Z.out.set 0 0).ext (fun j _ => cnts_cOf f k j))
      have hnx : ¬ (k : Int) < (k : Int) := by omega
      have hA : cArr (cOf f k) = #[.int .i64 0, .int .i64 (cnts f k 1 : Nat), .int .i64 (cnts f k 2 : Nat), .int .i64 (cnts f k 3 : Nat), .int .i64 (cnts f k 4 : Nat), .int .i64 (cnts f k 5 : Nat), .int .i64 (cnts f k 6 : Nat), .int .i64 (cnts f k 7 : Nat), .int .i64 (cnts f k 8 : Nat), .int .i64 (cnts f k 9 : Nat), .int .i64 (cnts f k 10 : Nat), .int .i64 (cnts f k 11 : Nat), .int .i64 (cnts f k 12 : Nat), .int .i64 (cnts f k 13 : Nat), .int .i64 (cnts f k 14 : Nat), .int .i64 (cnts f k 15 : Nat)] := by simp [cArr, cOf, cnts]
      have HA := hid hA
      clear hA
      go_wp2_with fail
      rw [← HA.out]
      refine (room_any (cOf f k) _ (fun i => by have := cOf_le f k i; omega)).mono ?_
      rintro e w1 ⟨rfl, ht⟩
      rw [err_eq f HF.out k]
      have hne : ((errOf f k : Int) == 0) = false := by have := HE.out; simp; omega
      have T1 := hid ((TT.out.setCell (p := ⟨w.heap.size, 0, none⟩) (fun h => by simp at h) (.int .i64 0)).trans ht (fun _ _ e => e))
      clear ht
      obtain ⟨er, her⟩ : ∃ er, errOf f k = er := ⟨_, rfl⟩
      rw [her] at hne ⊢
      have HER := hid her
      clear her
      generalize cArr (cOf f k) = A at *
      go_wp2
      go_ret2
      exact ⟨by rw [HER.out]; rfl, T1.out⟩
end Go.Proofs.Ytokelpnmeknncab
