/- The document's Even where nothing is used, or too much; condition: at most 1048576 symbols. -/
import Derived.Test.YtokelpnmeknncaaEr
namespace Go.Proofs.Ytokelpnmeknncaa
open Go.RowKit

set_option maxRecDepth 100000 in
set_option maxHeartbeats 4000000 in
theorem refeven_none (a : Option Addr) (len cap m : Nat) (u : Nat → Bool) (w : World) (hl : len ≤ 1048576) (hi : Bools w a len u) (hm : cntb u len = m) (h1 : m = 0 ∨ 32768 < m) :
    Calls Try.prog 20 #[.slice a len cap] w fun e w' => ∃ v, e = .returned v ∧ w'.ownsRow w.heap.size 3 1 v len (List.replicate len (.int .i64 0)) ∧ Touch (fun _ => False) w w' := by
  obtain ⟨i0, hin, hz0, hz1, hz2⟩ := info_parts info3
  have HI := hid hi
  have HM := hid hm
  clear hi hm
  go_enter Try.func20, Try.ntmps20
  go_wp2_with fail
  go_loop [3, 4] (fun c i => ∃ j : Nat, j ≤ len ∧ i = .int .i64 j ∧ c = .int .i64 (cntb u j : Nat)) (fun _ i => len - (intOf i).toNat)
  case atStart => exact ⟨0, Nat.zero_le _, rfl, rfl⟩
  case round =>
    obtain ⟨j, hj, rfl, rfl⟩ := hrel
    have hcl := cntb_le u j
    by_cases hlt : j < len
    · rcases HI.out with h | ⟨b, o, ha, hb, hcell⟩
      · omega
      · subst ha
        have d0 := hcell j hlt
        clear hcell
        cases hu : u j
        · rw [hu] at d0
          have HU := hid hu
          clear hu
          go_wp2
          go_round
          case rel => exact ⟨j + 1, by omega, by go_num, by rw [cntb, HU.out]; rfl⟩
          case measure => simp [intOf]; omega
        · rw [hu] at d0
          have HU := hid hu
          clear hu
          go_wp2
          go_round
          case rel => exact ⟨j + 1, by omega, by go_num, by rw [cntb, HU.out]; go_num⟩
          case measure => simp [intOf]; omega
    · obtain rfl : j = len := by omega
      rw [HM.out]
      rcases h1 with h | h
      · have q1 : ((m : Int) == 0) = true := by simp; omega
        clear hcl h
        go_wp2_with (first
          | (at_make; refine wpList_make_full _ rfl _ _ 22 rfl w.heap.size 3 i0 (.int .i64 0) 1 Try.underlying22 hin hz0 hz1 .i64 .i64 _ _ j rfl rfl rfl rfl (by rw [hz2]; omega) (by unfold maxLen; omega) (Nat.le_refl _) ?_))
        intro w2 hown hgrow
        rw [toList_madeCells_one] at hown
        have T2 : Hid (Touch (fun _ => False) w w2) := (Touch.refl _ w).grown hgrow (fun k e => by simp at e)
        have O2 := hid hown
        clear hown hgrow
        go_wp2
        go_ret
        exact ⟨_, rfl, O2.out, T2.out⟩
      · have q1 : ((m : Int) == 0) = false := by simp; omega
        have q2 : (32768 : Int) < (m : Int) := by omega
        clear hcl
        go_wp2_with (first
          | (at_make; refine wpList_make_full _ rfl _ _ 22 rfl w.heap.size 3 i0 (.int .i64 0) 1 Try.underlying22 hin hz0 hz1 .i64 .i64 _ _ j rfl rfl rfl rfl (by rw [hz2]; omega) (by unfold maxLen; omega) (Nat.le_refl _) ?_))
        intro w2 hown hgrow
        rw [toList_madeCells_one] at hown
        have T2 : Hid (Touch (fun _ => False) w w2) := (Touch.refl _ w).grown hgrow (fun k e => by simp at e)
        have O2 := hid hown
        clear hown hgrow
        go_wp2
        go_ret
        exact ⟨_, rfl, O2.out, T2.out⟩
end Go.Proofs.Ytokelpnmeknncaa
