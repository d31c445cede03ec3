/- Two lists held against each other. -/
import Derived.Test.YtokelpnmeknncaaCl
import Derived.Test.YtokelpnmeknncaaRd
import Derived.BigQuiet
namespace Go.Proofs.Ytokelpnmeknncaa
open Go.RowKit

set_option maxHeartbeats 1000000 in
theorem ints_yes (a a' : Option Addr) (len cap cap' : Nat) (f : Nat → Int) (w : World) (hl : len ≤ 140737488351232) (h : Ints w a len f) (h' : Ints w a' len f) :
    Calls Try.prog 12 #[.slice a len cap, .slice a' len cap'] w fun e w' => e = .returned (.bool true) ∧ Still w w' := by
  have H := hid h
  have H' := hid h'
  clear h h'
  go_enter Try.func12, Try.ntmps12
  go_wp2_with fail
  go_loopw [5] (fun i wr => ∃ k : Nat, k ≤ len ∧ i = .int .i64 k ∧ Still w wr) (fun i _ => len - (intOf i).toNat)
  case atStart => exact ⟨0, Nat.zero_le _, rfl, Still.refl _⟩
  case round =>
    obtain ⟨k, hk, rfl, hst⟩ := hrel
    have S := hid hst
    clear hst
    by_cases hlt : k < len
    · rcases H.out with h | ⟨b, o, ha, hb, hc⟩
      · omega
      · rcases H'.out with h | ⟨b', o', ha', hb', hc'⟩
        · omega
        · subst ha ha'
          have d0 : wr.cell? ⟨b, o + k, none⟩ = some (.int .i64 (f k)) := by rw [(S.out.touch (fun _ => False)).cell (p := ⟨b, o + k, none⟩) hb id]; exact hc k hlt
          have d1 : wr.cell? ⟨b', o' + k, none⟩ = some (.int .i64 (f k)) := by rw [(S.out.touch (fun _ => False)).cell (p := ⟨b', o' + k, none⟩) hb' id]; exact hc' k hlt
          clear hc hc'
          go_wp2_with fail
          go_quiet (fail)
          go_wp2
          go_roundw
          case rel => exact ⟨k + 1, by omega, by go_num, S.out.drewN _⟩
          case measure => simp [intOf]; omega
    · go_wp2
      go_ret
      exact ⟨rfl, S.out⟩
end Go.Proofs.Ytokelpnmeknncaa
