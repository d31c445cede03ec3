/- Next of a table without codes, and Codes of a table; no condition beside those told. -/
import Derived.Test.YtokelpnmeknncabNa
import Derived.Test.YtokelpnmeknncabCl
namespace Go.Proofs.Ytokelpnmeknncab
open Go.RowKit

theorem next_empty (b r : Nat) (cv : Value) (C : Tb.Cells) (w : World) (h : Tab w b cv C 0) :
    Calls Try.prog 14 #[.pointer (some ⟨b, 0, none⟩), .pointer (some ⟨r, 0, none⟩)] w fun e w' => e = .returned (.tuple #[.int .i64 0, .int .i64 5]) ∧ w' = w := by
  obtain ⟨v, hb, hown⟩ := h
  obtain ⟨a, cap, rfl⟩ := own_shape hown
  have h1 := cell_two1 hb
  clear hb hown
  go_enter Try.func14, Try.ntmps14
  go_wp2
  go_step3
  go_wp2
  rw [Exit.noGoto_ret]
  go_ret2
  exact ⟨rfl, rfl⟩

theorem tcodes_nil (w : World) :
    Calls Try.prog 10 #[.pointer none] w fun e w' => e = .returned (.slice none 0 0) ∧ w' = w := by
  go_enter Try.func10, Try.ntmps10
  go_wp2
  go_ret
  exact ⟨rfl, rfl⟩

theorem tcodes_any (b g len cap : Nat) (v : Value) (f : Nat → Int) (w : World) (hb : w.heap[b]? = some (.cells #[.slice (some ⟨g, 0, none⟩) len cap, v] 59 (0, 0))) (hl : len ≤ 1024) (hi : Ints w (some ⟨g, 0, none⟩) len f) :
    Calls Try.prog 10 #[.pointer (some ⟨b, 0, none⟩)] w fun e w' => ∃ v, e = .returned v ∧ w'.ownsRow w.heap.size 3 1 v len ((List.range len).map fun i => .int .i64 (f i)) ∧ Touch (fun _ => False) w w' := by
  have h0 := cell_two0 hb
  have HI := hid hi
  clear hb hi
  go_enter Try.func10, Try.ntmps10
  go_wp2_with fail
  refine (clone_any g len cap f w (by omega) (by omega) HI.out).mono ?_
  rintro e w' ⟨v, rfl, ho, ht⟩
  have O := hid ho
  have T := hid ht
  clear ho ht
  go_wp2
  go_ret
  exact ⟨v, rfl, O.out, T.out⟩
end Go.Proofs.Ytokelpnmeknncab
