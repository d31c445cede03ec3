/- Texts of this proof, one behind the other: what each says stands ahead of it. -/
import Derived.Test.YtnngemdpoemhgaaDoorM9
import Derived.Test.YtnngemdpoemhgaaDoorM3
import Derived.Shelf.Small.Bits
/- A list of few numbers that rises, sorted: it is as it was; condition: at most twelve numbers. -/
namespace Go.Proofs.YtnngemdpoemhgaaDoor
open Go.Shelf Go.RowKit

/-- Numbers that lie there. -/
def Ig (w : World) (a : Option Addr) (e : List Int) : Prop := ∃ b, a = some ⟨b, 0, none⟩ ∧ b < w.heap.size ∧ ∀ i (h : i < e.length), w.cell? ⟨b, i, none⟩ = some (.int .i64 e[i])
theorem Ig.new {w w' : World} {a : Option Addr} {e : List Int} (h : Ig w a e) (t : Touch (fun _ => False) w w') : Ig w' a e := by
  obtain ⟨b, rfl, hb, hc⟩ := h
  refine ⟨b, rfl, Nat.lt_of_lt_of_le hb t.size, fun i hi => ?_⟩
  rw [t.cell (p := ⟨b, i, none⟩) hb id]
  exact hc i hi

set_option maxRecDepth 100000 in
theorem nan_no (x : Int) (w : World) : Calls Tryd.prog 51 #[.int .i64 x] w fun e w' => e = .returned (.bool false) ∧ w' = w := by
  go_enter Tryd.func51, Tryd.ntmps51
  go_wp2
  go_ret
  exact ⟨by simp, rfl⟩
set_option maxRecDepth 100000 in
theorem less_any (x y : Int) (w : World) : Calls Tryd.prog 59 #[.int .i64 x, .int .i64 y] w fun e w' => e = .returned (.bool (decide (x < y))) ∧ w' = w := by
  go_enter Tryd.func59, Tryd.ntmps59
  go_wp2_with fail
  refine (nan_no x w).mono ?_
  rintro e w1 ⟨rfl, rfl⟩
  go_wp2
  go_ret
  exact ⟨rfl, rfl⟩

set_option maxRecDepth 100000 in
set_option maxHeartbeats 4000000 in
theorem ins_up (a : Option Addr) (cap : Nat) (e : List Int) (w : World) (hi : Ig w a e) (hup : ∀ i (h : i + 1 < e.length), e[i] < e[i + 1]) (h1 : 1 ≤ e.length) (hb : e.length ≤ 12) :
    Calls Tryd.prog 53 #[.slice a e.length cap, .int .i64 0, .int .i64 e.length] w fun en w' => en = .returned (.tuple #[]) ∧ Touch (fun _ => False) w w' := by
  have HI := hid hi
  have HUP := hid hup
  clear hi hup
  go_enter Tryd.func53, Tryd.ntmps53
  go_wp2_with fail
  go_loopg [6] e.length (fun gk i wr => ∃ k : Nat, k + gk = e.length + 1 ∧ k ≤ e.length ∧ 1 ≤ k ∧ i = .int .i64 (k : Nat) ∧ Touch (fun _ => False) w wr)
  case atStart => exact ⟨1, by omega, h1, Nat.le_refl _, rfl, Touch.refl _ _⟩
  case round =>
    obtain ⟨k, hk, hke, hk1, rfl, htc⟩ := hrel
    obtain ⟨G, hG⟩ : ∃ G, G = gk := ⟨_, rfl⟩
    have HG := hid hG
    clear hG
    have TC := hid htc
    clear htc
    by_cases hlt : k < e.length
    · obtain ⟨j, rfl⟩ : ∃ j, k = j + 1 := ⟨k - 1, by omega⟩
      go_wp2_with fail
      go_loopg [7] 1 (fun g2 v wq => v = .int .i64 ((j + 1 : Nat) : Int) ∧ Touch (fun _ => False) w wq)
      case atStart => exact ⟨rfl, TC.out⟩
      case round =>
        obtain ⟨rfl, htq⟩ := hrel
        have TQ := hid htq
        obtain ⟨b, ha, hbl, hc⟩ := HI.out.new htq
        subst ha
        have d0 := hc (j + 1) hlt
        have d1 := hc j (by omega)
        have hx := HUP.out j hlt
        obtain ⟨x, hxx⟩ : ∃ x, x = e[j + 1] := ⟨_, rfl⟩
        obtain ⟨y, hyy⟩ : ∃ y, y = e[j] := ⟨_, rfl⟩
        rw [← hxx] at d0 hx
        rw [← hyy] at d1 hx
        have hd : decide (x < y) = false := decide_eq_false (by omega)
        have KL := hid (fun wq => less_any x y wq)
        rw [hd] at KL
        have hjI : ((j + 1 : Nat) : Int) < (e.length : Int) := by omega
        clear hc htq hxx hyy hx
        go_wp2_with fail
        go_quiet ((go_at_call 59; refine Calls.quiet_of_same (KL.out _)))
        go_wp2
        go_roundg (G - 1)
        case measure => have := HG.out; omega
        case rel => exact ⟨j + 2, by have := HG.out; omega, by omega, by omega, by go_num, TQ.out.drewN _⟩
    · obtain rfl : k = e.length := by omega
      go_wp2
      go_end0
      exact ⟨rfl, TC.out⟩

set_option maxRecDepth 100000 in
set_option maxHeartbeats 4000000 in
theorem pdq_up (a : Option Addr) (cap : Nat) (e : List Int) (n : Int) (w : World) (hi : Ig w a e) (hup : ∀ i (h : i + 1 < e.length), e[i] < e[i + 1]) (h1 : 1 ≤ e.length) (hb : e.length ≤ 12) :
    Calls Tryd.prog 45 #[.slice a e.length cap, .int .i64 0, .int .i64 e.length, .int .i64 n] w fun en w' => en = .returned (.tuple #[]) ∧ Touch (fun _ => False) w w' := by
  have K := hid (ins_up a cap e w hi hup h1 hb)
  clear hi hup
  go_enter Tryd.func45, Tryd.ntmps45
  go_wp2_with fail
  go_loopg [1, 2] 1 (fun gk x y wr => gk = 1 ∧ x = .int .i64 0 ∧ y = .int .i64 e.length ∧ w = wr)
  case atStart => exact ⟨rfl, rfl, rfl, rfl⟩
  case round =>
    obtain ⟨_, rfl, rfl, rfl⟩ := hrel
    go_wp2_with fail
    refine K.out.mono ?_
    rintro en w1 ⟨rfl, tc⟩
    have TC := hid tc
    clear tc
    go_wp2
    exact bodyPost_ret (results_none (fn := Tryd.f45) rfl _ Tryd.prog _) rfl ⟨rfl, TC.out⟩

set_option maxRecDepth 100000 in
set_option maxHeartbeats 4000000 in
theorem sort_up (a : Option Addr) (cap : Nat) (e : List Int) (w : World) (hi : Ig w a e) (hup : ∀ i (h : i + 1 < e.length), e[i] < e[i + 1]) (h1 : 1 ≤ e.length) (hb : e.length ≤ 12) :
    Calls Tryd.prog 26 #[.slice a e.length cap] w fun en w' => en = .returned (.tuple #[]) ∧ Touch (fun _ => False) w w' := by
  have hlen := fun wq => Any.bits_Len Tryd.bitsLen2 (e.length : Int) wq (by omega) (by omega)
  change ∀ wq, Calls Tryd.prog 46 _ _ _ at hlen
  have HLN := hid hlen
  have K := hid (fun n => pdq_up a cap e n w hi hup h1 hb)
  clear hi hup hlen
  go_enter Tryd.func26, Tryd.ntmps26
  go_wp2_with fail
  refine (HLN.out _).mono ?_
  rintro en w1 ⟨rfl, rfl⟩
  go_wp2_with fail
  refine (K.out _).mono ?_
  rintro en w2 ⟨rfl, tc⟩
  have TC := hid tc
  clear tc
  go_wp2
  go_end0
  exact ⟨rfl, TC.out⟩
end Go.Proofs.YtnngemdpoemhgaaDoor
