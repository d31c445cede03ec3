/- The document's answer: the codes of lengths, or what is wrong with them; conditions: at most 1024 lengths. -/
import Derived.Test.YtokelpnmeknncabCl
import Derived.Test.YtokelpnmeknncabHm
import Derived.BigQuiet
namespace Go.Proofs.Ytokelpnmeknncab
open Go.RowKit

theorem ref_step (f : Nat → Nat) (k : Nat) (h0 : f k ≠ 0) (hk : k ≤ 1024) : wrap64 ((rm f k : Int) + wrap64 (2 ^ (15 - f k))) = ((rm f (k + 1) : Nat) : Int) := by
  have h1 := rm_le f k
  have h2 : 2 ^ (15 - f k) ≤ 2 ^ 15 := Nat.pow_le_pow_right (by decide) (by omega)
  have e : (2 : Int) ^ (15 - f k) = ((2 ^ (15 - f k) : Nat) : Int) := by simp
  rw [e, rm, if_neg h0]
  generalize 2 ^ (15 - f k) = p at *
  unfold wrap64
  omega

theorem ret_sl {v : Value} {a b : Int} (h : a = b) : Ending.returned (.tuple #[v, .int .i64 a]) = .returned (.tuple #[v, .int .i64 b]) := by rw [h]

set_option maxRecDepth 100000 in
set_option maxHeartbeats 4000000 in
theorem refnew_err (a : Option Addr) (len cap : Nat) (f : Nat → Nat) (w : World) (hl : len ≤ 1024) (hf : ∀ i, f i ≤ 15) (hi : Ints w a len (fun i => (f i : Nat))) (he : errOf f len ≠ 0) :
    Calls Try.prog 47 #[.slice a len cap] w fun e w' => e = .returned (.tuple #[.slice none 0 0, .int .i64 (errOf f len : Nat)]) ∧ w' = w := by
  have HF := hid hf
  have HI := hid hi
  obtain ⟨r, hr⟩ : ∃ r, errOf f len = r := ⟨_, rfl⟩
  have HR := hid hr
  rw [hr] at he ⊢
  have HE := hid he
  clear hf hi hr he
  go_enter Try.func47, Try.ntmps47
  go_wp2_with fail
  go_loop [4, 5, 6] (fun r u i => ∃ k : Nat, k ≤ len ∧ i = .int .i64 k ∧ r = .int .i64 (rm f k : Nat) ∧ u = .int .i64 (usedTo f k : Nat)) (fun _ _ i => len - (intOf i).toNat)
  case atStart => exact ⟨0, Nat.zero_le _, rfl, rfl, rfl⟩
  case round =>
    obtain ⟨k, hk, rfl, rfl, rfl⟩ := hrel
    have hrl := rm_le f k
    have hul := used_le f k
    by_cases hlt : k < len
    · rcases HI.out with h | ⟨b, o, ha, hb, hcell⟩
      · omega
      · subst ha
        have d0 : w.cell? ⟨b, o + k, none⟩ = some (.int .i64 (f k : Nat)) := hcell k hlt
        have hfk := HF.out k
        clear hcell
        by_cases h0 : f k = 0
        · rw [h0] at d0
          have H0 := hid h0
          clear h0 hfk
          go_wp2
          go_round
          case rel => exact ⟨k + 1, by omega, by go_num, by rw [rm, if_pos H0.out, Nat.add_zero], by rw [usedTo, if_pos H0.out, Nat.add_zero]⟩
          case measure => simp [intOf]; omega
        · have hst := hid (ref_step f k h0 (by omega))
          have hus : usedTo f (k + 1) = usedTo f k + 1 := by rw [usedTo, if_neg h0]
          have HUS := hid hus
          have hp : (0 : Int) < (f k : Int) := by omega
          have hs : (0 : Int) ≤ 15 - (f k : Int) := by omega
          have hn1 : ¬ (f k : Int) < 0 := by omega
          have hn2 : ¬ (15 : Int) < (f k : Int) := by omega
          clear hus h0
          go_wp2
          go_round
          case rel => exact ⟨k + 1, by omega, by go_num, by rw [hst.out], by rw [HUS.out]; go_num⟩
          case measure => simp [intOf]; omega
    · obtain rfl : k = len := by omega
      have RR := HR.out
      unfold errOf at RR
      have HRR := hid RR
      clear HF HI HR RR
      generalize rm f k = rt at *
      generalize usedTo f k = st at *
      by_cases e1 : 32768 < rt
      · have E : Hid (r = 6) := by have := HRR.out; rw [if_pos e1] at this; exact this.symm
        go_wp2
        go_ret2
        exact ⟨ret_sl (by have := E.out; omega), rfl⟩
      · have q1 : ¬ (32768 : Int) < (rt : Int) := by omega
        have hc : rt < 32768 ∧ 0 < st ∧ ¬ (st = 1 ∧ rt = 16384) := by
          have h := HRR.out
          rw [if_neg e1] at h
          by_cases hc : rt < 32768 ∧ 0 < st ∧ ¬ (st = 1 ∧ rt = 16384)
          · exact hc
          · rw [if_neg hc] at h
            exact absurd h.symm HE.out
        have E : Hid (r = 7) := by have := HRR.out; rw [if_neg e1, if_pos hc] at this; exact this.symm
        obtain ⟨hc1, hc2, hc3⟩ := hc
        have q2 : (rt : Int) < 32768 := by omega
        have q3 : (0 : Int) < (st : Int) := by omega
        by_cases e4 : st = 1
        · have q4 : ((st : Int) == 1) = true := by simp; omega
          have q5 : ((rt : Int) == 16384) = false := by simp; omega
          clear e4 hc3
          go_wp2
          go_ret2
          exact ⟨ret_sl (by have := E.out; omega), rfl⟩
        · have q4 : ((st : Int) == 1) = false := by simp; omega
          clear e4 hc3
          go_wp2
          go_ret2
          exact ⟨ret_sl (by have := E.out; omega), rfl⟩
theorem refnew_big (a : Option Addr) (len cap : Nat) (w : World) (hl : 1024 < len) (hb : len ≤ 140737488351232) :
    Calls Try.prog 47 #[.slice a len cap] w fun e w' => e = .returned (.tuple #[.slice none 0 0, .int .i64 1]) ∧ w' = w := by
  go_enter Try.func47, Try.ntmps47
  go_wp2
  go_ret2
  exact ⟨rfl, rfl⟩

set_option maxRecDepth 100000 in
set_option maxHeartbeats 4000000 in
theorem refnew_bad (a : Option Addr) (len cap m : Nat) (g : Nat → Int) (f : Nat → Nat) (w : World) (hl : len ≤ 1024) (hf : ∀ i, f i ≤ 15) (hi : Ints w a len g) (hm : m < len) (hg : ∀ i, i < m → g i = (f i : Nat)) (hbad : g m < 0 ∨ 15 < g m) :
    Calls Try.prog 47 #[.slice a len cap] w fun e w' => e = .returned (.tuple #[.slice none 0 0, .int .i64 1]) ∧ w' = w := by
  have HF := hid hf
  have HI := hid hi
  have HG := hid hg
  have HB := hid hbad
  clear hf hi hg hbad
  go_enter Try.func47, Try.ntmps47
  go_wp2_with fail
  go_loop [4, 5, 6] (fun r u i => ∃ k : Nat, k ≤ m ∧ i = .int .i64 k ∧ r = .int .i64 (rm f k : Nat) ∧ u = .int .i64 (usedTo f k : Nat)) (fun _ _ i => m - (intOf i).toNat)
  case atStart => exact ⟨0, Nat.zero_le _, rfl, rfl, rfl⟩
  case round =>
    obtain ⟨k, hk, rfl, rfl, rfl⟩ := hrel
    have hrl := rm_le f k
    have hul := used_le f k
    have hkl : k < len := by omega
    rcases HI.out with h | ⟨b, o, ha, hb, hcell⟩
    · omega
    · subst ha
      by_cases hlt : k < m
      · have d0 : w.cell? ⟨b, o + k, none⟩ = some (.int .i64 (f k : Nat)) := by rw [hcell k hkl, HG.out k hlt]
        have hfk := HF.out k
        clear hcell
        by_cases h0 : f k = 0
        · rw [h0] at d0
          have H0 := hid h0
          clear h0 hfk
          go_wp2
          go_round
          case rel => exact ⟨k + 1, by omega, by go_num, by rw [rm, if_pos H0.out, Nat.add_zero], by rw [usedTo, if_pos H0.out, Nat.add_zero]⟩
          case measure => simp [intOf]; omega
        · have hst := hid (ref_step f k h0 (by omega))
          have hus : usedTo f (k + 1) = usedTo f k + 1 := by rw [usedTo, if_neg h0]
          have HUS := hid hus
          have hp : (0 : Int) < (f k : Int) := by omega
          have hs : (0 : Int) ≤ 15 - (f k : Int) := by omega
          have hn1 : ¬ (f k : Int) < 0 := by omega
          have hn2 : ¬ (15 : Int) < (f k : Int) := by omega
          clear hus h0
          go_wp2
          go_round
          case rel => exact ⟨k + 1, by omega, by go_num, by rw [hst.out], by rw [HUS.out]; go_num⟩
          case measure => simp [intOf]; omega
      · obtain rfl : k = m := by omega
        have d0 : w.cell? ⟨b, o + k, none⟩ = some (.int .i64 (g k)) := hcell k hkl
        clear hcell
        have hB := HB.out
        generalize g k = x at *
        by_cases hn : x < 0
        · go_wp2
          go_ret2
          exact ⟨rfl, rfl⟩
        · have hp : 15 < x := by omega
          go_wp2
          go_ret2
          exact ⟨rfl, rfl⟩

end Go.Proofs.Ytokelpnmeknncab
