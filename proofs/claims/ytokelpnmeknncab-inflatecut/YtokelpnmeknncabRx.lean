/- The document's answer: the next symbol of bits; conditions: at most 1024 lengths of at most 15, codes of at most 15 bits. -/
import Derived.Test.YtokelpnmeknncabPeek
import Derived.Test.YtokelpnmeknncabHc
import Derived.BigQuiet
import Derived.OwnWalk
namespace Go.Proofs.Ytokelpnmeknncab
open Go.RowKit

theorem bitAt_past (s : ByteArray) (k : Nat) (h : s.size ≤ k / 8) : Bt.bitAt s k = false := by
  have : ¬ k / 8 < s.data.size := by have : s.data.size = s.size := rfl; omega
  unfold Bt.bitAt Bt.byteN Array.getD
  rw [dif_neg this]
  simp

theorem bit_here (s : ByteArray) (k : Nat) (h : k / 8 < s.size) : bits .and .i64 (wrap64 ((s[k / 8].toNat : Nat) : Int) / 2 ^ (k % 8)) 1 = (((Bt.bitAt s k).toNat : Nat) : Int) := by
  have hb := Bt.byteN_lt s (k / 8)
  rw [byte_get s _ h, i64_and1, show wrap64 ((Bt.byteN s (k / 8) : Nat) : Int) = ((Bt.byteN s (k / 8) : Nat) : Int) by unfold wrap64; omega]
  unfold Bt.bitAt
  rw [Bt.bit_toNat]
  simp

set_option maxHeartbeats 400000 in
theorem rbit_any (s : ByteArray) (k : Nat) (w : World) (hk : k < 1125899906842624) (hs : s.size ≤ 140737488355328) :
    Calls Try.prog 53 #[.string s, .int .i64 k] w fun e w' => e = .returned (.int .i64 ((Bt.bitAt s k).toNat : Nat)) ∧ w' = w := by
  by_cases h : k / 8 < s.size
  · have hb := bit_here s k h
    go_enter Try.func53, Try.ntmps53
    go_wp2
    go_ret
    exact ⟨rfl, rfl⟩
  · rw [bitAt_past s k (by omega)]
    go_enter Try.func53, Try.ntmps53
    go_wp2
    go_ret
    exact ⟨rfl, rfl⟩


theorem rev_bit (c n j : Nat) (h : j < n) : rev c n / 2 ^ j % 2 = c / 2 ^ (n - 1 - j) % 2 := by
  have e : n = (n - j) + j := by omega
  have hd := rev_div c (n - j) j
  rw [← e] at hd
  rw [hd, show n - j = (n - 1 - j) + 1 by omega, rev]
  omega

/-- The first j bits from k on are path's. -/
def Like (s : ByteArray) (k path j : Nat) : Prop := Bt.rval s k j = path % 2 ^ j

theorem Like.zero (s : ByteArray) (k path : Nat) : Like s k path 0 := by unfold Like; rw [Bt.rval_zero, Nat.pow_zero, Nat.mod_one]
theorem like_succ (s : ByteArray) (k path j : Nat) (h : Like s k path j) : Like s k path (j + 1) ↔ (Bt.bitAt s (k + j)).toNat = path / 2 ^ j % 2 := by
  unfold Like at *
  rw [Bt.rval_add, Bt.rval_one, Nat.pow_succ, Nat.mod_mul, h]
  have hp : 0 < 2 ^ j := Nat.pow_pos (by decide)
  constructor
  · intro e
    exact Nat.eq_of_mul_eq_mul_left hp (by omega)
  · intro e
    rw [e]
theorem like_bit (s : ByteArray) (k c n j : Nat) (hj : j < n) (h : Like s k (rev c n) j) : ((((Bt.bitAt s (k + j)).toNat : Nat) : Int) == bits .and .i64 ((c : Int) / 2 ^ (n - 1 - j)) 1) = true ↔ Like s k (rev c n) (j + 1) := by
  rw [like_succ s k _ j h, rev_bit c n j hj, i64_and1, beq_iff_eq]
  have e : (c : Int) / 2 ^ (n - 1 - j) % 2 = ((c / 2 ^ (n - 1 - j) % 2 : Nat) : Int) := by simp
  rw [e]
  omega
theorem Like.less {s : ByteArray} {k path j i : Nat} (h : Like s k path j) (hi : i ≤ j) : Like s k path i := by
  unfold Like at *
  have e : j = i + (j - i) := by omega
  have h1 : Bt.rval s k j % 2 ^ i = path % 2 ^ j % 2 ^ i := by rw [h]
  rw [Tb.mod_mod hi] at h1
  rw [← h1]
  conv => rhs; rw [e]
  rw [Bt.rval_mod]

/-- All bits of symbol i are there; the bits that are there begin it. -/
def Full (f path : Nat → Nat) (s : ByteArray) (k i : Nat) : Prop := f i ≠ 0 ∧ k + f i ≤ 8 * s.size ∧ Like s k (path i) (f i)
def Begs (f path : Nat → Nat) (s : ByteArray) (k i : Nat) : Prop := f i ≠ 0 ∧ 8 * s.size < k + f i ∧ Like s k (path i) (8 * s.size - k)

/-- What the document answers. -/
def RefAns (f path : Nat → Nat) (len : Nat) (s : ByteArray) (k : Nat) (e : Ending) : Prop :=
  (∃ i, i < len ∧ Full f path s k i ∧ e = .returned (.tuple #[.int .i64 (i : Nat), .int .i64 (f i : Nat), .int .i64 0])) ∨
  ((∀ i, i < len → ¬ Full f path s k i) ∧ (∃ i, i < len ∧ Begs f path s k i) ∧ e = .returned (.tuple #[.int .i64 0, .int .i64 0, .int .i64 3])) ∨
  ((∀ i, i < len → ¬ Full f path s k i) ∧ (∀ i, i < len → ¬ Begs f path s k i) ∧ e = .returned (.tuple #[.int .i64 0, .int .i64 0, .int .i64 5]))

theorem some_skip {P : Nat → Prop} {j : Nat} {b : Bool} (h : b = true ↔ ∃ i, i < j ∧ P i) (hn : ¬ P j) : b = true ↔ ∃ i, i < j + 1 ∧ P i := by
  rw [h]
  constructor
  · rintro ⟨i, h1, h2⟩; exact ⟨i, by omega, h2⟩
  · rintro ⟨i, h1, h2⟩
    by_cases e : i = j
    · subst e; exact absurd h2 hn
    · exact ⟨i, by omega, h2⟩
theorem none_skip {P : Nat → Prop} {j : Nat} (h : ∀ i, i < j → ¬ P i) (hn : ¬ P j) : ∀ i, i < j + 1 → ¬ P i := by
  intro i hi
  by_cases e : i = j
  · subst e; exact hn
  · exact h i (by omega)

set_option maxRecDepth 100000 in
set_option maxHeartbeats 4000000 in
theorem refnext_any (a a' : Option Addr) (len cap cap' : Nat) (f c : Nat → Nat) (s : ByteArray) (k : Nat) (w : World) (hl : len ≤ 1024) (hf : ∀ i, f i ≤ 15) (hc : ∀ i, c i ≤ 65536)
    (hi : Ints w a len (fun i => (f i : Nat))) (hi' : Ints w a' len (fun i => (c i : Nat))) (hs : s.size ≤ 140737488355328) (hk : k ≤ 8 * s.size) :
    Calls Try.prog 54 #[.slice a len cap, .slice a' len cap', .string s, .int .i64 k] w fun e w' => RefAns f (fun i => rev (c i) (f i)) len s k e ∧ Still w w' := by
  have HF := hid hf
  have HC := hid hc
  have HI := hid hi
  have HI' := hid hi'
  clear hf hc hi hi'
  go_enter Try.func54, Try.ntmps54
  go_wp2_with fail
  go_loopw [12, 13] (fun bg i wr => ∃ j : Nat, ∃ bb : Bool, j ≤ len ∧ i = .int .i64 j ∧ bg = .bool bb ∧ (bb = true ↔ ∃ i, i < j ∧ Begs f (fun i => rev (c i) (f i)) s k i) ∧ (∀ i, i < j → ¬ Full f (fun i => rev (c i) (f i)) s k i) ∧ Still w wr) (fun _ i _ => len - (intOf i).toNat)
  case atStart => exact ⟨0, false, Nat.zero_le _, rfl, rfl, by simp, fun i h => by omega, Still.refl _⟩
  case round =>
    obtain ⟨j, bb, hj, rfl, rfl, hbb, hno, hst⟩ := hrel
    have S := hid hst
    have HB := hid hbb
    have HN := hid hno
    clear hst hbb hno
    by_cases hlt : j < len
    · rcases HI.out with h | ⟨b, o, ha, hb, hcell⟩
      · omega
      · rcases HI'.out with h | ⟨b', o', ha', hb', hcell'⟩
        · omega
        · subst ha ha'
          have d0 : wr.cell? ⟨b, o + j, none⟩ = some (.int .i64 (f j : Nat)) := by rw [(S.out.touch (fun _ => False)).cell (p := ⟨b, o + j, none⟩) hb id]; exact hcell j hlt
          have D1 := hid (show ∀ wx, Still w wx → wx.cell? ⟨b', o' + j, none⟩ = some (.int .i64 (c j : Nat)) from fun wx hx => by rw [(hx.touch (fun _ => False)).cell (p := ⟨b', o' + j, none⟩) hb' id]; exact hcell' j hlt)
          have hfk := HF.out j
          have hck := HC.out j
          clear hcell hcell'
          by_cases h0 : f j = 0
          · rw [h0] at d0
            have NF : ¬ Full f (fun i => rev (c i) (f i)) s k j := fun h => h.1 h0
            have NB : ¬ Begs f (fun i => rev (c i) (f i)) s k j := fun h => h.1 h0
            have HNF := hid NF
            have HNB := hid NB
            clear h0 hfk NF NB
            go_wp2
            go_roundw
            case rel => exact ⟨j + 1, bb, by omega, by go_num, rfl, some_skip HB.out HNB.out, none_skip HN.out HNF.out, S.out⟩
            case measure => simp [intOf]; omega
          · have hp : ¬ (f j : Int) = 0 := by omega
            have h1n : 1 ≤ f j := by omega
            have H0 := hid h0
            clear h0
            go_wp2_with fail
            go_loopw [15] (fun sm wr' => ∃ m : Nat, m ≤ f j ∧ k + m ≤ 8 * s.size ∧ sm = .int .i64 m ∧ Like s k (rev (c j) (f j)) m ∧ Still w wr') (fun sm _ => f j - (intOf sm).toNat)
            case atStart => exact ⟨0, Nat.zero_le _, by omega, rfl, Like.zero _ _ _, S.out⟩
            case round =>
              obtain ⟨m, hm, hmk, rfl, hlike, hst'⟩ := hrel
              have S' := hid hst'
              have HL := hid hlike
              clear hst' hlike
              by_cases hmn : m < f j
              · by_cases hml : k + m < 8 * s.size
                · have g1 : (m : Int) < (f j : Int) := by omega
                  have g2 : (m : Int) < 8 * (s.size : Int) - (k : Int) := by omega
                  have d1 := D1.out wr S'.out
                  have hs1 : (0 : Int) ≤ (f j : Int) - 1 - (m : Int) := by omega
                  have hs2 : (f j : Int) - 1 - (m : Int) < 64 := by omega
                  have hlb := like_bit s k (c j) (f j) m hmn HL.out
                  have HLB := hid hlb
                  clear hlb
                  go_wp2_with fail
                  go_quiet ((go_at_call 53; rw [show (k : Int) + (m : Int) = ((k + m : Nat) : Int) by omega]; refine Calls.quiet_of_same (rbit_any s (k + m) _ (by omega) hs)))
                  by_cases hq : Like s k (rev (c j) (f j)) (m + 1)
                  · rw [HLB.out.2 hq]
                    have HQ := hid hq
                    clear hq
                    go_wp2
                    go_roundw
                    case rel => exact ⟨m + 1, by omega, by omega, by go_num, HQ.out, S'.out.drewN _⟩
                    case measure => simp [intOf]; omega
                  · rw [Bool.eq_false_iff.2 (fun h => hq (HLB.out.1 h))]
                    have NF := hid (show ¬ Full f (fun i => rev (c i) (f i)) s k j from fun h => hq (h.2.2.less (by omega)))
                    have NB := hid (show ¬ Begs f (fun i => rev (c i) (f i)) s k j from fun h => hq (h.2.2.less (by omega)))
                    have n1 : ((m : Int) == (f j : Int)) = false := by simp; omega
                    have n2 : ((m : Int) == 8 * (s.size : Int) - (k : Int)) = false := by simp; omega
                    clear hq
                    cases bb with
                    | true =>
                      go_wp2
                      go_roundw
                      case rel => exact ⟨j + 1, true, by omega, by go_num, rfl, some_skip HB.out NB.out, none_skip HN.out NF.out, S'.out.drewN _⟩
                      case measure => simp [intOf]; omega
                    | false =>
                      go_wp2
                      go_roundw
                      case rel => exact ⟨j + 1, false, by omega, by go_num, rfl, some_skip HB.out NB.out, none_skip HN.out NF.out, S'.out.drewN _⟩
                      case measure => simp [intOf]; omega
                · have NF := hid (show ¬ Full f (fun i => rev (c i) (f i)) s k j from fun h => by have := h.2.1; omega)
                  have YB := hid (show Begs f (fun i => rev (c i) (f i)) s k j from ⟨H0.out, by omega, by rw [show 8 * s.size - k = m by omega]; exact HL.out⟩)
                  have g1 : (m : Int) < (f j : Int) := by omega
                  have g2 : decide ((m : Int) < 8 * (s.size : Int) - (k : Int)) = false := by simp; omega
                  have n1 : ((m : Int) == (f j : Int)) = false := by simp; omega
                  have n2 : ((m : Int) == 8 * (s.size : Int) - (k : Int)) = true := by simp; omega
                  go_wp2_with fail
                  go_quiet (fail)
                  cases bb with
                  | true =>
                    go_wp2
                    go_roundw
                    case rel => exact ⟨j + 1, true, by omega, by go_num, rfl, ⟨fun _ => ⟨j, by omega, YB.out⟩, fun _ => rfl⟩, none_skip HN.out NF.out, S'.out.drewN _⟩
                    case measure => simp [intOf]; omega
                  | false =>
                    go_wp2
                    go_roundw
                    case rel => exact ⟨j + 1, true, by omega, by go_num, rfl, ⟨fun _ => ⟨j, by omega, YB.out⟩, fun _ => rfl⟩, none_skip HN.out NF.out, S'.out.drewN _⟩
                    case measure => simp [intOf]; omega
              · obtain ⟨hmf, _⟩ : m = f j ∧ True := ⟨by omega, trivial⟩
                have YF := hid (show Full f (fun i => rev (c i) (f i)) s k j from ⟨H0.out, by omega, by rw [← hmf]; exact HL.out⟩)
                have g1 : decide ((m : Int) < (f j : Int)) = false := by simp; omega
                have n1 : ((m : Int) == (f j : Int)) = true := by simp; omega
                go_wp2_with fail
                go_quiet (fail)
                go_wp2
                go_ret3
                exact ⟨.inl ⟨j, hlt, YF.out, rfl⟩, S'.out.drewN _⟩
    · obtain rfl : j = len := by omega
      have hge : ¬ (j : Int) < (j : Int) := by omega
      cases bb with
      | true =>
        go_wp2
        go_ret3
        exact ⟨.inr (.inl ⟨HN.out, by have h := HB.out; simpa using h, rfl⟩), S.out⟩
      | false =>
        go_wp2
        go_ret3
        exact ⟨.inr (.inr ⟨HN.out, fun i hi h => Bool.false_ne_true (HB.out.2 ⟨i, hi, h⟩), rfl⟩), S.out⟩

end Go.Proofs.Ytokelpnmeknncab
