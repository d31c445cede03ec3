/- BitsReads, its walk: any bytes taken in any order. -/
import Derived.Test.YtcpjbagljpohnaaSpk
import Derived.Test.YtcpjbagljpohnaaTake
import Derived.Test.YtcpjbagljpohnaaVal
import Derived.WalkSpells
import Derived.WalkLawsBesides
namespace Go.Proofs.Ytcpjbagljpohnaa
open Go.RowKit

theorem what_eq (a : Int) : (wrap64 (a.tmod 4 + 4)).tmod 4 = a % 4 := by
  have h := Int.tmod_eq_emod (a := a) (b := 4)
  have h0 : -4 < a.tmod 4 ∧ a.tmod 4 < 4 := by rw [h]; split <;> omega
  rw [show wrap64 (a.tmod 4 + 4) = a.tmod 4 + 4 by unfold wrap64; omega, Int.tmod_eq_emod_of_nonneg (by omega), h]
  split <;> omega

set_option maxHeartbeats 400000 in
theorem what_any (a n v : Int) (t : ByteArray) (w : World) :
    Calls Try.prog 11 #[.agg #[.int .i64 a, .int .i64 n, .int .i64 v, .string t]] w fun e w' => e = .returned (.int .i64 (a % 4)) ∧ Touch (fun _ => False) w w' := by
  go_enter Try.func11, Try.ntmps11
  go_wp2
  go_ret
  exact ⟨ret_int (what_eq a), (Touch.refl _ _).alloc _⟩

theorem cell_four1 {w : World} {b : Nat} {v0 v1 v2 v3 : Value} {t : TypeId} (h : w.heap[b]? = some (.cells #[v0, v1, v2, v3] t (0, 0))) : w.cell? ⟨b, 1, none⟩ = some v1 := by simp [World.cell?, h]
theorem cell_four2 {w : World} {b : Nat} {v0 v1 v2 v3 : Value} {t : TypeId} (h : w.heap[b]? = some (.cells #[v0, v1, v2, v3] t (0, 0))) : w.cell? ⟨b, 2, none⟩ = some v2 := by simp [World.cell?, h]
theorem cell_four3 {w : World} {b : Nat} {v0 v1 v2 v3 : Value} {t : TypeId} (h : w.heap[b]? = some (.cells #[v0, v1, v2, v3] t (0, 0))) : w.cell? ⟨b, 3, none⟩ = some v3 := by simp [World.cell?, h]

/-- In a round: the reader, and the step's own copy. -/
structure RR (w0 w : World) (R L : Nat) (s : ByteArray) (t : Nat) (a n v : Int) (tx : ByteArray) : Prop where
  rd : Rd w R s t
  lb : w.heap[L]? = some (.cells #[.int .i64 a, .int .i64 n, .int .i64 v, .string tx] 27 (0, 0))
  bel : Below w0.heap.size w0 w
  low : w0.heap.size ≤ R
  ne : L ≠ R

theorem RR.cell {w0 w : World} {R L : Nat} {s : ByteArray} {t : Nat} {a n v : Int} {tx : ByteArray} (h : RR w0 w R L s t a n v tx) : w.cell? ⟨L, 1, none⟩ = some (.int .i64 n) := cell_four1 h.lb
theorem RR.step {w0 w w' : World} {R L : Nat} {s : ByteArray} {t t' : Nat} {a n v : Int} {tx : ByteArray} (h : RR w0 w R L s t a n v tx) (k : RStep w w' R s t') : RR w0 w' R L s t' a n v tx :=
  ⟨k.rd, by rw [k.touch.block L (lt_of_block h.lb) h.ne]; exact h.lb, h.bel.trans (k.touch.below _ h.bel.size (fun i e => by have := h.low; omega)), h.low, h.ne⟩
theorem RR.still {w0 w w' : World} {R L : Nat} {s : ByteArray} {t : Nat} {a n v : Int} {tx : ByteArray} (h : RR w0 w R L s t a n v tx) (k : Still w w') : RR w0 w' R L s t a n v tx := h.step (k.rstep h.rd)
theorem rr_new {w0 w w' : World} {R : Nat} {s : ByteArray} {t : Nat} {a n v : Int} {tx : ByteArray} (hr : Rd w R s t) (hb : Below w0.heap.size w0 w) (hl : w0.heap.size ≤ R)
    (ht : Touch (fun _ => False) (w.alloc (.cells #[.int .i64 a, .int .i64 n, .int .i64 v, .string tx] 27)) w') : RR w0 w' R w.heap.size s t a n v tx := by
  have hlt := hr.lt
  have hsz := hb.size
  refine ⟨?_, ?_, ?_, hl, by omega⟩
  · unfold Rd
    rw [ht.block R (by simp; omega) id, Below.heap_alloc _ _ _ hlt]
    exact hr
  · rw [ht.block w.heap.size (by simp) id]
    show (w.heap.push _)[_]? = _
    simp
  · exact (hb.alloc hsz _).trans (ht.below _ (by simp; omega) (fun _ e => e.elim))

set_option maxRecDepth 100000 in
set_option maxHeartbeats 4000000 in
theorem reads_core (s : ByteArray) (b o len cap : Nat) (w : World) (A N V : Nat → Int) (T : Nat → ByteArray) (hs : s.size ≤ 140737488351232) (hb : b < w.heap.size) (hl : len ≤ 140737488351232)
    (hc : ∀ i, i < len → w.cell? ⟨b, o + i * 4, none⟩ = some (.int .i64 (A i)) ∧ w.cell? ⟨b, o + i * 4 + 1, none⟩ = some (.int .i64 (N i)) ∧ w.cell? ⟨b, o + i * 4 + 2, none⟩ = some (.int .i64 (V i)) ∧ w.cell? ⟨b, o + i * 4 + 3, none⟩ = some (.string (T i))) :
    Calls Try.prog 3 #[.string s, .slice (some ⟨b, o, none⟩) len cap] w fun e w' => e = .returned (.bool true) ∧ Below w.heap.size w w' := by
  have HC : Hid _ := hc
  clear hc
  go_enter Try.func3, Try.ntmps3
  go_wp2_with fail
  refine (speaks_any _).mono ?_
  rintro e w1 ⟨rfl, hb0⟩
  have HB : Hid _ := hb0
  clear hb0
  go_wp2_with fail
  refine (open_any _ _).mono ?_
  rintro e w2 ⟨rfl, rfl⟩
  go_wp2_with fail
  go_loopw [6, 7] (fun u i wr => ∃ k t : Nat, k ≤ len ∧ t ≤ 8 * s.size ∧ i = .int .i64 k ∧ u = .int .i64 t ∧ Rd wr w1.heap.size s t ∧ Below w.heap.size w wr) (fun _ i _ => len - (intOf i).toNat)
  case atStart => exact ⟨0, 0, Nat.zero_le _, Nat.zero_le _, rfl, rfl, rd_new _ _, HB.out.alloc HB.out.size _⟩
  case round =>
    obtain ⟨k, t, hk, ht, rfl, rfl, hr, hbl⟩ := hrel
    have R : Hid _ := hr
    have BL : Hid _ := hbl
    have hlow : w.heap.size ≤ w1.heap.size := HB.out.size
    clear hr hbl
    by_cases hlt : k < len
    · obtain ⟨c0, c1, c2, c3⟩ := HC.out k hlt
      rw [← BL.out.cell (p := ⟨b, _, none⟩) hb] at c0 c1 c2 c3
      generalize A k = a at *
      generalize N k = n at *
      generalize V k = v at *
      generalize T k = tx at *
      by_cases hp2 : a % 4 = 2
      · have q2 : (a % 4 == 2) = true := by simp [hp2]
        clear hp2
        by_cases hf : 0 ≤ n ∧ n ≤ 32
        · obtain ⟨m, rfl⟩ := Int.eq_ofNat_of_zero_le hf.1
          have hm : m ≤ 32 := by omega
          clear hf
          by_cases hle : (m : Int) ≤ 8 * (s.size : Int) - t
          · have hdm : decide ((m : Int) ≤ 32) = true := by simp; omega
            go_wp2_with fail
            refine (what_any a _ v tx _).mono ?_
            rintro e w3 ⟨rfl, hto⟩
            have X0 : Hid _ := rr_new R.out BL.out hlow hto
            have hL := X0.out.cell
            clear R BL hto c0 c1 c2 c3
            go_wp2_with fail
            have hp := peek_yes _ s t m _ X0.out.rd (by omega) (by omega) (by omega)
            rw [show min m (8 * s.size - t) = m by omega] at hp
            refine Calls.mono hp ?_
            clear hp
            rintro e w4 ⟨rfl, hst⟩
            have X : Hid _ := X0.out.still hst
            have hL := X.out.cell
            clear X0 hst
            go_wp2_with fail
            refine (rvalue_any s t m _ (by omega) (by omega) (by omega)).mono ?_
            rintro e w5 ⟨rfl, rfl⟩
            go_wp2_with fail
            refine (taken_any _ s _ _ X.out.rd).mono ?_
            rintro e w7 ⟨rfl, rfl⟩
            go_wp2_with fail
            refine (left_any _ s _ _ X.out.rd (by omega) (by omega)).mono ?_
            rintro e w8 ⟨rfl, hst⟩
            have Y : Hid _ := X.out.still hst
            clear X hst
            go_wp2
            go_roundw
            case rel => exact ⟨k + 1, t, by omega, by omega, by go_num, by go_num, Y.out.rd, Y.out.bel⟩
            case measure => simp [intOf]; omega
          · obtain ⟨q, hq⟩ : ∃ q : Nat, 8 * s.size - t = q := ⟨_, rfl⟩
            go_wp2_with fail
            refine (what_any a _ v tx _).mono ?_
            rintro e w3 ⟨rfl, hto⟩
            have X0 : Hid _ := rr_new R.out BL.out hlow hto
            have hL := X0.out.cell
            clear R BL hto c0 c1 c2 c3
            go_wp2_with fail
            have hp := peek_yes _ s t m _ X0.out.rd (by omega) (by omega) (by omega)
            rw [show min m (8 * s.size - t) = q by omega] at hp
            refine Calls.mono hp ?_
            clear hp
            rintro e w4 ⟨rfl, hst⟩
            have X : Hid _ := X0.out.still hst
            have hL := X.out.cell
            clear X0 hst
            go_wp2_with fail
            rw [show 8 * (s.size : Int) - (t : Int) = (q : Int) by omega]
            refine (rvalue_any s t q _ (by omega) (by omega) (by omega)).mono ?_
            rintro e w5 ⟨rfl, rfl⟩
            go_wp2_with fail
            refine (taken_any _ s _ _ X.out.rd).mono ?_
            rintro e w7 ⟨rfl, rfl⟩
            go_wp2_with fail
            refine (left_any _ s _ _ X.out.rd (by omega) (by omega)).mono ?_
            rintro e w8 ⟨rfl, hst⟩
            have Y : Hid _ := X.out.still hst
            clear X hst
            go_wp2
            go_roundw
            case rel => exact ⟨k + 1, t, by omega, by omega, by go_num, by go_num, Y.out.rd, Y.out.bel⟩
            case measure => simp [intOf]; omega
        · by_cases h0 : n < 0
          · have hd0 : ¬ (0 : Int) ≤ n := by omega
            go_wp2_with fail
            refine (what_any a _ v tx _).mono ?_
            rintro e w3 ⟨rfl, hto⟩
            have X0 : Hid _ := rr_new R.out BL.out hlow hto
            have hL := X0.out.cell
            clear R BL hto c0 c1 c2 c3
            go_wp2_with fail
            refine (peek_no _ n _ (by omega)).mono ?_
            rintro e w4 ⟨rfl, rfl⟩
            have X : Hid _ := X0.out
            clear X0
            go_wp2_with fail
            refine (taken_any _ s _ _ X.out.rd).mono ?_
            rintro e w7 ⟨rfl, rfl⟩
            go_wp2_with fail
            refine (left_any _ s _ _ X.out.rd (by omega) (by omega)).mono ?_
            rintro e w8 ⟨rfl, hst⟩
            have Y : Hid _ := X.out.still hst
            clear X hst
            go_wp2
            go_roundw
            case rel => exact ⟨k + 1, t, by omega, by omega, by go_num, by go_num, Y.out.rd, Y.out.bel⟩
            case measure => simp [intOf]; omega
          · have hd0 : (0 : Int) ≤ n := by omega
            have hd1 : decide (n ≤ 32) = false := by simp; omega
            go_wp2_with fail
            refine (what_any a _ v tx _).mono ?_
            rintro e w3 ⟨rfl, hto⟩
            have X0 : Hid _ := rr_new R.out BL.out hlow hto
            have hL := X0.out.cell
            clear R BL hto c0 c1 c2 c3
            go_wp2_with fail
            refine (peek_no _ n _ (by omega)).mono ?_
            rintro e w4 ⟨rfl, rfl⟩
            have X : Hid _ := X0.out
            clear X0
            go_wp2_with fail
            refine (taken_any _ s _ _ X.out.rd).mono ?_
            rintro e w7 ⟨rfl, rfl⟩
            go_wp2_with fail
            refine (left_any _ s _ _ X.out.rd (by omega) (by omega)).mono ?_
            rintro e w8 ⟨rfl, hst⟩
            have Y : Hid _ := X.out.still hst
            clear X hst
            go_wp2
            go_roundw
            case rel => exact ⟨k + 1, t, by omega, by omega, by go_num, by go_num, Y.out.rd, Y.out.bel⟩
            case measure => simp [intOf]; omega
      · have q2 : (a % 4 == 2) = false := by simp [hp2]
        clear hp2
        by_cases hp3 : a % 4 = 3
        · have q3 : (a % 4 == 3) = true := by simp [hp3]
          clear hp3
          by_cases h0 : n < 0
          · have hd0 : ¬ (0 : Int) ≤ n := by omega
            go_wp2_with fail
            refine (what_any a _ v tx _).mono ?_
            rintro e w3 ⟨rfl, hto⟩
            have X0 : Hid _ := rr_new R.out BL.out hlow hto
            have hL := X0.out.cell
            clear R BL hto c0 c1 c2 c3
            go_wp2_with fail
            refine (rbytes_no _ n _ (by omega)).mono ?_
            rintro e w4 ⟨rfl, rfl⟩
            have X : Hid _ := X0.out
            clear X0
            go_wp2_with fail
            refine (taken_any _ s _ _ X.out.rd).mono ?_
            rintro e w7 ⟨rfl, rfl⟩
            go_wp2_with fail
            refine (left_any _ s _ _ X.out.rd (by omega) (by omega)).mono ?_
            rintro e w8 ⟨rfl, hst⟩
            have Y : Hid _ := X.out.still hst
            clear X hst
            go_wp2
            go_roundw
            case rel => exact ⟨k + 1, t, by omega, by omega, by go_num, by go_num, Y.out.rd, Y.out.bel⟩
            case measure => simp [intOf]; omega
          · obtain ⟨m, rfl⟩ := Int.eq_ofNat_of_zero_le (show 0 ≤ n by omega)
            obtain ⟨bb, hbb⟩ : ∃ bb, decide ((m : Int) ≤ 32) = bb := ⟨_, rfl⟩
            have hd0 : (0 : Int) ≤ (m : Int) := by omega
            by_cases hle : (s.size : Int) - ((t : Int) + 7) / 8 < m
            · go_wp2_with fail
              refine (what_any a _ v tx _).mono ?_
              rintro e w3 ⟨rfl, hto⟩
              have X0 : Hid _ := rr_new R.out BL.out hlow hto
              have hL := X0.out.cell
              clear R BL hto c0 c1 c2 c3
              go_wp2_with fail
              refine (rbytes_end _ s t _ _ X0.out.rd (by omega) (by omega) (by omega) (by omega)).mono ?_
              rintro e w4 ⟨rfl, rfl⟩
              have X : Hid _ := X0.out
              clear X0
              go_wp2_with fail
              refine (taken_any _ s _ _ X.out.rd).mono ?_
              rintro e w7 ⟨rfl, rfl⟩
              go_wp2_with fail
              refine (left_any _ s _ _ X.out.rd (by omega) (by omega)).mono ?_
              rintro e w8 ⟨rfl, hst⟩
              have Y : Hid _ := X.out.still hst
              clear X hst
              go_wp2
              go_roundw
              case rel => exact ⟨k + 1, t, by omega, by omega, by go_num, by go_num, Y.out.rd, Y.out.bel⟩
              case measure => simp [intOf]; omega
            · go_wp2_with fail
              refine (what_any a _ v tx _).mono ?_
              rintro e w3 ⟨rfl, hto⟩
              have X0 : Hid _ := rr_new R.out BL.out hlow hto
              have hL := X0.out.cell
              clear R BL hto c0 c1 c2 c3
              go_wp2_with fail
              refine (rbytes_yes _ s t m _ X0.out.rd (by omega) (by omega) (by omega)).mono ?_
              rintro e w4 ⟨rfl, hst⟩
              have X : Hid _ := X0.out.step hst
              have hL := X.out.cell
              clear X0 hst
              go_wp2_with fail
              refine (taken_any _ s _ _ X.out.rd).mono ?_
              rintro e w7 ⟨rfl, rfl⟩
              go_wp2_with fail
              refine (left_any _ s _ _ X.out.rd (by omega) (by omega)).mono ?_
              rintro e w8 ⟨rfl, hst⟩
              have Y : Hid _ := X.out.still hst
              clear X hst
              go_wp2
              go_roundw
              case rel => exact ⟨k + 1, 8 * ((t + 7) / 8 + m), by omega, by omega, by go_num, by go_num, Y.out.rd, Y.out.bel⟩
              case measure => simp [intOf]; omega
        · have q3 : (a % 4 == 3) = false := by simp [hp3]
          clear hp3
          by_cases hf : 0 ≤ n ∧ n ≤ 32
          · obtain ⟨m, rfl⟩ := Int.eq_ofNat_of_zero_le hf.1
            have hm : m ≤ 32 := by omega
            clear hf
            have hdm : decide ((m : Int) ≤ 32) = true := by simp; omega
            by_cases hle : 8 * (s.size : Int) - t < (m : Int)
            · go_wp2_with fail
              refine (what_any a _ v tx _).mono ?_
              rintro e w3 ⟨rfl, hto⟩
              have X0 : Hid _ := rr_new R.out BL.out hlow hto
              have hL := X0.out.cell
              clear R BL hto c0 c1 c2 c3
              go_wp2_with fail
              refine (take_end _ s t m _ X0.out.rd (by omega) (by omega) (by omega) (by omega)).mono ?_
              rintro e w4 ⟨rfl, hst⟩
              have X : Hid _ := X0.out.still hst
              have hL := X.out.cell
              clear X0 hst
              go_wp2_with fail
              refine (taken_any _ s _ _ X.out.rd).mono ?_
              rintro e w7 ⟨rfl, rfl⟩
              go_wp2_with fail
              refine (left_any _ s _ _ X.out.rd (by omega) (by omega)).mono ?_
              rintro e w8 ⟨rfl, hst⟩
              have Y : Hid _ := X.out.still hst
              clear X hst
              go_wp2
              go_roundw
              case rel => exact ⟨k + 1, t, by omega, by omega, by go_num, by go_num, Y.out.rd, Y.out.bel⟩
              case measure => simp [intOf]; omega
            · go_wp2_with fail
              refine (what_any a _ v tx _).mono ?_
              rintro e w3 ⟨rfl, hto⟩
              have X0 : Hid _ := rr_new R.out BL.out hlow hto
              have hL := X0.out.cell
              clear R BL hto c0 c1 c2 c3
              go_wp2_with fail
              refine (take_yes _ s t m _ X0.out.rd (by omega) (by omega) (by omega)).mono ?_
              rintro e w4 ⟨rfl, hst⟩
              have X : Hid _ := X0.out.step hst
              have hL := X.out.cell
              clear X0 hst
              go_wp2_with fail
              refine (rvalue_any s t m _ (by omega) (by omega) (by omega)).mono ?_
              rintro e w5 ⟨rfl, rfl⟩
              go_wp2_with fail
              refine (taken_any _ s _ _ X.out.rd).mono ?_
              rintro e w7 ⟨rfl, rfl⟩
              go_wp2_with fail
              refine (left_any _ s _ _ X.out.rd (by omega) (by omega)).mono ?_
              rintro e w8 ⟨rfl, hst⟩
              have Y : Hid _ := X.out.still hst
              clear X hst
              go_wp2
              go_roundw
              case rel => exact ⟨k + 1, t + m, by omega, by omega, by go_num, by go_num, Y.out.rd, Y.out.bel⟩
              case measure => simp [intOf]; omega
          · by_cases h0 : n < 0
            · have hd0 : ¬ (0 : Int) ≤ n := by omega
              go_wp2_with fail
              refine (what_any a _ v tx _).mono ?_
              rintro e w3 ⟨rfl, hto⟩
              have X0 : Hid _ := rr_new R.out BL.out hlow hto
              have hL := X0.out.cell
              clear R BL hto c0 c1 c2 c3
              go_wp2_with fail
              refine (take_no _ n _ (by omega)).mono ?_
              rintro e w4 ⟨rfl, rfl⟩
              have X : Hid _ := X0.out
              clear X0
              go_wp2_with fail
              refine (taken_any _ s _ _ X.out.rd).mono ?_
              rintro e w7 ⟨rfl, rfl⟩
              go_wp2_with fail
              refine (left_any _ s _ _ X.out.rd (by omega) (by omega)).mono ?_
              rintro e w8 ⟨rfl, hst⟩
              have Y : Hid _ := X.out.still hst
              clear X hst
              go_wp2
              go_roundw
              case rel => exact ⟨k + 1, t, by omega, by omega, by go_num, by go_num, Y.out.rd, Y.out.bel⟩
              case measure => simp [intOf]; omega
            · have hd0 : (0 : Int) ≤ n := by omega
              have hd1 : decide (n ≤ 32) = false := by simp; omega
              go_wp2_with fail
              refine (what_any a _ v tx _).mono ?_
              rintro e w3 ⟨rfl, hto⟩
              have X0 : Hid _ := rr_new R.out BL.out hlow hto
              have hL := X0.out.cell
              clear R BL hto c0 c1 c2 c3
              go_wp2_with fail
              refine (take_no _ n _ (by omega)).mono ?_
              rintro e w4 ⟨rfl, rfl⟩
              have X : Hid _ := X0.out
              clear X0
              go_wp2_with fail
              refine (taken_any _ s _ _ X.out.rd).mono ?_
              rintro e w7 ⟨rfl, rfl⟩
              go_wp2_with fail
              refine (left_any _ s _ _ X.out.rd (by omega) (by omega)).mono ?_
              rintro e w8 ⟨rfl, hst⟩
              have Y : Hid _ := X.out.still hst
              clear X hst
              go_wp2
              go_roundw
              case rel => exact ⟨k + 1, t, by omega, by omega, by go_num, by go_num, Y.out.rd, Y.out.bel⟩
              case measure => simp [intOf]; omega
    · go_wp2
      go_ret
      exact ⟨rfl, BL.out⟩
end Go.Proofs.Ytcpjbagljpohnaa
