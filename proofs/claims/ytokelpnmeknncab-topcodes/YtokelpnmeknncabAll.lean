/- Code and All of a writer, and what is done by no writer and with a number of bits that does not fit. -/
import Derived.Test.YtokelpnmeknncabPut
namespace Go.Proofs.Ytokelpnmeknncab
open Go.RowKit

set_option maxHeartbeats 400000 in
theorem code_yes (b : Nat) (bs : List Bool) (v : Int) (n : Nat) (w : World) (h : Wr w b bs) (hlen : bs.length + n < 1125899906842624) (hn : n ≤ 32) :
    Calls Try.prog 11 #[.pointer (some ⟨b, 0, none⟩), .int .i64 v, .int .i64 n] w fun e w' => e = .returned (.tuple #[]) ∧ WStep w w' b (bs ++ (List.range n).map (fun i => ibit v (n - 1 - i))) := by
  go_enter Try.func11, Try.ntmps11
  go_wp2_with (go_at_call 26; refine (fits_yes _ _ (by omega) (by omega)).mono ?_; rintro e w ⟨rfl, rfl⟩)
  go_loopw [15] (fun i wr => ∃ k : Nat, k ≤ n ∧ i = .int .i64 k ∧ WStep w wr b (bs ++ (List.range k).map (fun i => ibit v (n - 1 - i)))) (fun i _ => n - (intOf i).toNat)
  case atStart => exact ⟨0, Nat.zero_le _, rfl, by simpa using WStep.refl h⟩
  case round =>
    obtain ⟨k, hk, rfl, hst⟩ := hrel
    by_cases hlt : k < n
    · have hs : (0 : Int) ≤ (n : Int) - 1 - k := by omega
      go_wp2_with fail
      rw [i64_and1]
      have hm := Int.emod_nonneg (v / 2 ^ (n - 1 - k)) (b := 2) (by decide)
      have hm' := Int.emod_lt_of_pos (v / 2 ^ (n - 1 - k)) (b := 2) (by decide)
      refine (bit_any b _ (v / 2 ^ (n - 1 - k) % 2) _ hst.wr (by simp; omega) hm (by omega)).mono ?_
      rintro e w1 ⟨rfl, hst1⟩
      have H : Hid _ := hst.trans hst1
      clear hst hst1 hm hm'
      go_wp2
      go_roundw
      case rel => exact ⟨k + 1, by omega, by go_num, by have := H.out; rw [List.append_assoc] at this; rw [List.range_succ, List.map_append]; exact this⟩
      case measure => simp [intOf]; omega
    · obtain rfl : k = n := by omega
      go_wp2
      go_end0
      exact ⟨rfl, hst⟩

theorem code_no (b : Nat) (v n : Int) (w : World) (h : n < 0 ∨ 32 < n) :
    Calls Try.prog 11 #[.pointer (some ⟨b, 0, none⟩), .int .i64 v, .int .i64 n] w fun e w' => e = .returned (.tuple #[]) ∧ w' = w := by
  go_enter Try.func11, Try.ntmps11
  go_wp2_with (go_at_call 26; refine (fits_no _ _ h).mono ?_; rintro e w ⟨rfl, rfl⟩)
  refine bodyPost_ret (results_none rfl _ _ _) rfl ?_
  exact ⟨rfl, rfl⟩

theorem code_nil (v n : Int) (w : World) :
    Calls Try.prog 11 #[.pointer none, .int .i64 v, .int .i64 n] w fun e w' => e = .returned (.tuple #[]) ∧ w' = w := by
  go_enter Try.func11, Try.ntmps11
  go_wp2
  refine bodyPost_ret (results_none rfl _ _ _) rfl ?_
  exact ⟨rfl, rfl⟩

theorem all_nil (w : World) : Calls Try.prog 13 #[.pointer none] w fun e w' => e = .returned (.string ByteArray.empty) ∧ w' = w := by
  go_enter Try.func13, Try.ntmps13
  go_wp2
  go_ret
  exact ⟨rfl, rfl⟩

theorem all_any (b : Nat) (bs : List Bool) (w : World) (h : Wr w b bs) :
    Calls Try.prog 13 #[.pointer (some ⟨b, 0, none⟩)] w fun e w' => e = .returned (.string (strOf (Bt.pack bs))) ∧ w' = w := by
  obtain ⟨v, hb, hown⟩ := h
  have h0 := cell_two0 hb
  have hl : (bytesV (Bt.pack bs)).length = (bs.length + 7) / 8 := by simp [bytesV, Bt.length_pack]
  rcases hown.2 with ⟨rfl, hz⟩ | ⟨g, cap, cur, rfl, _, hh, hle, _⟩
  · have hcv := run_convert_bytes_nil (P := Try.prog) w 28 5 Try.underlying28 Try.underlying5 0 0 9 Try.underlying9
    have e : strOf (Bt.pack bs) = ByteArray.empty := by
      rw [List.eq_nil_of_length_eq_zero (l := Bt.pack bs) (by rw [Bt.length_pack]; exact hz)]
      rfl
    rw [e]
    clear hown hb hl
    go_enter Try.func13, Try.ntmps13
    go_wp2
    go_ret
    exact ⟨rfl, rfl⟩
  · have hc : ∀ j (hj : j < ((Bt.pack bs).map UInt8.ofNat).length), w.cell? ((⟨g, 0, none⟩ : Addr).add j) = some (.int .u8 ((((Bt.pack bs).map UInt8.ofNat)[j]).toNat : Int)) := by
      intro j hj
      simp only [List.length_map] at hj
      refine hown.cells rfl j _ ?_
      have hlt := Bt.pack_lt bs _ (List.getElem_mem hj)
      simp only [bytesV, List.getElem?_map, List.getElem?_eq_getElem hj, Option.map_some, List.getElem_map]
      rw [UInt8.toNat_ofNat_of_lt' (by simpa using hlt)]
    have hcv := run_convert_bytes_back (P := Try.prog) w 28 9 5 ⟨g, 0, none⟩ cap ((Bt.pack bs).map UInt8.ofNat) Try.underlying28 Try.underlying5 Try.underlying9 hc
    rw [List.length_map, Bt.length_pack] at hcv
    clear hown hb hl hc hh
    go_enter Try.func13, Try.ntmps13
    go_wp2
    go_ret
    exact ⟨rfl, rfl⟩
end Go.Proofs.Ytokelpnmeknncab
