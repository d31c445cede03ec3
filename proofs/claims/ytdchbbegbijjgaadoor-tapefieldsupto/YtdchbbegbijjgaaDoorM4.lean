/- Texts of this proof, one behind the other: what each says stands ahead of it. -/
import Derived.Test.YtdchbbegbijjgaaDoorM3
import Derived.ChangeKeysEq
/- The document's Number, of any text; condition: the text fits into memory. -/
namespace Go.Proofs.YtdchbbegbijjgaaDoor
open Go.RowKit
open Go.Lib

theorem fill_iff (x : UInt8) : fillB x = true ↔ ((x.toNat : Int) = 32 ∨ (x.toNat : Int) = 0) := by
  unfold fillB
  rw [decide_eq_true_eq]
  omega
theorem octR_stop (n : Nat) (cs : List UInt8) (h : ∀ c ∈ cs.head?, c.toNat < 48 ∨ 55 < c.toNat) : octR n cs = if cs.all fillB = true then (n, true) else (0, false) := by
  cases cs with
  | nil => rfl
  | cons c cs =>
    rw [octR, if_pos (h c (by simp))]

set_option maxRecDepth 100000 in
set_option maxHeartbeats 8000000 in
theorem rnumber_any (s : ByteArray) (hs : s.size ≤ 140737488351232) (w : World) :
    Calls Tryd.prog 6 #[.string s] w fun e w' => e = .returned (tupN (numP s.data.toList)) ∧ w = w' := by
  by_cases h0 : s.size = 0
  · rw [numP_none h0]
    have h0I : (s.size : Int) = 0 := by omega
    go_enter Tryd.func6, Tryd.ntmps6
    go_wp2
    refine bodyPost_ret (results_tmp2 rfl _ _ _) rfl ?_
    exact ⟨rfl, rfl⟩
  · have h1 : 0 < s.size := by omega
    have h0I : (0 : Int) < (s.size : Int) := by omega
    have h0N : ¬ (s.size : Int) = 0 := by omega
    have h0B : ((s.size : Int) == 0) = false := by simpa using h0N
    by_cases hb : 128 ≤ s[0].toNat
    · rw [numP_wide h1 hb]
      obtain ⟨X, hX⟩ : ∃ X, X = wideGo (s[0].toNat - 128) (s.data.toList.drop 1) := ⟨_, rfl⟩
      have HX := hid hX.symm
      rw [← hX]
      clear hX
      have hb2 : s[0].toNat < 256 := UInt8.toNat_lt _
      obtain ⟨y, hy⟩ : ∃ y, y = s[0].toNat := ⟨_, rfl⟩
      have hyb : s[0].toNat = y := hy.symm
      rw [hyb] at hb hb2 HX
      have hbI : 127 < (y : Int) := by omega
      clear hy
      go_enter Tryd.func6, Tryd.ntmps6
      go_wp2_with fail
      go_loopg [4, 5] (s.size - 1) (fun gk v4 v5 wq => ∃ i n : Nat, i + gk = s.size ∧ v5 = .int .i64 (i : Nat) ∧ v4 = .int .i64 (n : Nat) ∧ n ≤ 1099511627776 ∧ Hid (wideGo n (s.data.toList.drop i) = X) ∧ w = wq)
      case atStart => exact ⟨1, y - 128, by omega, rfl, by rw [show ((y : Int) - 128) = ((y - 128 : Nat) : Int) by omega], by omega, HX, rfl⟩
      case round =>
        obtain ⟨i, a, hi, rfl, rfl, hal, HD, rfl⟩ := hrel
        by_cases hlt : i < s.size
        · have hltI : (i : Int) < (s.size : Int) := by omega
          rw [byte_at s i hlt, wideGo] at HD
          obtain ⟨x, hxe⟩ : ∃ x : Nat, x = s[i].toNat := ⟨_, rfl⟩
          have hbg : s[i].toNat = x := hxe.symm
          have hx255 : x < 256 := by rw [hxe]; exact UInt8.toNat_lt _
          rw [hbg] at HD
          clear hxe
          by_cases hbig : 256 * a + x > 1099511627776
          · rw [if_pos hbig] at HD
            have hbI2 : 1099511627776 < 256 * (a : Int) + (x : Int) := by omega
            go_wp2
            refine bodyPost_ret (results_tmp2 rfl _ _ _) rfl ?_
            exact ⟨by rw [← HD.out]; rfl, rfl⟩
          · rw [if_neg hbig] at HD
            have hbI2 : ¬ 1099511627776 < 256 * (a : Int) + (x : Int) := by omega
            go_wp2
            go_roundg (gk - 1)
            case measure => omega
            case rel => exact ⟨i + 1, 256 * a + x, by omega, by go_num, by go_num, by omega, HD, rfl⟩
        · obtain rfl : i = s.size := by omega
          rw [drop_all, wideGo] at HD
          go_wp2
          refine bodyPost_ret (results_tmp2 rfl _ _ _) rfl ?_
          exact ⟨by rw [← HD.out]; rfl, rfl⟩
    · rw [numP_oct h1 hb]
      obtain ⟨X, hX⟩ : ∃ X, X = octR 0 (s.data.toList.dropWhile fun b => decide (b.toNat = 32)) := ⟨_, rfl⟩
      have HX := hid hX.symm
      rw [← hX]
      clear hX
      have hbI : ¬ 127 < (s[0].toNat : Int) := by omega
      go_enter Tryd.func6, Tryd.ntmps6
      go_upto_block 2 with fail
      go_cut [6] (fun v6 wd => ∃ i : Nat, v6 = .int .i64 (i : Nat) ∧ i ≤ s.size ∧ octR 0 (s.data.toList.drop i) = X ∧ w = wd)
      case first =>
        go_wp2_with fail
        go_loopg [6] s.size (fun gk v6 wq => ∃ i : Nat, i + gk = s.size ∧ v6 = .int .i64 (i : Nat) ∧ Hid (octR 0 ((s.data.toList.drop i).dropWhile fun b => decide (b.toNat = 32)) = X) ∧ w = wq)
        case atStart => exact ⟨0, by omega, rfl, HX, rfl⟩
        case round =>
          obtain ⟨i, hi, rfl, HD, rfl⟩ := hrel
          by_cases hlt : i < s.size
          · have hltI : (i : Int) < (s.size : Int) := by omega
            have HBA := hid (byte_at s i hlt)
            rw [HBA.out] at HD
            obtain ⟨x, hxe⟩ : ∃ x : Nat, x = s[i].toNat := ⟨_, rfl⟩
            have hbg : s[i].toNat = x := hxe.symm
            clear hxe
            by_cases h32 : x = 32
            · rw [List.dropWhile_cons_of_pos (by rw [hbg]; exact decide_eq_true h32)] at HD
              have hI : (x : Int) = 32 := by omega
              go_wp2
              go_roundg (gk - 1)
              case measure => omega
              case rel => exact ⟨i + 1, by omega, by go_num, HD, rfl⟩
            · rw [List.dropWhile_cons_of_neg (by rw [hbg, decide_eq_true_eq]; exact h32), ← HBA.out] at HD
              have hI : ¬ (x : Int) = 32 := by omega
              go_wp2_with fail
              go_meet
              case rel => exact ⟨i, rfl, by omega, HD.out, rfl⟩
          · obtain rfl : i = s.size := by omega
            rw [drop_all, List.dropWhile_nil] at HD
            go_wp2_with fail
            go_meet
            case rel => exact ⟨s.size, rfl, by omega, by rw [drop_all]; exact HD.out, rfl⟩
      obtain ⟨i0, rfl, hi0, hgo, rfl⟩ := hcut
      have HG := hid hgo
      clear hgo
      go_upto_block 4 with fail
      go_cut [4, 6] (fun v4 v6 wd => ∃ n i : Nat, v4 = .int .i64 (n : Nat) ∧ v6 = .int .i64 (i : Nat) ∧ i ≤ s.size ∧ n ≤ 1099511627776 ∧ (if (s.data.toList.drop i).all fillB = true then (n, true) else (0, false)) = X ∧ w = wd)
      case first =>
        go_wp2_with fail
        go_loopg [4, 6] (s.size - i0) (fun gk v4 v6 wq => ∃ i n : Nat, i + gk = s.size ∧ v6 = .int .i64 (i : Nat) ∧ v4 = .int .i64 (n : Nat) ∧ n ≤ 1099511627776 ∧ Hid (octR n (s.data.toList.drop i) = X) ∧ w = wq)
        case atStart => exact ⟨i0, 0, by omega, rfl, rfl, by omega, HG, rfl⟩
        case round =>
          obtain ⟨i, a, hi, rfl, rfl, hal, HD, rfl⟩ := hrel
          by_cases hlt : i < s.size
          · have hltI : (i : Int) < (s.size : Int) := by omega
            have HBA := hid (byte_at s i hlt)
            obtain ⟨x, hxe⟩ : ∃ x : Nat, x = s[i].toNat := ⟨_, rfl⟩
            have hbg : s[i].toNat = x := hxe.symm
            have hx255 : x < 256 := by rw [hxe]; exact UInt8.toNat_lt _
            clear hxe
            by_cases hd : x < 48 ∨ 55 < x
            · have HS := hid (show (if (s.data.toList.drop i).all fillB = true then (a, true) else (0, false)) = X from by
                rw [← HD.out]
                exact (octR_stop a _ (fun c hc => by rw [HBA.out] at hc; simp at hc; subst hc; rw [hbg]; exact hd)).symm)
              rcases hd with hd | hd
              · have hI : ¬ 48 ≤ (x : Int) := by omega
                go_wp2_with fail
                go_meet
                case rel => exact ⟨a, i, rfl, rfl, by omega, hal, HS.out, rfl⟩
              · have hI : 48 ≤ (x : Int) := by omega
                have hI2 : ¬ (x : Int) < 56 := by omega
                go_wp2_with fail
                go_meet
                case rel => exact ⟨a, i, rfl, rfl, by omega, hal, HS.out, rfl⟩
            · rw [HBA.out, octR, hbg, if_neg hd] at HD
              have hI : 48 ≤ (x : Int) := by omega
              have hI2 : (x : Int) < 56 := by omega
              by_cases hbig : 8 * a + (x - 48) > 1099511627776
              · rw [if_pos hbig] at HD
                have hbI2 : 1099511627776 < 8 * (a : Int) + ((x : Int) - 48) := by omega
                go_wp2
                refine bodyPost_ret (results_tmp2 rfl _ _ _) rfl ?_
                exact ⟨by rw [← HD.out]; rfl, rfl⟩
              · rw [if_neg hbig] at HD
                have hbI2 : ¬ 1099511627776 < 8 * (a : Int) + ((x : Int) - 48) := by omega
                go_wp2
                go_roundg (gk - 1)
                case measure => omega
                case rel => exact ⟨i + 1, 8 * a + (x - 48), by omega, by go_num, by go_num, by omega, HD, rfl⟩
          · obtain rfl : i = s.size := by omega
            rw [drop_all, octR] at HD
            go_wp2_with fail
            go_meet
            case rel => exact ⟨a, s.size, rfl, rfl, Nat.le_refl _, hal, by rw [drop_all]; exact HD.out, rfl⟩
      obtain ⟨n, i1, rfl, rfl, hi1, hn, hgo, rfl⟩ := hcut
      replace HG := hid hgo
      clear hgo
      go_wp2_with fail
      go_loopg [6] (s.size - i1) (fun gk v6 wq => ∃ i : Nat, i + gk = s.size ∧ v6 = .int .i64 (i : Nat) ∧ Hid ((if (s.data.toList.drop i).all fillB = true then (n, true) else (0, false)) = X) ∧ w = wq)
      case atStart => exact ⟨i1, by omega, rfl, HG, rfl⟩
      case round =>
        obtain ⟨i, hi, rfl, HD, rfl⟩ := hrel
        by_cases hlt : i < s.size
        · have hltI : (i : Int) < (s.size : Int) := by omega
          rw [byte_at s i hlt, List.all_cons] at HD
          have HF := hid (fill_iff s[i])
          obtain ⟨x, hxe⟩ : ∃ x : Nat, x = s[i].toNat := ⟨_, rfl⟩
          have hbg : s[i].toNat = x := hxe.symm
          rw [hbg] at HF
          clear hxe
          by_cases h32 : (x : Int) = 32
          · rw [HF.out.2 (.inl h32), Bool.true_and] at HD
            go_wp2
            go_roundg (gk - 1)
            case measure => omega
            case rel => exact ⟨i + 1, by omega, by go_num, HD, rfl⟩
          · by_cases hz : (x : Int) = 0
            · rw [HF.out.2 (.inr hz), Bool.true_and] at HD
              go_wp2
              go_roundg (gk - 1)
              case measure => omega
              case rel => exact ⟨i + 1, by omega, by go_num, HD, rfl⟩
            · rw [show fillB s[i] = false from by
                cases hf : fillB s[i] with
                | true =>
                  rcases HF.out.1 hf with e | e
                  · exact absurd e h32
                  · exact absurd e hz
                | false => rfl, Bool.false_and, if_neg (by decide)] at HD
              have hb1 : ((x : Int) == 32) = false := by simpa using h32
              have hb2 : ((x : Int) == 0) = false := by simpa using hz
              have hb3 : ((x : Int) != 32) = true := by rw [bne, hb1]; rfl
              have hb4 : ((x : Int) != 0) = true := by rw [bne, hb2]; rfl
              go_wp2
              refine bodyPost_ret (results_tmp2 rfl _ _ _) rfl ?_
              exact ⟨by rw [← HD.out]; rfl, rfl⟩
        · obtain rfl : i = s.size := by omega
          rw [drop_all, List.all_nil, if_pos rfl] at HD
          go_wp2
          refine bodyPost_ret (results_tmp2 rfl _ _ _) rfl ?_
          exact ⟨by rw [← HD.out]; rfl, rfl⟩
end Go.Proofs.YtdchbbegbijjgaaDoor

/- TapeFields' walk; condition: the text is of at most 1048576 bytes. -/
namespace Go.Proofs.YtdchbbegbijjgaaDoor
open Go.RowKit
open Go.Lib

theorem recsF_len : ∀ (g : Nat) (cs : List UInt8) (l : List R2), recsF g cs = some l → l.length ≤ g
  | 0, [], l, h => by cases h; exact Nat.le_refl _
  | 0, _ :: _, l, h => by cases h
  | g + 1, [], l, h => by cases h; exact Nat.zero_le _
  | g + 1, c :: cs, l, h => by
    rw [recsF] at h
    split at h
    · cases h
    · obtain ⟨m, hm, rfl⟩ := Option.map_eq_some_iff.1 h
      have := recsF_len g _ m hm
      simp only [List.length_cons]
      omega
theorem recs_len (cs : List UInt8) : ((recs cs).getD []).length ≤ cs.length := by
  cases h : recs cs with
  | none => exact Nat.zero_le _
  | some l => exact recsF_len _ _ _ h

theorem info9 : (Tryd.prog.info? 9).map (fun i => (i.zero, i.size, i.bytes)) = some (some (.string ⟨#[]⟩), 1, 16) := by kernel_rfl
theorem pair_same (a b : ByteArray) (w : World) : (Op.equalIn 10000 28 (.agg #[.string a, .string b]) (.agg #[.string a, .string b])).run Tryd.prog w = .ok true w := by
  obtain ⟨i0, hi, hz0, hz1, hz2⟩ := info_parts info9
  rw [run_equalIn_array w 9999 _ _ Tryd.underlying28 hi]
  have hc : Tryd.prog.cellsOf 9 = 1 := by kernel_rfl
  rw [hc]
  simp [Op.eqItems, List.range, List.range.loop, part, sizeOf, typeInfo, hi, hz1, go_sem, run_equalIn_string _ _ 9 _ _ Tryd.underlying9]

set_option maxRecDepth 100000 in
set_option maxHeartbeats 8000000 in
theorem tapeFields_walk (s : ByteArray) (w : World) (hs : s.size ≤ 1048576) :
    Calls Tryd.prog 3 #[.string s] w fun e w' => e = .returned (.bool true) ∧ Below w.heap.size w w' := by
  have hl := recs_len s.data.toList
  rw [show s.data.toList.length = s.size by rw [Array.length_toList]; rfl] at hl
  obtain ⟨l, hll⟩ : ∃ l, l = (recs s.data.toList).getD [] := ⟨_, rfl⟩
  obtain ⟨ok, hok⟩ : ∃ ok, ok = (recs s.data.toList).isSome := ⟨_, rfl⟩
  obtain ⟨nn, nb, hnn⟩ : ∃ a b, numP s.data.toList = (a, b) := ⟨_, _, rfl⟩
  have KN := hid (number_any s (by omega))
  have KM := hid (rnumber_any s (by omega))
  have KR := hid (records_any s (by omega))
  have KS := hid (rrecords_any s (by omega))
  rw [hnn] at KN KM
  unfold tupN at KN KM
  dsimp only at KN KM
  rw [← hll, ← hok] at KR KS
  rw [← hll] at hl
  clear hll hok hnn
  go_enter Tryd.func3, Tryd.ntmps3
  go_wp2_with fail
  refine (speaks_yes w).mono ?_
  rintro e w1 ⟨rfl, t1⟩
  have T1 := hid t1
  clear t1
  go_wp2_with fail
  refine (KN.out w1).mono ?_
  rintro e w2 ⟨rfl, t2⟩
  have T2 := hid (T1.out.trans t2 (fun _ _ e => e))
  clear t2 T1 KN
  go_wp2_with fail
  refine (KM.out w2).mono ?_
  rintro e w3 ⟨rfl, rfl⟩
  clear KM
  go_wp2_with fail
  refine (KR.out w2).mono ?_
  rintro e w3 ⟨v3, rfl, ow3⟩
  have T3 := hid (T2.out.trans ow3.touch (fun _ _ e => e))
  obtain ⟨a3, c3, hv3, hr3⟩ := ow3.rg
  subst hv3
  have R3 := hid hr3
  clear KR ow3 hr3 T2
  go_wp2_with fail
  refine (KS.out w3).mono ?_
  rintro e w4 ⟨v4, rfl, ow4⟩
  have T4 := hid (T3.out.trans ow4.touch (fun _ _ e => e))
  replace R3 := hid (R3.out.new ow4.touch)
  obtain ⟨a4, c4, hv4, hr4⟩ := ow4.rg
  subst hv4
  have R4 := hid hr4
  clear KS ow4 hr4 T3
  go_wp2_with fail
  go_loopg [11] l.length (fun gk i wr => ∃ k : Nat, k + gk = l.length ∧ i = .int .i64 (k : Nat) ∧ Touch (fun _ => False) w4 wr)
  case atStart => exact ⟨0, by omega, rfl, Touch.refl _ _⟩
  case round =>
    obtain ⟨k, hk, rfl, ht⟩ := hrel
    have TR := hid ht
    clear ht
    by_cases hlt : k < l.length
    · obtain ⟨b, o, ha, hbl, hcell⟩ : ∃ b o, a3 = some ⟨b, o, none⟩ ∧ b < wr.heap.size ∧ ∀ i (h : i < l.length), wr.cell? ⟨b, o + i * 2, none⟩ = some (sv (l[i]).1) ∧ wr.cell? ⟨b, o + i * 2 + 1, none⟩ = some (sv (l[i]).2) := by
        rcases R3.out.new TR.out with h | h
        · rw [h] at hlt; simp at hlt
        · exact h
      subst ha
      obtain ⟨b4, o4, ha4, hbl4, hcell4⟩ : ∃ b o, a4 = some ⟨b, o, none⟩ ∧ b < wr.heap.size ∧ ∀ i (h : i < l.length), wr.cell? ⟨b, o + i * 2, none⟩ = some (sv (l[i]).1) ∧ wr.cell? ⟨b, o + i * 2 + 1, none⟩ = some (sv (l[i]).2) := by
        rcases R4.out.new TR.out with h | h
        · rw [h] at hlt; simp at hlt
        · exact h
      subst ha4
      obtain ⟨d0, d1⟩ := hcell k hlt
      obtain ⟨f0, f1⟩ := hcell4 k hlt
      obtain ⟨r, hr⟩ : ∃ r, r = l[k] := ⟨_, rfl⟩
      rw [← hr] at d0 d1 f0 f1
      obtain ⟨y, z⟩ := r
      dsimp only at d0 d1 f0 f1
      unfold sv at d0 d1 f0 f1
      have hkI : (k : Int) < (l.length : Int) := by omega
      clear hcell hcell4 hr
      have hps := pair_same ⟨y.toArray⟩ ⟨z.toArray⟩
      go_wp2_with fail
      go_quiet (fail)
      go_wp2
      go_roundg (gk - 1)
      case measure => omega
      case rel => exact ⟨k + 1, by omega, by go_num, TR.out.drewN _⟩
    · obtain rfl : k = l.length := by omega
      go_wp2
      go_ret
      exact ⟨rfl, ((T4.out.trans TR.out (fun _ _ e => e))).below _ (Nat.le_refl _) (fun _ e => e.elim)⟩
end Go.Proofs.YtdchbbegbijjgaaDoor
