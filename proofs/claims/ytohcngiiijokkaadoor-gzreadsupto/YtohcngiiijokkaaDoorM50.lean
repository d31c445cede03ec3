/- Texts of this proof, one behind the other: what each says stands ahead of it. -/
import Derived.Test.YtohcngiiijokkaaDoorM49
/- GzReads' walk; conditions: those told. -/
namespace Go.Proofs.YtohcngiiijokkaaDoor
open Go.RowKit

set_option maxRecDepth 100000 in
set_option maxHeartbeats 8000000 in
theorem gzReads_walk (s : ByteArray) (most : Int) (w : World) (hq : Quart w) (hs : s.size ≤ 1048576) (hm : (Lit.int .i64 most).wf = true) : Calls Tryd.prog 4 #[.string s, .int .i64 most] w fun e w' => e = .returned (.bool true) ∧ Touch (fun _ => False) w w' := by
  have HQ := hid hq
  have hmI : most ≤ 9223372036854775807 := by
    have h3 := hm
    simp only [Lit.wf, Bool.and_eq_true, decide_eq_true_eq] at h3
    exact h3.2
  have K1 := hid (fun w hq => read_all s most w hq (by omega) hmI)
  have K2 := hid (fun w => rread_all s most w (by omega) hmI)
  have KS := hid (fun w hq => sum_any s (by omega) w hq)
  have KR := hid (fun w => rsum_any s (by omega) w)
  clear hq hm
  go_enter Tryd.func4, Tryd.ntmps4
  go_wp2_with fail
  refine (speaks_yes w HQ.out).mono ?_
  rintro e w1 ⟨rfl, rfl⟩
  go_wp2_with fail
  refine (K1.out w HQ.out).mono ?_
  rintro e w1 ⟨a1, c1, l1, y1, rfl, pl1, t1, an1⟩
  have AN1 := hid an1
  have al1 := (Touch.refl (fun _ => False) w1).alloc (.cells #[.int .i64 (y1.1 : Nat), .int .i64 (y1.2 : Nat)] 26)
  have T1 := hid ((t1.trans al1 (fun _ _ e => e)))
  have P1 := hid (pl1.keep al1)
  have F1 := hid (cells_new w1 #[.int .i64 (y1.1 : Nat), .int .i64 (y1.2 : Nat)] 26)
  clear pl1 t1 an1 al1 K1
  go_wp2_with fail
  generalize w1.alloc (.cells #[.int .i64 (y1.1 : Nat), .int .i64 (y1.2 : Nat)] 26) = w2 at *
  generalize w1.heap.size = q6 at *
  refine (K2.out w2).mono ?_
  rintro e w3 ⟨a2, c2, l2, y2, rfl, pl2, t2, an2⟩
  obtain ⟨rfl, rfl⟩ := AN1.out.det an2
  have T2 := hid (T1.out.trans t2 (fun _ _ e => e))
  have P2 := hid pl2
  have P1' := hid (P1.out.keep t2)
  have f1 := t2.still F1.out
  have KP := hid (parts_any l1 a1 a2 c1 c2 w3 P1'.out P2.out AN1.out.few)
  clear pl2 t2 an2 F1 P1 T1 P2 P1' K2
  go_wp2_with fail
  refine KP.out.mono ?_
  rintro e w4 ⟨rfl, t4⟩
  have f2 := t4.still f1
  have T4 := hid (T2.out.trans t4 (fun _ _ e => e))
  have Q4 := hid (HQ.out.new T4.out id)
  have u0 := cell_two0 f2
  have u1 := cell_two1 f2
  clear f1 f2 t4 T2 KP AN1
  by_cases h2 : 2 ≤ s.size
  · have hlI : (1 : Int) < (s.size : Int) := by omega
    have hl0 : (0 : Int) < (s.size : Int) := by omega
    have b0 := byte_get s 0 (by omega)
    have b1 := byte_get s 1 (by omega)
    have hN0 : 0 < s.size := by omega
    have hN1 : 1 < s.size := by omega
    have HB := hid (show isB s = (Bt.byteN s 0 == 31 && Bt.byteN s 1 == 139) by unfold isB; rw [decide_eq_true h2]; rfl)
    generalize Bt.byteN s 0 = m0 at *
    generalize Bt.byteN s 1 = m1 at *
    by_cases h0 : m0 = 31
    · by_cases h1 : m1 = 139
      · have e0 : ((m0 : Int) == 31) = true := by rw [beq_iff_eq]; omega
        have e1 : ((m1 : Int) == 139) = true := by rw [beq_iff_eq]; omega
        have hB : isB s = true := by rw [HB.out, h0, h1]; rfl
        have KI := hid (fun w => is_any s w)
        rw [hB] at KI
        clear hB h0 h1 HB
        go_wp2_with fail
        refine (KI.out w4).mono ?_
        rintro e w5 ⟨rfl, rfl⟩
        clear KI
        go_wp2_with fail
        refine (KS.out _ Q4.out).mono ?_
        rintro e w5 ⟨rfl, rfl⟩
        clear KS
        go_wp2_with fail
        refine (KR.out _).mono ?_
        rintro e w5 ⟨rfl, rfl⟩
        clear KR
        go_wp2
        go_ret
        exact ⟨rfl, T4.out⟩
      · have e0 : ((m0 : Int) == 31) = true := by rw [beq_iff_eq]; omega
        have e1 : ((m1 : Int) == 139) = false := by rw [beq_eq_false_iff_ne]; omega
        have hB : isB s = false := by rw [HB.out, beq_eq_false_iff_ne.2 h1, Bool.and_false]
        have KI := hid (fun w => is_any s w)
        rw [hB] at KI
        clear hB h0 h1 HB
        go_wp2_with fail
        refine (KI.out w4).mono ?_
        rintro e w5 ⟨rfl, rfl⟩
        clear KI
        go_wp2_with fail
        refine (KS.out _ Q4.out).mono ?_
        rintro e w5 ⟨rfl, rfl⟩
        clear KS
        go_wp2_with fail
        refine (KR.out _).mono ?_
        rintro e w5 ⟨rfl, rfl⟩
        clear KR
        go_wp2
        go_ret
        exact ⟨rfl, T4.out⟩
    · have e0 : ((m0 : Int) == 31) = false := by rw [beq_eq_false_iff_ne]; omega
      have hB : isB s = false := by rw [HB.out, beq_eq_false_iff_ne.2 h0, Bool.false_and]
      have KI := hid (fun w => is_any s w)
      rw [hB] at KI
      clear hB h0 HB
      go_wp2_with fail
      refine (KI.out w4).mono ?_
      rintro e w5 ⟨rfl, rfl⟩
      clear KI
      go_wp2_with fail
      refine (KS.out _ Q4.out).mono ?_
      rintro e w5 ⟨rfl, rfl⟩
      clear KS
      go_wp2_with fail
      refine (KR.out _).mono ?_
      rintro e w5 ⟨rfl, rfl⟩
      clear KR
      go_wp2
      go_ret
      exact ⟨rfl, T4.out⟩
  · have hlI : ¬ ((1 : Int) < (s.size : Int)) := by omega
    have hB : isB s = false := by unfold isB; rw [decide_eq_false h2]; rfl
    have KI := hid (fun w => is_any s w)
    rw [hB] at KI
    clear hB
    go_wp2_with fail
    refine (KI.out w4).mono ?_
    rintro e w5 ⟨rfl, rfl⟩
    clear KI
    go_wp2_with fail
    refine (KS.out _ Q4.out).mono ?_
    rintro e w5 ⟨rfl, rfl⟩
    clear KS
    go_wp2_with fail
    refine (KR.out _).mono ?_
    rintro e w5 ⟨rfl, rfl⟩
    clear KR
    go_wp2
    go_ret
    exact ⟨rfl, T4.out⟩
end Go.Proofs.YtohcngiiijokkaaDoor
