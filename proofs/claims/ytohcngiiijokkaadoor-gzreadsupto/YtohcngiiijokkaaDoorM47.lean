/- Texts of this proof, one behind the other: what each says stands ahead of it. -/
import Derived.Test.YtohcngiiijokkaaDoorM41
/- The document's part, with extra bytes and a sum of its head, where what is packed or its sum is wrong; conditions: those told. -/
namespace Go.Proofs.YtohcngiiijokkaaDoor
open Go.RowKit

set_option maxRecDepth 100000 in
set_option maxHeartbeats 8000000 in
theorem rpart_k2 (s : ByteArray) (p most : Nat) (w : World) (hs : s.size ≤ 140737488) (hp : p ≤ s.size) (hm : most ≤ 9223372036854775807) (hh : ∀ y, Gz.headAt s p = .error y → False) (htx : ∀ f y, Gz.headAt s p = .ok f → Gz.textsAt s (p + 10) f = .error y → False) (hsx : ∀ f x n c t y, Gz.headAt s p = .ok f → Gz.textsAt s (p + 10) f = .ok (x, n, c, t) → Gz.sumAt s p t (f / 2 % 2 == 1) = .error y → False) (hq : ∀ f x n c t t3 S NN C A, Gz.headAt s p = .ok f → Gz.textsAt s (p + 10) f = .ok (x, n, c, t) → Gz.sumAt s p t (f / 2 % 2 == 1) = .ok t3 → Says (s.extract t3 s.size) t3 most S NN C A → C ≠ 0 ∨ s.size < NN + 8 ∨ Gz.num s NN 4 ≠ Gz.sum S) (hfg : ∀ f, Gz.headAt s p = .ok f → (f / 4 % 2 == 1) = true ∧ (f / 2 % 2 == 1) = true) :
    Calls Tryd.prog 14 #[.string s, .int .i64 (p : Nat), .int .i64 (most : Nat)] w fun e w' => ∃ x, Gz.partR s p most x ∧ QPost w x e w' := by
  have HH := hid hh
  have HTX := hid htx
  have HSX := hid hsx
  have HFG0 := hid hfg
  have HQQ := hid hq
  clear hh htx hsx hq hfg
  obtain ⟨B6, B10, tal⟩ := two_parts w #[.string ⟨#[]⟩, .string ⟨#[]⟩, .string ⟨#[]⟩, .bool false, .bool false, .int .i64 0, .int .i64 0, .int .i64 0, .string ⟨#[]⟩] #[.string ⟨#[]⟩, .string ⟨#[]⟩, .string ⟨#[]⟩, .bool false, .bool false, .int .i64 0, .int .i64 0, .int .i64 0, .string ⟨#[]⟩]
  have FQ := hid B6
  have FX := hid B10
  have TT := hid tal
  clear B6 B10 tal
  go_enter Tryd.func14, Tryd.ntmps14
  go_upto_region 2 with fail
  generalize (w.alloc (.cells #[.string ⟨#[]⟩, .string ⟨#[]⟩, .string ⟨#[]⟩, .bool false, .bool false, .int .i64 0, .int .i64 0, .int .i64 0, .string ⟨#[]⟩] 45)).alloc (.cells #[.string ⟨#[]⟩, .string ⟨#[]⟩, .string ⟨#[]⟩, .bool false, .bool false, .int .i64 0, .int .i64 0, .int .i64 0, .string ⟨#[]⟩] 45) = wA at *
  obtain ⟨q6, hq6⟩ : ∃ q6, q6 = w.heap.size := ⟨_, rfl⟩
  rw [← hq6] at FQ FX ⊢
  obtain ⟨q10, hq10⟩ : ∃ q10, q10 = q6 + 1 := ⟨_, rfl⟩
  rw [← hq10] at FX ⊢
  have HQ := hid (show w.heap.size ≤ q6 ∧ q6 < q10 from ⟨by omega, by omega⟩)
  clear hq6 hq10
  by_cases hz : s.size < p + 2
  · have HE := hid (show Gz.headAt s p = .error (12, p) by unfold Gz.headAt; rw [if_pos (.inl hz)])
    have hzI : (s.size : Int) - (p : Int) < 2 := by omega
    exact (HH.out _ HE.out).elim
  have hzI : ¬ ((s.size : Int) - (p : Int) < 2) := by omega
  have hpI : (p : Int) < (s.size : Int) := by omega
  have hp1I : (p : Int) + 1 < (s.size : Int) := by omega
  have b0 := byte_get s p (by omega)
  have b1 := byte_get s (p + 1) (by omega)
  by_cases h0 : Bt.byteN s p ≠ 31
  · have HE := hid (show Gz.headAt s p = .error (12, p) by unfold Gz.headAt; rw [if_pos (.inr (.inl h0))])
    generalize Bt.byteN s p = m0 at *
    have h0I : ((m0 : Int) == 31) = false := by rw [beq_eq_false_iff_ne]; omega
    have h0J : ((m0 : Int) != 31) = true := by rw [bne_iff_ne]; omega
    clear h0 b1
    exact (HH.out _ HE.out).elim
  by_cases h1 : Bt.byteN s (p + 1) ≠ 139
  · have HE := hid (show Gz.headAt s p = .error (12, p) by unfold Gz.headAt; rw [if_pos (.inr (.inr h1))])
    generalize Bt.byteN s p = m0 at *
    generalize Bt.byteN s (p + 1) = m1 at *
    have h0I : ((m0 : Int) == 31) = true := by rw [beq_iff_eq]; omega
    have h0J : ((m0 : Int) != 31) = false := by rw [bne_eq_false_iff_eq]; omega
    have h1I : ((m1 : Int) == 139) = false := by rw [beq_eq_false_iff_ne]; omega
    have h1J : ((m1 : Int) != 139) = true := by rw [bne_iff_ne]; omega
    clear h0 h1
    exact (HH.out _ HE.out).elim
  have hm0 : ¬ (s.size < p + 2 ∨ Bt.byteN s p ≠ 31 ∨ Bt.byteN s (p + 1) ≠ 139) := by omega
  have HM0 := hid (show Gz.headAt s p = (if s.size < p + 10 then .error (3, p) else if Bt.byteN s (p + 2) ≠ 8 then .error (13, p + 2) else if 31 < Bt.byteN s (p + 3) then .error (4, p + 3) else .ok (Bt.byteN s (p + 3))) by unfold Gz.headAt; rw [if_neg hm0])
  generalize Bt.byteN s p = m0 at *
  generalize Bt.byteN s (p + 1) = m1 at *
  have h0I : ((m0 : Int) == 31) = true := by rw [beq_iff_eq]; omega
  have h0J : ((m0 : Int) != 31) = false := by rw [bne_eq_false_iff_eq]; omega
  have h1I : ((m1 : Int) == 139) = true := by rw [beq_iff_eq]; omega
  have h1J : ((m1 : Int) != 139) = false := by rw [bne_eq_false_iff_eq]; omega
  go_upto_region 4 with fail
  clear b0 b1 h0 h1 h0I h0J h1I h1J hm0 hzI hpI hp1I
  by_cases h10 : s.size < p + 10
  · have HE := hid (show Gz.headAt s p = .error (3, p) by rw [HM0.out, if_pos h10])
    have hzI : (s.size : Int) - (p : Int) < 10 := by omega
    exact (HH.out _ HE.out).elim
  have hzI : ¬ ((s.size : Int) - (p : Int) < 10) := by omega
  have hp2I : (p : Int) + 2 < (s.size : Int) := by omega
  have hp3I : (p : Int) + 3 < (s.size : Int) := by omega
  have b2 := byte_get s (p + 2) (by omega)
  have b3 := byte_get s (p + 3) (by omega)
  have b8 := byte_get s (p + 8) (by omega)
  have b9 := byte_get s (p + 9) (by omega)
  have hl3 := Bt.byteN_lt s (p + 3)
  have hl8 := Bt.byteN_lt s (p + 8)
  have hl9 := Bt.byteN_lt s (p + 9)
  have KV := hid (fun w => value_cut s (p + 4) 4 (by omega) (by decide) w)
  rw [show p + 4 + 4 = p + 8 by omega] at KV
  have HHD := hid (show Gz.headAt s p = (if Bt.byteN s (p + 2) ≠ 8 then .error (13, p + 2) else if 31 < Bt.byteN s (p + 3) then .error (4, p + 3) else .ok (Bt.byteN s (p + 3))) by rw [HM0.out, if_neg h10])
  have HPO := hid (show ∀ f x n c S, Gz.partOf s p f x n c S = ⟨n, c, x, f % 2 == 1, f / 2 % 2 == 1, Gz.num s (p + 4) 4, Bt.byteN s (p + 8), Bt.byteN s (p + 9), S⟩ from fun f x n c S => rfl)
  clear HM0
  generalize Bt.byteN s (p + 2) = m2 at *
  generalize Bt.byteN s (p + 3) = f at *
  generalize Bt.byteN s (p + 8) = m8 at *
  generalize Bt.byteN s (p + 9) = m9 at *
  generalize Gz.num s (p + 4) 4 = tm at *
  by_cases h8 : m2 ≠ 8
  · have HE := hid (show Gz.headAt s p = .error (13, p + 2) by rw [HHD.out, if_pos h8])
    have h8I : ((m2 : Int) == 8) = false := by rw [beq_eq_false_iff_ne]; omega
    have h8J : ((m2 : Int) != 8) = true := by rw [bne_iff_ne]; omega
    clear h8 b3 b8 b9
    exact (HH.out _ HE.out).elim
  have h8I : ((m2 : Int) == 8) = true := by rw [beq_iff_eq]; omega
  have h8J : ((m2 : Int) != 8) = false := by rw [bne_eq_false_iff_eq]; omega
  by_cases h31 : 31 < f
  · have HE := hid (show Gz.headAt s p = .error (4, p + 3) by rw [HHD.out, if_neg h8, if_pos h31])
    have h31I : (31 : Int) < (f : Int) := by omega
    clear h8 h31 b8 b9
    exact (HH.out _ HE.out).elim
  have HE := hid (show Gz.headAt s p = .ok f by rw [HHD.out, if_neg h8, if_neg h31])
  have HFG := hid (HFG0.out _ HE.out)
  have h31I : ¬ ((31 : Int) < (f : Int)) := by omega
  have hf31 : f ≤ 31 := by omega
  have h4I : (p : Int) + 8 ≤ (s.size : Int) := by omega
  have hp8I : (p : Int) + 8 < (s.size : Int) := by omega
  have hp9I : (p : Int) + 9 < (s.size : Int) := by omega
  clear h8 h31 HHD
  go_wp2_with fail
  refine (KV.out wA).mono ?_
  rintro e w1 ⟨rfl, rfl⟩
  clear KV
  have j5 : wA.cell? ⟨q10, 5, none⟩ = some (.int .i64 0) := blk_cell FX.out 5
  have jf5 : wA.frozen? ⟨q10, 5, none⟩ = false := blk_free FX.out
  go_upto_region 12 with fail
  have FX1 := hid (show (wA.setCell ⟨q10, 5, none⟩ (.int .i64 (tm : Nat))).heap[q10]? = some (.cells #[.string ⟨#[]⟩, .string ⟨#[]⟩, .string ⟨#[]⟩, .bool false, .bool false, .int .i64 (tm : Nat), .int .i64 0, .int .i64 0, .string ⟨#[]⟩] 45 (0, 0)) from blk_set FX.out _)
  have FQ1 := hid (show (wA.setCell ⟨q10, 5, none⟩ (.int .i64 (tm : Nat))).heap[q6]? = some (.cells #[.string ⟨#[]⟩, .string ⟨#[]⟩, .string ⟨#[]⟩, .bool false, .bool false, .int .i64 0, .int .i64 0, .int .i64 0, .string ⟨#[]⟩] 45 (0, 0)) from (Below.heap_setCell wA _ _ _ (show q6 ≠ q10 by have := HQ.out; omega)).trans FQ.out)
  have TT1 := hid (TT.out.setCell (p := ⟨q10, 5, none⟩) (fun h => absurd h (Nat.not_lt.2 (show w.heap.size ≤ q10 by have := HQ.out; omega))) (.int .i64 (tm : Nat)))
  clear j5 jf5 FX FQ TT h8I h8J h31I
  generalize wA.setCell ⟨q10, 5, none⟩ (.int .i64 (tm : Nat)) = wB at *
  have j6 : wB.cell? ⟨q10, 6, none⟩ = some (.int .i64 0) := blk_cell FX1.out 6
  have jf6 : wB.frozen? ⟨q10, 6, none⟩ = false := blk_free FX1.out
  have j7 : wB.cell? ⟨q10, 7, none⟩ = some (.int .i64 0) := blk_cell FX1.out 7
  have jf7 : wB.frozen? ⟨q10, 7, none⟩ = false := blk_free FX1.out
  obtain ⟨p8, hp8⟩ : ∃ p8, p8 = p + 8 := ⟨_, rfl⟩
  obtain ⟨p9, hp9⟩ : ∃ p9, p9 = p + 9 := ⟨_, rfl⟩
  have hi8 : IntKind.i64.wrap ((p : Int) + 8) = (p8 : Int) := by rw [IntKind.wrap_i64]; omega
  have hi9 : IntKind.i64.wrap ((p : Int) + 9) = (p9 : Int) := by rw [IntKind.wrap_i64]; omega
  have hl8I : p8 < s.size := by omega
  have hl9I : p9 < s.size := by omega
  have b8' : s[p8].toNat = m8 := by subst hp8; exact b8
  have b9' : s[p9].toNat = m9 := by subst hp9; exact b9
  have hl8J : (p8 : Int) < (s.size : Int) := by omega
  have hl9J : (p9 : Int) < (s.size : Int) := by omega
  clear hp8 hp9 b8 b9 hp8I hp9I
  have hw8 : IntKind.i64.wrap (m8 : Int) = (m8 : Int) := by rw [IntKind.wrap_i64]; omega
  have hw9 : IntKind.i64.wrap (m9 : Int) = (m9 : Int) := by rw [IntKind.wrap_i64]; omega
  go_cut [] (fun wd => wd.heap[q10]? = some (.cells #[.string ⟨#[]⟩, .string ⟨#[]⟩, .string ⟨#[]⟩, .bool false, .bool false, .int .i64 (tm : Nat), .int .i64 (m8 : Nat), .int .i64 (m9 : Nat), .string ⟨#[]⟩] 45 (0, 0)) ∧ wd.heap[q6]? = some (.cells #[.string ⟨#[]⟩, .string ⟨#[]⟩, .string ⟨#[]⟩, .bool false, .bool false, .int .i64 0, .int .i64 0, .int .i64 0, .string ⟨#[]⟩] 45 (0, 0)) ∧ Touch (fun _ => False) w wd)
  case first =>
    go_region
    all_goals
      go_wp2
      go_meet
      case rel =>
        refine ⟨?_, ?_, ?_⟩
        · exact blk_set (blk_set FX1.out _) _
        · rw [drew_heap, Below.heap_setCell _ _ _ _ (show q6 ≠ q10 by have := HQ.out; omega), Below.heap_setCell _ _ _ _ (show q6 ≠ q10 by have := HQ.out; omega)]
          exact FQ1.out
        · exact ((TT1.out.setCell (p := ⟨q10, 6, none⟩) (fun h => absurd h (Nat.not_lt.2 (show w.heap.size ≤ q10 by have := HQ.out; omega))) _).setCell (p := ⟨q10, 7, none⟩) (fun h => absurd h (Nat.not_lt.2 (show w.heap.size ≤ q10 by have := HQ.out; omega))) _).drew
  obtain ⟨hX, hQ6, hT⟩ := hcut
  have FX2 := hid hX
  have FQ2 := hid hQ6
  have TT2 := hid hT
  obtain ⟨wC, hw⟩ : ∃ wC, wC = wc := ⟨_, rfl⟩
  rw [← hw] at FX2 FQ2 TT2 ⊢
  clear hw hX hQ6 hT FX1 FQ1 TT1 j6 jf6 j7 jf7 hw8 hw9 b8' b9' hi8 hi9 hl8I hl9I hl8J hl9J b2 b3 hp2I hp3I h4I hzI
  have j3 : wC.cell? ⟨q10, 3, none⟩ = some (.bool false) := blk_cell FX2.out 3
  have jf3 : wC.frozen? ⟨q10, 3, none⟩ = false := blk_free FX2.out
  have j4 : wC.cell? ⟨q10, 4, none⟩ = some (.bool false) := blk_cell FX2.out 4
  have jf4 : wC.frozen? ⟨q10, 4, none⟩ = false := blk_free FX2.out
  have hBx : ((f : Int) % 2 == 1) = (f % 2 == 1) := by rw [Bool.eq_iff_iff, beq_iff_eq, beq_iff_eq]; omega
  have hBh : ((f : Int) / 2 % 2 == 1) = (f / 2 % 2 == 1) := by rw [Bool.eq_iff_iff, beq_iff_eq, beq_iff_eq]; omega
  have HB4 := hid (show ((f : Int) / 4 % 2 == 1) = (f / 4 % 2 == 1) by rw [Bool.eq_iff_iff, beq_iff_eq, beq_iff_eq]; omega)
  have HB8 := hid (show ((f : Int) / 8 % 2 == 0) = !(f / 8 % 2 == 1) by
    rw [Bool.eq_iff_iff, beq_iff_eq, Bool.not_eq_true', beq_eq_false_iff_ne]; omega)
  have HB16 := hid (show ((f : Int) / 16 % 2 == 0) = !(f / 16 % 2 == 1) by
    rw [Bool.eq_iff_iff, beq_iff_eq, Bool.not_eq_true', beq_eq_false_iff_ne]; omega)
  obtain ⟨tx, htx⟩ : ∃ tx, tx = (f % 2 == 1) := ⟨_, rfl⟩
  obtain ⟨hx, hhx⟩ : ∃ hx, hx = (f / 2 % 2 == 1) := ⟨_, rfl⟩
  rw [← htx] at hBx
  rw [← hhx] at hBh
  have HPF := hid (show ∀ x n c S, Gz.partOf s p f x n c S = ⟨n, c, x, tx, hx, tm, m8, m9, S⟩ from fun x n c S => by rw [HPO.out, htx, hhx])
  have HHX := hid hhx
  clear htx hhx HPO
  go_upto_region 14 with fail
  have FX3 := hid (show ((wC.setCell ⟨q10, 3, none⟩ (.bool tx)).setCell ⟨q10, 4, none⟩ (.bool hx)).heap[q10]? = some (.cells #[.string ⟨#[]⟩, .string ⟨#[]⟩, .string ⟨#[]⟩, .bool tx, .bool hx, .int .i64 (tm : Nat), .int .i64 (m8 : Nat), .int .i64 (m9 : Nat), .string ⟨#[]⟩] 45 (0, 0)) from blk_set (blk_set FX2.out _) _)
  have FQ3 := hid (show ((wC.setCell ⟨q10, 3, none⟩ (.bool tx)).setCell ⟨q10, 4, none⟩ (.bool hx)).heap[q6]? = some (.cells #[.string ⟨#[]⟩, .string ⟨#[]⟩, .string ⟨#[]⟩, .bool false, .bool false, .int .i64 0, .int .i64 0, .int .i64 0, .string ⟨#[]⟩] 45 (0, 0)) from (Below.heap_setCell _ _ _ _ (show q6 ≠ q10 by have := HQ.out; omega)).trans ((Below.heap_setCell wC _ _ _ (show q6 ≠ q10 by have := HQ.out; omega)).trans FQ2.out))
  have TT3 := hid ((TT2.out.setCell (p := ⟨q10, 3, none⟩) (fun h => absurd h (Nat.not_lt.2 (show w.heap.size ≤ q10 by have := HQ.out; omega))) (.bool tx)).setCell (p := ⟨q10, 4, none⟩) (fun h => absurd h (Nat.not_lt.2 (show w.heap.size ≤ q10 by have := HQ.out; omega))) (.bool hx))
  clear j3 jf3 j4 jf4 FX2 FQ2 TT2 hBx hBh
  generalize (wC.setCell ⟨q10, 3, none⟩ (.bool tx)).setCell ⟨q10, 4, none⟩ (.bool hx) = wD at *
  have H10 := hid (show p + 10 ≤ s.size by omega)
  go_upto_if 99 with fail
  obtain ⟨t0, ht0⟩ : ∃ t0, t0 = p + 10 := ⟨_, rfl⟩
  rw [show (p : Int) + 10 = (t0 : Int) by omega]
  have HT0 := hid (show t0 ≤ s.size by omega)
  have H0 := hid ht0
  rw [← ht0] at H10
  clear ht0
  go_cut [12, 13] (fun v12 v13 wd => ∃ (x : ByteArray) (t1 : Nat), v12 = .int .i64 (t1 : Nat) ∧ Gz.perhaps (f / 4 % 2 == 1) t0 (Gz.extraAt s t0) = .ok (x, t1) ∧ wd.heap[q10]? = some (.cells #[.string ⟨#[]⟩, .string ⟨#[]⟩, .string x, .bool tx, .bool hx, .int .i64 (tm : Nat), .int .i64 (m8 : Nat), .int .i64 (m9 : Nat), .string ⟨#[]⟩] 45 (0, 0)) ∧ wd.heap[q6]? = some (.cells #[.string ⟨#[]⟩, .string ⟨#[]⟩, .string ⟨#[]⟩, .bool false, .bool false, .int .i64 0, .int .i64 0, .int .i64 0, .string ⟨#[]⟩] 45 (0, 0)) ∧ Touch (fun _ => False) w wd ∧ t1 ≤ s.size)
  case first =>
    by_cases hfl : (f / 4 % 2 == 1) = true
    · have hB : ((f : Int) / 4 % 2 == 1) = true := by rw [HB4.out]; exact hfl
      have HFL := hid hfl
      clear hfl
      by_cases h2 : s.size < t0 + 2
      · have h2I : (s.size : Int) - (t0 : Int) < 2 := by omega
        have HTE := hid (show Gz.textsAt s t0 f = .error (3, t0) by unfold Gz.textsAt Gz.perhaps; rw [if_pos HFL.out, Gz.extraAt, if_pos h2])
        exact (HTX.out _ _ HE.out (by rw [← H0.out]; exact HTE.out)).elim
      · have h2I : ¬ ((s.size : Int) - (t0 : Int) < 2) := by omega
        have h2J : (t0 : Int) + 2 ≤ (s.size : Int) := by omega
        have KV := hid (fun w => value_cut s t0 2 (by omega) (by decide) w)
        have hnl := Gz.num_lt s 2 t0
        have HEX := hid (show Gz.extraAt s t0 = if s.size < t0 + 2 + Gz.num s t0 2 then .error (3, t0) else .ok (s.extract (t0 + 2) (t0 + 2 + Gz.num s t0 2), t0 + 2 + Gz.num s t0 2) by unfold Gz.extraAt; rw [if_neg h2])
        generalize Gz.num s t0 2 = n at *
        have hn16 : n < 65536 := hnl
        clear hnl
        go_wp2_with fail
        refine (KV.out wD).mono ?_
        rintro e w1 ⟨rfl, rfl⟩
        by_cases h3 : s.size < t0 + 2 + n
        · have h3I : (s.size : Int) - (t0 : Int) - 2 < (n : Int) := by omega
          have HTE := hid (show Gz.textsAt s t0 f = .error (3, t0) by unfold Gz.textsAt Gz.perhaps; rw [if_pos HFL.out, HEX.out, if_pos h3])
          exact (HTX.out _ _ HE.out (by rw [← H0.out]; exact HTE.out)).elim
        · have h3I : ¬ ((s.size : Int) - (t0 : Int) - 2 < (n : Int)) := by omega
          have HTO := hid (show Gz.perhaps (f / 4 % 2 == 1) t0 (Gz.extraAt s t0) = .ok (s.extract (t0 + 2) (t0 + 2 + n), t0 + 2 + n) by unfold Gz.perhaps; rw [if_pos HFL.out, HEX.out, if_neg h3])
          obtain ⟨t1, ht1⟩ : ∃ t1, t1 = t0 + 2 + n := ⟨_, rfl⟩
          obtain ⟨ta, hta⟩ : ∃ ta, ta = t0 + 2 := ⟨_, rfl⟩
          have hT1 : t1 ≤ s.size := by omega
          have hTa : ta ≤ t1 := by omega
          have i1 : IntKind.i64.wrap ((t0 : Int) + 2) = (ta : Int) := by rw [IntKind.wrap_i64]; omega
          have i2 : IntKind.i64.wrap ((ta : Int) + (n : Int)) = (t1 : Int) := by rw [IntKind.wrap_i64]; omega
          have i3 : IntKind.i64.wrap ((t0 : Int) + (2 + (n : Int))) = (t1 : Int) := by rw [IntKind.wrap_i64]; omega
          have i4 : (t0 : Int) + 2 = (ta : Int) := by omega
          have i5 : (ta : Int) + (n : Int) = (t1 : Int) := by omega
          have i6 : (t0 : Int) + (2 + (n : Int)) = (t1 : Int) := by omega
          rw [← ht1, ← hta] at HTO
          have KW := hid (show ∀ w, Calls Tryd.prog 20 #[.string (s.extract t0 ta)] w fun e w' => e = .returned (.int .i64 (n : Nat)) ∧ w = w' by rw [hta]; exact KV.out)
          have j2 : wD.cell? ⟨q10, 2, none⟩ = some (.string ⟨#[]⟩) := blk_cell FX3.out 2
          have jf2 : wD.frozen? ⟨q10, 2, none⟩ = false := blk_free FX3.out
          clear ht1 hta h3 KV
          go_wp2_with fail
          refine (KW.out wD).mono ?_
          rintro e w1 ⟨rfl, rfl⟩
          clear KW
          go_wp2_with fail
          go_meet
          case rel =>
            refine ⟨s.extract ta t1, t1, rfl, HTO.out, blk_set FX3.out _, (Below.heap_setCell wD _ _ _ (show q6 ≠ q10 by have := HQ.out; omega)).trans FQ3.out, TT3.out.setCell (p := ⟨q10, 2, none⟩) (fun h => absurd h (Nat.not_lt.2 (show w.heap.size ≤ q10 by have := HQ.out; omega))) _, hT1⟩
    · exact (hfl HFG.out.1).elim
  obtain ⟨x, t1, rfl, hpx, hX, hQ6, hT, hle⟩ := hcut
  have HPX := hid hpx
  have FX4 := hid hX
  have FQ4 := hid hQ6
  have TT4 := hid hT
  have HT1 := hid hle
  obtain ⟨wE, hw⟩ : ∃ wE, wE = wc := ⟨_, rfl⟩
  rw [← hw] at FX4 FQ4 TT4 ⊢
  clear hw hpx hX hQ6 hT hle FX3 FQ3 TT3
  go_wp2_with fail
  go_loopg [12, 14, 15] 2 (fun gk v12 v14 v15 wq => ∃ (t : Nat) (n c : ByteArray), v12 = .int .i64 (t : Nat) ∧ wq.heap[q10]? = some (.cells #[.string n, .string c, .string x, .bool tx, .bool hx, .int .i64 (tm : Nat), .int .i64 (m8 : Nat), .int .i64 (m9 : Nat), .string ⟨#[]⟩] 45 (0, 0)) ∧ wq.heap[q6]? = some (.cells #[.string ⟨#[]⟩, .string ⟨#[]⟩, .string ⟨#[]⟩, .bool false, .bool false, .int .i64 0, .int .i64 0, .int .i64 0, .string ⟨#[]⟩] 45 (0, 0)) ∧ Touch (fun _ => False) w wq ∧ t ≤ s.size ∧
    ((gk = 2 ∧ v14 = .int .i64 3 ∧ n = ⟨#[]⟩ ∧ c = ⟨#[]⟩ ∧ t = t1) ∨ (gk = 1 ∧ v14 = .int .i64 4 ∧ c = ⟨#[]⟩ ∧ Gz.perhaps (f / 8 % 2 == 1) t1 (Gz.nameAt s t1) = .ok (n, t)) ∨ (gk = 0 ∧ v14 = .int .i64 5 ∧ ∃ t2, Gz.perhaps (f / 8 % 2 == 1) t1 (Gz.nameAt s t1) = .ok (n, t2) ∧ Gz.perhaps (f / 16 % 2 == 1) t2 (Gz.nameAt s t2) = .ok (c, t))))
  case atStart => exact ⟨t1, ⟨#[]⟩, ⟨#[]⟩, rfl, FX4.out, FQ4.out, TT4.out, HT1.out, .inl ⟨rfl, rfl, rfl, rfl, rfl⟩⟩
  case round =>
    obtain ⟨t, n, c, rfl, hX, hQ6, hT, hle, hk⟩ := hrel
    have FXR := hid hX
    have FQR := hid hQ6
    have TTR := hid hT
    have HTL := hid hle
    clear hX hQ6 hT FX4 FQ4 TT4
    rcases hk with ⟨rfl, rfl, rfl, rfl, rfl⟩ | ⟨rfl, rfl, rfl, hpn⟩ | ⟨rfl, rfl, t2, hpn, hpc⟩
    · clear hle
      have hts : t ≤ s.size := HTL.out
      by_cases hfl : (f / 8 % 2 == 1) = true
      · have hB : ((f : Int) / 8 % 2 == 0) = false := by rw [HB8.out, hfl]; rfl
        have HFL := hid hfl
        clear hfl
        have KZ := hid (fun w => zero_any s t (by omega) HTL.out w)
        cases hz : Gz.zeroAt s t with
        | none =>
          have HNA := hid (show Gz.nameAt s t = .error (3, t) by unfold Gz.nameAt; rw [hz])
          have hzI : zeroI s t = -1 := by unfold zeroI; rw [hz]
          rw [hzI] at KZ
          clear hz hzI
          have HTE := hid (show Gz.textsAt s t0 f = .error (3, t) by unfold Gz.textsAt; rw [HPX.out]; simp only; rw [Gz.perhaps, if_pos HFL.out, HNA.out])
          exact (HTX.out _ _ HE.out (by rw [← H0.out]; exact HTE.out)).elim
        | some z =>
          have hin := Gz.zero_in hz
          have hzI : zeroI s t = (z : Int) := by unfold zeroI; rw [hz]
          rw [hzI] at KZ
          by_cases h256 : 256 < z - t
          · have HNA := hid (show Gz.nameAt s t = .error (2, t) by unfold Gz.nameAt; rw [hz]; simp only; rw [if_pos h256])
            have h256I : (256 : Int) < (z : Int) - (t : Int) := by omega
            have hz0 : ¬ ((z : Int) < 0) := by omega
            have hzs : z ≤ s.size := by omega
            clear hz hzI h256 hin
            have HTE := hid (show Gz.textsAt s t0 f = .error (2, t) by unfold Gz.textsAt; rw [HPX.out]; simp only; rw [Gz.perhaps, if_pos HFL.out, HNA.out])
            exact (HTX.out _ _ HE.out (by rw [← H0.out]; exact HTE.out)).elim
          · have HNA := hid (show Gz.nameAt s t = .ok (s.extract t z, z + 1) by unfold Gz.nameAt; rw [hz]; simp only; rw [if_neg h256])
            have h256I : ¬ ((256 : Int) < (z : Int) - (t : Int)) := by omega
            have hz0 : ¬ ((z : Int) < 0) := by omega
            have hzs : z ≤ s.size := by omega
            have hz1 : z + 1 ≤ s.size := by omega
            have htz : t ≤ z := hin.1
            have htzI : (t : Int) ≤ (z : Int) := by omega
            clear hz hzI h256 hin
            go_wp2_with fail
            refine (KZ.out wr).mono ?_
            rintro e w1 ⟨rfl, rfl⟩
            clear KZ
            have j0 : wr.cell? ⟨q10, 0, none⟩ = some (.string ⟨#[]⟩) := blk_cell FXR.out 0
            have jf0 : wr.frozen? ⟨q10, 0, none⟩ = false := blk_free FXR.out
            go_wp2_with fail
            go_roundg 1
            case measure => omega
            case rel => exact ⟨z + 1, s.extract t z, ⟨#[]⟩, by go_num, blk_set FXR.out _, (Below.heap_setCell wr _ _ _ (show q6 ≠ q10 by have := HQ.out; omega)).trans FQR.out, TTR.out.setCell (p := ⟨q10, 0, none⟩) (fun h => absurd h (Nat.not_lt.2 (show w.heap.size ≤ q10 by have := HQ.out; omega))) _, hz1, .inr (.inl ⟨rfl, by go_num, rfl, by unfold Gz.perhaps; rw [if_pos HFL.out, HNA.out]⟩)⟩
      · have hB : ((f : Int) / 8 % 2 == 0) = true := by rw [HB8.out, Bool.eq_false_iff.2 hfl]; rfl
        have HFL := hid hfl
        clear hfl
        go_wp2_with fail
        go_roundg 1
        case measure => omega
        case rel => exact ⟨t, ⟨#[]⟩, ⟨#[]⟩, rfl, FXR.out, FQR.out, TTR.out, HTL.out, .inr (.inl ⟨rfl, by go_num, rfl, by unfold Gz.perhaps; rw [if_neg HFL.out]; rfl⟩)⟩
    · have HPN := hid hpn
      obtain ⟨t2, ht2⟩ : ∃ t2, t2 = t := ⟨_, rfl⟩
      rw [← ht2] at HPN HTL ⊢
      have hts : t2 ≤ s.size := HTL.out
      clear ht2 hpn hle
      by_cases hfl : (f / 16 % 2 == 1) = true
      · have hB : ((f : Int) / 16 % 2 == 0) = false := by rw [HB16.out, hfl]; rfl
        have HFL := hid hfl
        clear hfl
        have KZ := hid (fun w => zero_any s t2 (by omega) HTL.out w)
        cases hz : Gz.zeroAt s t2 with
        | none =>
          have HNA := hid (show Gz.nameAt s t2 = .error (3, t2) by unfold Gz.nameAt; rw [hz])
          have hzI : zeroI s t2 = -1 := by unfold zeroI; rw [hz]
          rw [hzI] at KZ
          clear hz hzI
          have HTE := hid (show Gz.textsAt s t0 f = .error (3, t2) by unfold Gz.textsAt; rw [HPX.out]; simp only; rw [HPN.out]; simp only; rw [Gz.perhaps, if_pos HFL.out, HNA.out])
          exact (HTX.out _ _ HE.out (by rw [← H0.out]; exact HTE.out)).elim
        | some z =>
          have hin := Gz.zero_in hz
          have hzI : zeroI s t2 = (z : Int) := by unfold zeroI; rw [hz]
          rw [hzI] at KZ
          by_cases h256 : 256 < z - t2
          · have HNA := hid (show Gz.nameAt s t2 = .error (2, t2) by unfold Gz.nameAt; rw [hz]; simp only; rw [if_pos h256])
            have h256I : (256 : Int) < (z : Int) - (t2 : Int) := by omega
            have hz0 : ¬ ((z : Int) < 0) := by omega
            have hzs : z ≤ s.size := by omega
            clear hz hzI h256 hin
            have HTE := hid (show Gz.textsAt s t0 f = .error (2, t2) by unfold Gz.textsAt; rw [HPX.out]; simp only; rw [HPN.out]; simp only; rw [Gz.perhaps, if_pos HFL.out, HNA.out])
            exact (HTX.out _ _ HE.out (by rw [← H0.out]; exact HTE.out)).elim
          · have HNA := hid (show Gz.nameAt s t2 = .ok (s.extract t2 z, z + 1) by unfold Gz.nameAt; rw [hz]; simp only; rw [if_neg h256])
            have h256I : ¬ ((256 : Int) < (z : Int) - (t2 : Int)) := by omega
            have hz0 : ¬ ((z : Int) < 0) := by omega
            have hzs : z ≤ s.size := by omega
            have hz1 : z + 1 ≤ s.size := by omega
            have htz : t2 ≤ z := hin.1
            have htzI : (t2 : Int) ≤ (z : Int) := by omega
            clear hz hzI h256 hin
            go_wp2_with fail
            refine (KZ.out wr).mono ?_
            rintro e w1 ⟨rfl, rfl⟩
            clear KZ
            have j0 : wr.cell? ⟨q10, 1, none⟩ = some (.string ⟨#[]⟩) := blk_cell FXR.out 1
            have jf0 : wr.frozen? ⟨q10, 1, none⟩ = false := blk_free FXR.out
            go_wp2_with fail
            go_roundg 0
            case measure => omega
            case rel => exact ⟨z + 1, n, s.extract t2 z, by go_num, blk_set FXR.out _, (Below.heap_setCell wr _ _ _ (show q6 ≠ q10 by have := HQ.out; omega)).trans FQR.out, TTR.out.setCell (p := ⟨q10, 1, none⟩) (fun h => absurd h (Nat.not_lt.2 (show w.heap.size ≤ q10 by have := HQ.out; omega))) _, hz1, .inr (.inr ⟨rfl, by go_num, t2, HPN.out, by unfold Gz.perhaps; rw [if_pos HFL.out, HNA.out]⟩)⟩
      · have hB : ((f : Int) / 16 % 2 == 0) = true := by rw [HB16.out, Bool.eq_false_iff.2 hfl]; rfl
        have HFL := hid hfl
        clear hfl
        go_wp2_with fail
        go_roundg 0
        case measure => omega
        case rel => exact ⟨t2, n, ⟨#[]⟩, rfl, FXR.out, FQR.out, TTR.out, HTL.out, .inr (.inr ⟨rfl, by go_num, t2, HPN.out, by unfold Gz.perhaps; rw [if_neg HFL.out]; rfl⟩)⟩
    · have HTA := hid (show Gz.textsAt s t0 f = .ok (x, n, c, t) by unfold Gz.textsAt; rw [HPX.out]; simp only; rw [hpn]; simp only; rw [hpc])
      have hts : t ≤ s.size := HTL.out
      clear hpn hpc hle
      have HPT := hid (show p ≤ t by have := (Gz.texts_in HTA.out HT0.out).1; have := H0.out; omega)
      have j4 : wr.cell? ⟨q10, 4, none⟩ = some (.bool hx) := blk_cell FXR.out 4
      go_upto_if 177 with fail
      clear j4
      go_cut [12] (fun v12 wd => ∃ t3 : Nat, v12 = .int .i64 (t3 : Nat) ∧ Gz.sumAt s p t hx = .ok t3 ∧ t3 ≤ s.size ∧ wd.heap[q10]? = some (.cells #[.string n, .string c, .string x, .bool tx, .bool hx, .int .i64 (tm : Nat), .int .i64 (m8 : Nat), .int .i64 (m9 : Nat), .string ⟨#[]⟩] 45 (0, 0)) ∧ wd.heap[q6]? = some (.cells #[.string ⟨#[]⟩, .string ⟨#[]⟩, .string ⟨#[]⟩, .bool false, .bool false, .int .i64 0, .int .i64 0, .int .i64 0, .string ⟨#[]⟩] 45 (0, 0)) ∧ Touch (fun _ => False) w wd)
      case first =>
        cases hx with
        | false =>
          exact (by have h := HFG.out.2; rw [← HHX.out] at h; cases h)
        | true =>
          by_cases h2 : s.size < t + 2
          · have h2I : (s.size : Int) - (t : Int) < 2 := by omega
            have HSE := hid (show Gz.sumAt s p t true = .error (3, t) by unfold Gz.sumAt; rw [if_pos rfl, if_pos h2])
            exact (HSX.out _ _ _ _ _ _ HE.out (by rw [← H0.out]; exact HTA.out) (by rw [← HHX.out]; exact HSE.out)).elim
          · have h2I : ¬ ((s.size : Int) - (t : Int) < 2) := by omega
            obtain ⟨ta, hta⟩ : ∃ ta, ta = t + 2 := ⟨_, rfl⟩
            have KV := hid (fun w => value_cut s t 2 (by omega) (by decide) w)
            have KS := hid (fun w => rsum_any (s.extract p t) (by rw [ByteArray.size_extract]; omega) w)
            have HSU := hid (show Gz.sumAt s p t true = if Gz.num s t 2 ≠ Gz.sum (s.extract p t) % 65536 then .error (10, t) else .ok (t + 2) by unfold Gz.sumAt; rw [if_pos rfl, if_neg h2])
            rw [← hta] at KV HSU
            have hTa : ta ≤ s.size := by omega
            have i1 : IntKind.i64.wrap ((t : Int) + 2) = (ta : Int) := by rw [IntKind.wrap_i64]; omega
            have hta2 : (t : Int) ≤ (ta : Int) := by omega
            have hta3 : t ≤ ta := by omega
            have hpt : p ≤ t := HPT.out
            have hptI : (p : Int) ≤ (t : Int) := by omega
            have HTAE := hid hta
            have hml := Gz.sum_lt (s.extract p t)
            generalize Gz.num s t 2 = n2 at *
            generalize Gz.sum (s.extract p t) = m at *
            have hmod : (m : Int) % 65536 = ((m % 65536 : Nat) : Int) := by omega
            obtain ⟨m16, hm16⟩ : ∃ m16, m16 = m % 65536 := ⟨_, rfl⟩
            have hmodT : (m : Int).tmod 65536 = (m16 : Int) := by rw [Int.tmod_eq_emod_of_nonneg (by omega), hmod, hm16]
            rw [← hm16] at hmod HSU
            have FXD := hid (show wr.drew.heap[q10]? = some (.cells #[.string n, .string c, .string x, .bool tx, .bool true, .int .i64 (tm : Nat), .int .i64 (m8 : Nat), .int .i64 (m9 : Nat), .string ⟨#[]⟩] 45 (0, 0)) from FXR.out)
            have FQD := hid (show wr.drew.heap[q6]? = some (.cells #[.string ⟨#[]⟩, .string ⟨#[]⟩, .string ⟨#[]⟩, .bool false, .bool false, .int .i64 0, .int .i64 0, .int .i64 0, .string ⟨#[]⟩] 45 (0, 0)) from FQR.out)
            have TTD := hid (TTR.out.drew)
            clear hm16 h2 hta
            by_cases h10 : n2 ≠ m16
            · have HSE := hid (show Gz.sumAt s p t true = .error (10, t) by rw [HSU.out, if_pos h10])
              exact (HSX.out _ _ _ _ _ _ HE.out (by rw [← H0.out]; exact HTA.out) (by rw [← HHX.out]; exact HSE.out)).elim
            · have HSO := hid (show Gz.sumAt s p t true = .ok ta by rw [HSU.out, if_neg h10, HTAE.out])
              have h10I : ((n2 : Int) == (m16 : Int)) = true := by rw [beq_iff_eq]; omega
              have h10J : ((n2 : Int) != (m16 : Int)) = false := by rw [bne_eq_false_iff_eq]; omega
              clear h10
              go_upto_region 37 with fail
              go_region_with (first | (go_at_call 20; refine (KV.out _).mono ?_; rintro e w ⟨rfl, rfl⟩) | (go_at_call 11; refine (KS.out _).mono ?_; rintro e w ⟨rfl, rfl⟩))
              all_goals
                go_wp2_with fail
                go_meet
                case rel => exact ⟨ta, by first | rfl | (congr 1; first | exact i1 | (have := HTAE.out; omega)), HSO.out, hTa, FXD.out, FQD.out, TTD.out⟩
      obtain ⟨t3, rfl, hsum, hle3, hX, hQ6, hT⟩ := hcut
      have HSUM := hid hsum
      have HT3 := hid hle3
      have FX5 := hid hX
      have FQ5 := hid hQ6
      have TT5 := hid hT
      obtain ⟨wF, hw⟩ : ∃ wF, wF = wc := ⟨_, rfl⟩
      rw [← hw] at FX5 FQ5 TT5 ⊢
      clear hw hsum hX hQ6 hT FXR FQR TTR
      have KU := hid (fun w => rUnpack_says s t3 most w (by omega) hle3 hm (.inr (by omega)))
      go_wp2_with fail
      refine (KU.out wF).mono ?_
      rintro e wG ⟨S, NN, C, A, rfl, hsy, tc⟩
      have HSY := hid hsy
      have HIN := hid (Gz.says_in hle3 hsy)
      have HB := hid (HQQ.out _ _ _ _ _ _ _ _ _ _ HE.out (by rw [← H0.out]; exact HTA.out) (by rw [← HHX.out]; exact HSUM.out) hsy)
      have FX6 := hid (tc.still FX5.out)
      have FQ6 := hid (tc.still FQ5.out)
      have TT6 := hid (TT5.out.trans tc (fun _ _ e => e))
      have hSz : S.size ≤ 140737488355328 := by
        have h1 := says_small hsy
        rw [ByteArray.size_extract] at h1
        omega
      clear hsy tc FX5 FQ5 TT5 KU
      by_cases hC : C ≠ 0
      · have hCI : ((C : Int) == 0) = false := by rw [beq_eq_false_iff_ne]; omega
        have hCJ : ((C : Int) != 0) = true := by rw [bne_iff_ne]; omega
        have HC := hid hC
        clear hC
        go_wp2_with (first | refine wpList_load_row rfl 45 _ rfl q10 rfl 45 _ (0, 0) _ FX6.out Tryd.underlying45 rfl info45 ?_ | refine wpList_store_row rfl 45 _ _ rfl q6 _ rfl rfl 45 #[.string ⟨#[]⟩, .string ⟨#[]⟩, .string ⟨#[]⟩, .bool false, .bool false, .int .i64 0, .int .i64 0, .int .i64 0, .string ⟨#[]⟩] FQ6.out info45 (by rfl) (one9 _ _ _ _ _ _ _ _ _) ?_ | fail)
        refine bodyPost_ret (results_cttt rfl _ _ q6 45 _ (0, 0) _ rfl (setRow_heap _ q6 _ _ 45 (0, 0) FQ6.out) Tryd.underlying45 rfl (by kernel_rfl)) rfl ?_
        exact ⟨.error (C, A), (by unfold Gz.partR; rw [HE.out]; simp only; rw [← H0.out, HTA.out]; simp only; rw [← HHX.out, HSUM.out]; exact ⟨_, ⟨S, NN, C, A, HSY.out, HIN.out.1, HIN.out.2, by rw [if_pos HC.out]⟩, rfl⟩), ⟨⟨n, c, x, tx, hx, tm, m8, m9, ⟨#[]⟩⟩, rfl⟩, HC.out, TT6.out.setRow (fun h => absurd h (Nat.not_lt.2 HQ.out.1)) _⟩
      have hC0 : C = 0 := by omega
      subst hC0
      obtain ⟨hN1, hN2⟩ := HIN.out.2 rfl
      have HNN := hid (show t3 ≤ NN ∧ NN ≤ s.size from ⟨hN1, hN2⟩)
      by_cases h8 : s.size < NN + 8
      · have h8I : (s.size : Int) - (NN : Int) < 8 := by omega
        have H8 := hid h8
        clear h8 hC
        go_wp2_with (first | refine wpList_load_row rfl 45 _ rfl q10 rfl 45 _ (0, 0) _ FX6.out Tryd.underlying45 rfl info45 ?_ | refine wpList_store_row rfl 45 _ _ rfl q6 _ rfl rfl 45 #[.string ⟨#[]⟩, .string ⟨#[]⟩, .string ⟨#[]⟩, .bool false, .bool false, .int .i64 0, .int .i64 0, .int .i64 0, .string ⟨#[]⟩] FQ6.out info45 (by rfl) (one9 _ _ _ _ _ _ _ _ _) ?_ | fail)
        refine bodyPost_ret (results_cttt rfl _ _ q6 45 _ (0, 0) _ rfl (setRow_heap _ q6 _ _ 45 (0, 0) FQ6.out) Tryd.underlying45 rfl (by kernel_rfl)) rfl ?_
        exact ⟨.error (3, NN), (by unfold Gz.partR; rw [HE.out]; simp only; rw [← H0.out, HTA.out]; simp only; rw [← HHX.out, HSUM.out]; exact ⟨_, ⟨S, NN, 0, A, HSY.out, HIN.out.1, fun _ => HNN.out, by rw [if_neg (by decide), if_pos H8.out]⟩, rfl⟩), ⟨⟨n, c, x, tx, hx, tm, m8, m9, ⟨#[]⟩⟩, rfl⟩, (by simp), TT6.out.setRow (fun h => absurd h (Nat.not_lt.2 HQ.out.1)) _⟩
      have h8I : ¬ ((s.size : Int) - (NN : Int) < 8) := by omega
      have HB2 := hid (show Gz.num s NN 4 ≠ Gz.sum S from by
        rcases HB.out with h | h | h
        · exact absurd rfl h
        · exact absurd h h8
        · exact h)
      clear HB
      obtain ⟨Na, hNa⟩ : ∃ Na, Na = NN + 4 := ⟨_, rfl⟩
      obtain ⟨Nb, hNb⟩ : ∃ Nb, Nb = NN + 8 := ⟨_, rfl⟩
      have KV1 := hid (fun w => value_cut s NN 4 (by omega) (by decide) w)
      have KV2 := hid (fun w => value_cut s (NN + 4) 4 (by omega) (by decide) w)
      have KS := hid (fun w => rsum_any S hSz w)
      have HPK := hid (show ∀ y, y = (if Gz.num s NN 4 ≠ Gz.sum S then Except.error (10, NN) else if Gz.num s (NN + 4) 4 ≠ S.size then .error (11, NN + 4) else .ok (S, NN + 8)) → Gz.packR s t3 most y from fun y hy => ⟨S, NN, 0, A, HSY.out, HIN.out.1, fun _ => HNN.out, by rw [if_neg (by decide), if_neg h8, hy]⟩)
      rw [show NN + 4 + 4 = NN + 8 by omega] at KV2
      generalize Gz.num s NN 4 = n1 at *
      generalize Gz.num s (NN + 4) 4 = n2 at *
      generalize Gz.sum S = m1 at *
      rw [← hNa] at KV1 KV2 HPK
      rw [← hNb] at KV2 HPK
      have a1 : IntKind.i64.wrap ((NN : Int) + 4) = (Na : Int) := by rw [IntKind.wrap_i64]; omega
      have a2 : IntKind.i64.wrap ((NN : Int) + 8) = (Nb : Int) := by rw [IntKind.wrap_i64]; omega
      have a3 : (NN : Int) + 4 = (Na : Int) := by omega
      have a4 : (NN : Int) + 8 = (Nb : Int) := by omega
      have a5 : NN ≤ Na := by omega
      have a6 : Na ≤ Nb := by omega
      have a7 : Nb ≤ s.size := by omega
      clear hNa hNb h8 hC
      go_wp2_with fail
      refine (KV1.out wG).mono ?_
      rintro e w1 ⟨rfl, rfl⟩
      go_wp2_with fail
      refine (KS.out wG).mono ?_
      rintro e w1 ⟨rfl, rfl⟩
      clear KV1 KS
      by_cases hd1 : n1 ≠ m1
      · have e1 : ((n1 : Int) == (m1 : Int)) = false := by rw [beq_eq_false_iff_ne]; omega
        have e2 : ((n1 : Int) != (m1 : Int)) = true := by rw [bne_iff_ne]; omega
        have HD := hid hd1
        clear hd1
        go_wp2_with (first | refine wpList_load_row rfl 45 _ rfl q10 rfl 45 _ (0, 0) _ FX6.out Tryd.underlying45 rfl info45 ?_ | refine wpList_store_row rfl 45 _ _ rfl q6 _ rfl rfl 45 #[.string ⟨#[]⟩, .string ⟨#[]⟩, .string ⟨#[]⟩, .bool false, .bool false, .int .i64 0, .int .i64 0, .int .i64 0, .string ⟨#[]⟩] FQ6.out info45 (by rfl) (one9 _ _ _ _ _ _ _ _ _) ?_ | fail)
        refine bodyPost_ret (results_cttt rfl _ _ q6 45 _ (0, 0) _ rfl (setRow_heap _ q6 _ _ 45 (0, 0) FQ6.out) Tryd.underlying45 rfl (by kernel_rfl)) rfl ?_
        exact ⟨.error (10, NN), (by unfold Gz.partR; rw [HE.out]; simp only; rw [← H0.out, HTA.out]; simp only; rw [← HHX.out, HSUM.out]; exact ⟨_, HPK.out _ (by rw [if_pos HD.out]), rfl⟩), ⟨⟨n, c, x, tx, hx, tm, m8, m9, ⟨#[]⟩⟩, rfl⟩, (by simp), TT6.out.setRow (fun h => absurd h (Nat.not_lt.2 HQ.out.1)) _⟩
      exact (hd1 HB2.out).elim
end Go.Proofs.YtohcngiiijokkaaDoor
