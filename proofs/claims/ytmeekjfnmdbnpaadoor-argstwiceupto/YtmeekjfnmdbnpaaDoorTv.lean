/- The document's Show; condition: the texts fit into memory. -/
import Derived.Test.YtmeekjfnmdbnpaaDoorTy
namespace Go.Proofs.YtmeekjfnmdbnpaaDoor
open Go.RowKit
open Go.Lib

set_option maxRecDepth 100000 in
set_option maxHeartbeats 8000000 in
theorem dshow_any (vs : Array Value) (hv : vs.size = 18) (hr : Rnv (vf vs)) (hwt : wt (shL (vf vs) 18) ≤ 140737488355000) (hsz : ∀ k s, k < 18 → vf vs k = .string s → s.size ≤ 1099511627776) (w : World) :
    Calls Tryd.prog 17 #[.agg vs] w fun e w' => e = .returned (sv (packL (shL (vf vs) 18))) ∧ Touch (fun _ => False) w w' := by
  obtain ⟨i0, hi, hz0, hz1, hz2⟩ := info_parts info9
  have T1 := hid ((Touch.refl (fun _ => False) w).alloc (.cells vs 46))
  have B1 := hid (blk_new (w := w) vs 46)
  have KC := hid (show ∀ W, Touch (fun _ => False) (w.alloc (.cells vs 46)) W → ∀ k, k < 18 → W.cell? ⟨w.heap.size, k, none⟩ = some (vf vs k) from fun W t k hk => by
    have h := (t.block w.heap.size (lt_of_block B1.out) id).trans B1.out
    have h2 : k < vs.size := by omega
    simp [World.cell?, h, vf, h2])
  obtain ⟨V, hV⟩ : ∃ V, V = vf vs := ⟨_, rfl⟩
  rw [← hV] at hr hwt KC hsz ⊢
  have HR := hid hr
  have HWT := hid hwt
  have HSZ := hid hsz
  clear hr hwt hV B1 hsz
  go_enter Tryd.func17, Tryd.ntmps17
  go_wp2_with fail
  generalize w.alloc (.cells vs 46) = w1 at *
  generalize hq1 : w.heap.size = q1 at *
  refine (keysD_any w1).mono ?_
  rintro e w2 ⟨rfl, rfl⟩
  have NK2 := hid (nl_new w1 words)
  have TK := hid ((Touch.refl (fun _ => False) w1).alloc (.cells (words.map sv).toArray 9))
  generalize w1.alloc (.cells (words.map sv).toArray 9) = w2 at *
  generalize w1.heap.size = qk at *
  have T2 := hid (T1.out.trans TK.out (fun _ _ e => e))
  have HW := hid (show w.heap.size ≤ w2.heap.size from T2.out.size)
  clear hq1
  go_wp2_with fail
  go_loopg [4, 5] 18 (fun gk v4 v5 wr => ∃ j : Nat, j + gk = 18 ∧ v5 = .int .i64 (j : Nat) ∧ OwS w2 wr v4 (shL V j) ∧ Touch (fun _ => False) w wr)
  case atStart => exact ⟨0, by omega, rfl, OwS.nil _, T2.out⟩
  case round =>
    obtain ⟨j, hjg, rfl, hown, htw⟩ := hrel
    have HSU := hid (shL_succ V j)
    have hlen := shL_len V j
    obtain ⟨L, hL⟩ : ∃ L, L = shL V j := ⟨_, rfl⟩
    rw [← hL] at hown HSU hlen
    have HL := hid hL
    have OW := hid hown
    have TW := hid htw
    obtain ⟨a3, c3, hv3⟩ := own_shape hown.own
    subst hv3
    clear hown htw hL
    by_cases hj : j < 18
    · have hjI : (j : Int) < 18 := by omega
      obtain ⟨G, rfl⟩ : ∃ G, gk = G + 1 := ⟨gk - 1, by omega⟩
      have hcell := KC.out _ (TK.out.trans OW.out.touch (fun _ _ e => e)) j hj
      obtain ⟨hty, hrg⟩ := HR.out j hj
      have rk := key_cell (NK2.out.new OW.out.touch) j hj
      obtain ⟨T, hT, _, hTd⟩ := name_ba (wordB j)
      have HTB := hid hTd
      rw [hT] at rk
      clear hT hTd
      by_cases hk5 : j < 5
      · have hk5I : (j : Int) < 5 := by omega
        unfold TyK at hty
        rw [if_pos hk5] at hty
        obtain ⟨n, hn⟩ := hty
        obtain ⟨h0, h1⟩ := hrg n hn
        rw [hn] at hcell HSU
        clear hrg hn
        by_cases hn0 : n = 0
        · subst hn0
          have HTD := hid (show tellV (.int .i64 0) = [] from rfl)
          clear h0 h1
          have HS := hid (show shL V (j + 1) = L by rw [HSU.out, HTD.out]; simp)
          go_wp2
          go_roundg G
          case measure => omega
          case rel => exact ⟨j + 1, by omega, by go_num, by rw [HS.out]; exact OW.out, TW.out⟩
        · have hnB : (n == 0) = false := by simpa using hn0
          have hnC : (n != 0) = true := by simp [hn0]
          have KD := hid (decimal_any n h0 h1)
          obtain ⟨TT, hTT, hTTs, hTTd⟩ := name_ba (itoa n)
          have hTl := itoa_len n h0 h1
          have HTD := hid (show tellV (.int .i64 n) = TT.data.toList by show (if n = 0 then [] else itoa n) = _; rw [if_neg hn0, hTTd])
          have hem : TT.toList.isEmpty = false := by
            rw [toList_data, hTTd]
            cases hi2 : itoa n with
            | nil => exact absurd hi2 (itoa_ne n)
            | cons a l => rfl
          have hem2 : ¬ TT.toList = [] := fun e => by rw [e] at hem; exact absurd hem (by decide)
          rw [hTT] at KD
          rw [← hTTs] at hTl
          have HEM := hid (show TT.data.toList.isEmpty = false by rw [← toList_data]; exact hem)
          clear hTT hTTs hTTd h0 h1
          go_wp2_with fail
          refine (KD.out wr).mono ?_
          rintro e wb ⟨rfl, tb⟩
          have OWB := hid (OW.out.still tb)
          have TWB := hid (TW.out.trans tb (fun _ _ e => e))
          have rk : wb.cell? ⟨qk, j, none⟩ = some (.string T) := (tb.cell (p := ⟨qk, j, none⟩) (Lib.lt_of_cell rk) id).trans rk
          clear tb KD OW TW
          go_wp2_with (at_builtin; refine wpList_append_own_at _ rfl _ _ 24 rfl 0 9 i0 (.string ⟨#[]⟩) 1 16 Tryd.underlying24 hi hz0 hz1 hz2 rfl (by decide) _ _ _ rfl (OWB.out.own.alloc _) ⟨wb.heap.size, 0, none⟩ 1 1 [.string T] rfl rfl (row_new wb [.string T] 9) (by intro u hu; simp at hu; subst hu; rfl) (by unfold maxLen; omega) (by omega) (Nat.zero_le _) ?_)
          intro v4 w4 hown hgrow _ hat
          have P4 := hid (OWB.out.more (xs := [T.data.toList]) hown hgrow hat)
          have TW4 := hid ((TWB.out.alloc (.cells #[.string T] 9)).grown hgrow (fun k e hk => by have := OWB.out.new k e; have := HW.out; omega))
          clear hown hgrow hat
          obtain ⟨M, hM⟩ : ∃ M, M = L ++ [T.data.toList] := ⟨_, rfl⟩
          rw [← hM] at P4
          have hMl : M.length ≤ 37 := by rw [hM, List.length_append, List.length_singleton]; omega
          have HM := hid hM
          obtain ⟨a4, c4, hv4⟩ := own_shape P4.out.own
          subst hv4
          clear hM
          go_wp2_with (at_builtin; refine wpList_append_own_at _ rfl _ _ 24 rfl 0 9 i0 (.string ⟨#[]⟩) 1 16 Tryd.underlying24 hi hz0 hz1 hz2 rfl (by decide) _ _ _ rfl (P4.out.own.alloc _) ⟨w4.heap.size, 0, none⟩ 1 1 [.string TT] rfl rfl (row_new w4 [.string TT] 9) (by intro u hu; simp at hu; subst hu; rfl) (by unfold maxLen; omega) (by omega) (Nat.zero_le _) ?_)
          intro v5 w5 hown hgrow _ hat
          have P5 := hid (P4.out.more (xs := [TT.data.toList]) hown hgrow hat)
          have TW5 := hid ((TW4.out.alloc (.cells #[.string TT] 9)).grown hgrow (fun k e hk => by have := P4.out.new k e; have := HW.out; omega))
          clear hown hgrow hat
          have HS := hid (show shL V (j + 1) = M ++ [TT.data.toList] by rw [HSU.out, HTD.out, HM.out, HTB.out]; simp [HEM.out])
          go_wp2
          go_roundg G
          case measure => omega
          case rel => exact ⟨j + 1, by omega, by go_num, by rw [HS.out]; exact P5.out, TW5.out⟩
      · have hk5I : ¬ ((j : Int) < 5) := by omega
        by_cases hk15 : j < 15
        · have hk15I : (j : Int) < 15 := by omega
          obtain ⟨k5, hk5e⟩ : ∃ k5, j = 5 + k5 := ⟨j - 5, by omega⟩
          have hk5J : (j : Int) - 5 = (k5 : Int) := by omega
          have hk5L : (k5 : Int) < 10 := by omega
          unfold TyK at hty
          rw [if_neg hk5, if_pos hk15] at hty
          obtain ⟨x, hn⟩ := hty
          rw [hn] at hcell HSU
          have hcell : wr.cell? ⟨q1, 5 + k5, none⟩ = some (.bool x) := by rw [← hk5e]; exact hcell
          clear hrg hn hk5e
          cases x with
          | false =>
            have HTD := hid (show tellV (.bool false) = [] from rfl)
            have HS := hid (show shL V (j + 1) = L by rw [HSU.out, HTD.out]; simp)
            go_wp2
            go_roundg G
            case measure => omega
            case rel => exact ⟨j + 1, by omega, by go_num, by rw [HS.out]; exact OW.out, TW.out⟩
          | true =>
            have HTD := hid (show tellV (.bool true) = [121, 101, 115] from rfl)
            go_wp2_with (at_builtin; refine wpList_append_own_at _ rfl _ _ 24 rfl 0 9 i0 (.string ⟨#[]⟩) 1 16 Tryd.underlying24 hi hz0 hz1 hz2 rfl (by decide) _ _ _ rfl (OW.out.own.alloc _) ⟨wr.heap.size, 0, none⟩ 1 1 [.string T] rfl rfl (row_new wr [.string T] 9) (by intro u hu; simp at hu; subst hu; rfl) (by unfold maxLen; omega) (by omega) (Nat.zero_le _) ?_)
            intro v4 w4 hown hgrow _ hat
            have P4 := hid (OW.out.more (xs := [T.data.toList]) hown hgrow hat)
            have TW4 := hid ((TW.out.alloc (.cells #[.string T] 9)).grown hgrow (fun k e hk => by have := OW.out.new k e; have := HW.out; omega))
            clear hown hgrow hat
            obtain ⟨M, hM⟩ : ∃ M, M = L ++ [T.data.toList] := ⟨_, rfl⟩
            rw [← hM] at P4
            have hMl : M.length ≤ 37 := by rw [hM, List.length_append, List.length_singleton]; omega
            have HM := hid hM
            obtain ⟨a4, c4, hv4⟩ := own_shape P4.out.own
            subst hv4
            clear hM
            go_wp2_with (at_builtin; refine wpList_append_own_at _ rfl _ _ 24 rfl 0 9 i0 (.string ⟨#[]⟩) 1 16 Tryd.underlying24 hi hz0 hz1 hz2 rfl (by decide) _ _ _ rfl (P4.out.own.alloc _) ⟨w4.heap.size, 0, none⟩ 1 1 [.string ⟨#[121, 101, 115]⟩] rfl rfl (row_new w4 [.string ⟨#[121, 101, 115]⟩] 9) (by intro u hu; simp at hu; subst hu; rfl) (by unfold maxLen; omega) (by omega) (Nat.zero_le _) ?_)
            intro v5 w5 hown hgrow _ hat
            have P5 := hid (P4.out.more (xs := [[121, 101, 115]]) hown hgrow hat)
            have TW5 := hid ((TW4.out.alloc (.cells #[.string ⟨#[121, 101, 115]⟩] 9)).grown hgrow (fun k e hk => by have := P4.out.new k e; have := HW.out; omega))
            clear hown hgrow hat
            have HS := hid (show shL V (j + 1) = M ++ [[121, 101, 115]] by rw [HSU.out, HTD.out, HM.out, HTB.out]; simp)
            go_wp2
            go_roundg G
            case measure => omega
            case rel => exact ⟨j + 1, by omega, by go_num, by rw [HS.out]; exact P5.out, TW5.out⟩
        · have hk15I : ¬ ((j : Int) < 15) := by omega
          obtain ⟨k5, hk5e⟩ : ∃ k5, j = 15 + k5 := ⟨j - 15, by omega⟩
          have hk5J : (j : Int) - 15 = (k5 : Int) := by omega
          have hk5L : (k5 : Int) < 3 := by omega
          unfold TyK at hty
          rw [if_neg hk5, if_neg hk15] at hty
          obtain ⟨TT, hn⟩ := hty
          have hTl := HSZ.out j TT hj hn
          rw [hn] at hcell HSU
          have hcell : wr.cell? ⟨q1, 15 + k5, none⟩ = some (.string TT) := by rw [← hk5e]; exact hcell
          clear hrg hn hk5e
          cases hem : TT.toList.isEmpty with
          | true =>
            have hem2 : TT.toList = [] := List.isEmpty_iff.1 hem
            have HTD := hid (show tellV (.string TT) = [] by show TT.data.toList = []; rw [← toList_data]; exact hem2)
            have HS := hid (show shL V (j + 1) = L by rw [HSU.out, HTD.out]; simp)
            go_wp2
            go_roundg G
            case measure => omega
            case rel => exact ⟨j + 1, by omega, by go_num, by rw [HS.out]; exact OW.out, TW.out⟩
          | false =>
            have hem2 : ¬ TT.toList = [] := fun e => by rw [e] at hem; exact absurd hem (by decide)
            have HEM := hid (show TT.data.toList.isEmpty = false by rw [← toList_data]; exact hem)
            have HTD := hid (show tellV (.string TT) = TT.data.toList from rfl)
            go_wp2_with (at_builtin; refine wpList_append_own_at _ rfl _ _ 24 rfl 0 9 i0 (.string ⟨#[]⟩) 1 16 Tryd.underlying24 hi hz0 hz1 hz2 rfl (by decide) _ _ _ rfl (OW.out.own.alloc _) ⟨wr.heap.size, 0, none⟩ 1 1 [.string T] rfl rfl (row_new wr [.string T] 9) (by intro u hu; simp at hu; subst hu; rfl) (by unfold maxLen; omega) (by omega) (Nat.zero_le _) ?_)
            intro v4 w4 hown hgrow _ hat
            have P4 := hid (OW.out.more (xs := [T.data.toList]) hown hgrow hat)
            have TW4 := hid ((TW.out.alloc (.cells #[.string T] 9)).grown hgrow (fun k e hk => by have := OW.out.new k e; have := HW.out; omega))
            clear hown hgrow hat
            obtain ⟨M, hM⟩ : ∃ M, M = L ++ [T.data.toList] := ⟨_, rfl⟩
            rw [← hM] at P4
            have hMl : M.length ≤ 37 := by rw [hM, List.length_append, List.length_singleton]; omega
            have HM := hid hM
            obtain ⟨a4, c4, hv4⟩ := own_shape P4.out.own
            subst hv4
            clear hM
            go_wp2_with (at_builtin; refine wpList_append_own_at _ rfl _ _ 24 rfl 0 9 i0 (.string ⟨#[]⟩) 1 16 Tryd.underlying24 hi hz0 hz1 hz2 rfl (by decide) _ _ _ rfl (P4.out.own.alloc _) ⟨w4.heap.size, 0, none⟩ 1 1 [.string TT] rfl rfl (row_new w4 [.string TT] 9) (by intro u hu; simp at hu; subst hu; rfl) (by unfold maxLen; omega) (by omega) (Nat.zero_le _) ?_)
            intro v5 w5 hown hgrow _ hat
            have P5 := hid (P4.out.more (xs := [TT.data.toList]) hown hgrow hat)
            have TW5 := hid ((TW4.out.alloc (.cells #[.string TT] 9)).grown hgrow (fun k e hk => by have := P4.out.new k e; have := HW.out; omega))
            clear hown hgrow hat
            have HS := hid (show shL V (j + 1) = M ++ [TT.data.toList] by rw [HSU.out, HTD.out, HM.out, HTB.out]; simp [HEM.out])
            go_wp2
            go_roundg G
            case measure => omega
            case rel => exact ⟨j + 1, by omega, by go_num, by rw [HS.out]; exact P5.out, TW5.out⟩
    · obtain rfl : j = 18 := by omega
      have HWL := hid (show wt L ≤ 140737488355000 by rw [HL.out]; exact HWT.out)
      have KP := hid (rpack_any _ L wr OW.out.nl HWL.out)
      obtain ⟨X, hX, _, _⟩ := name_ba (packL L)
      rw [hX] at KP
      rw [HL.out] at hX
      go_wp2_with fail
      refine KP.out.mono ?_
      rintro e w5 ⟨rfl, t5⟩
      have T5 := hid (TW.out.trans t5 (fun _ _ e => e))
      clear t5 KP OW TW
      go_wp2
      go_ret
      exact ⟨by rw [hX]; rfl, T5.out⟩
end Go.Proofs.YtmeekjfnmdbnpaaDoor
