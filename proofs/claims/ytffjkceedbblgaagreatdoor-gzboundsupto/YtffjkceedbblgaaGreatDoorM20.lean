/- Texts of this proof, one behind the other: what each says stands ahead of it. -/
import Derived.Test.YtffjkceedbblgaaGreatDoorM19
/- Pack without choices; conditions: those told. -/
namespace Go.Proofs.YtffjkceedbblgaaGreatDoor
open Go.RowKit
open Go.Lib

theorem blk_cells8 {w : World} {b : Nat} {a1 a2 a3 a4 a5 a6 a7 a8 : Value} (h : w.heap[b]? = some (.cells #[a1, a2, a3, a4, a5, a6, a7, a8] 77 (0, 0))) (h1 : a1 = .slice none 0 0) (h2 : a2 = .int .i64 0) : G.Wr [a3, a4, a5, a6, a7, a8] 77 w b [] := by
  subst h1 h2
  exact ⟨by decide, .slice none 0 0, h, by simpa [bytesV, Bt.pack_nil] using World.ownsRow_nil _ _ _ _⟩
/-- The bytes of the k-th span of some data. -/
def spanN (data : ByteArray) (ch : List (Nat × Nat)) (k : Nat) : List Nat := Bt.strNats (data.extract (ch.getD k (0, 0)).1 (ch.getD k (0, 0)).2)
set_option maxRecDepth 100000 in
set_option maxHeartbeats 8000000 in
theorem pack_plain (data : ByteArray) (hd : data.size ≤ 1073741824) (ch : List (Nat × Nat)) (hch : chunks true 0 data.size = ch) (w : World) :
    Calls Tryz.prog 15 #[.string data, .slice none 0 0] w fun e w' => e = .returned (.string (strOf (laidTo (spanN data ch) ch.length ch.length))) ∧ Touch (fun _ => False) w w' := by
  have HIN := hid (show ∀ p ∈ ch, p.1 ≤ p.2 ∧ p.2 ≤ data.size ∧ p.2 - p.1 ≤ 65535 from fun p hp => by
    rw [← hch] at hp
    have := chunks_in data.size 0 data.size (by omega) (Nat.zero_le _) rfl p hp
    omega)
  have HLN := hid (show ch.length ≤ 20000 by
    rw [← hch]
    have := chunks_len (s := true) data.size 0 data.size (by omega)
    rw [Nat.sub_zero] at this
    omega)
  have HBL := hid (show blocksL 0 0 0 data.size = ch.map (fun p => ((p.1 : Int), (p.2 : Int), (0 : Int), (0 : Int))) by
    unfold blocksL
    rw [show decide ((0 : Int) = 0) = true from rfl, hch])
  clear hch
  go_enter Tryz.func15, Tryz.ntmps15
  go_wp2_with fail
  refine (newPast_any data 0 w).mono ?_
  rintro e w1 ⟨p1, rfl, t1⟩
  have T1 := hid t1
  clear t1
  go_wp2_with fail
  refine (fixedCodes_any w1).mono ?_
  rintro e w2 ⟨c1, l1, c2, l2, rfl, b1, b2, t2⟩
  have T2 := hid (T1.out.trans t2 (fun _ _ e => e))
  obtain ⟨⟨x1, y1, hx1, _⟩, ⟨x2, y2, hx2, _⟩⟩ := b1
  obtain ⟨⟨x3, y3, hx3, _⟩, ⟨x4, y4, hx4, _⟩⟩ := b2
  subst hx1 hx2 hx3 hx4
  clear t2
  have KP := hid (fun w => planned_nil data.size (by omega) _ HBL.out w)
  have TA := hid ((Touch.refl (fun _ => False) w2).alloc (.cells #[.slice none 0 0, .int .i64 0, .string data, .pointer (some ⟨p1, 0, none⟩), .slice x1 288 y1, .slice x2 288 y2, .slice x3 32 y3, .slice x4 32 y4] 77))
  have FB := hid (show (w2.alloc (.cells #[.slice none 0 0, .int .i64 0, .string data, .pointer (some ⟨p1, 0, none⟩), .slice x1 288 y1, .slice x2 288 y2, .slice x3 32 y3, .slice x4 32 y4] 77)).heap[w2.heap.size]? = some (.cells #[.slice none 0 0, .int .i64 0, .string data, .pointer (some ⟨p1, 0, none⟩), .slice x1 288 y1, .slice x2 288 y2, .slice x3 32 y3, .slice x4 32 y4] 77 (0, 0)) by show (w2.heap.push _)[_]? = _; simp)
  go_wp2_with fail
  generalize (w2.alloc (.cells #[.slice none 0 0, .int .i64 0, .string data, .pointer (some ⟨p1, 0, none⟩), .slice x1 288 y1, .slice x2 288 y2, .slice x3 32 y3, .slice x4 32 y4] 77)) = w3 at *
  obtain ⟨pb, hpb⟩ : ∃ pb, pb = w2.heap.size := ⟨_, rfl⟩
  rw [← hpb] at FB ⊢
  have HPB := hid (show w.heap.size ≤ pb by rw [hpb]; exact T2.out.size)
  clear hpb
  have W3 := hid (blk_cells8 FB.out rfl rfl)
  obtain ⟨rs, hrs⟩ : ∃ rs, rs = [Value.pointer (some ⟨p1, 0, none⟩), .slice x1 288 y1, .slice x2 288 y2, .slice x3 32 y3, .slice x4 32 y4] := ⟨_, rfl⟩
  rw [← hrs] at W3
  have T3 := hid (T2.out.trans TA.out (fun _ _ e => e))
  clear hrs TA T2 T1
  refine (KP.out w3).mono ?_
  rintro e w4 ⟨v4, rfl, ob⟩
  obtain ⟨a4, c4, hv4, hbl, _⟩ := ob.rd
  subst hv4
  have W4 := hid (W3.out.still ob.touch)
  have T4 := hid (T3.out.trans ob.touch (fun _ _ e => e))
  have NOF := hid (show ∀ v c, w4.heap[pb]? = some (.cells ⟨v :: c :: .string data :: rs⟩ 77 (0, 0)) → ∀ i, v.ownBlock ≠ some i from fun v c hv i ho => by
    have h1 := (ob.touch.block pb (lt_of_block FB.out) id).trans FB.out
    rw [hv] at h1
    simp at h1
    rw [h1.1] at ho
    simp [Value.ownBlock] at ho)
  have NOW := hid (show ∀ i, i < w.heap.size → ¬ G.Fp (.string data :: rs) 77 w4 pb i from fun i hi e => by
    rcases e with e | ⟨v, c, hv, ho⟩
    · have := HPB.out
      omega
    · exact NOF.out v c hv i ho)
  have B4 := hid hbl
  obtain ⟨m, hm⟩ : ∃ m, m = ch.length := ⟨_, rfl⟩
  have hml : (ch.map (fun p => ((p.1 : Int), (p.2 : Int), (0 : Int), (0 : Int)))).length = m := by rw [List.length_map, hm]
  have HM := hid hm.symm
  rw [hml]
  have hm20 : m ≤ 20000 := by rw [hm]; exact HLN.out
  clear ob hbl KP W3 T3 hm hml FB
  go_wp2_with fail
  go_loopg [22] m (fun gk v22 wr => ∃ k : Nat, ∃ bs : List Bool, k + gk = m ∧ v22 = .int .i64 (k : Nat) ∧ G.Wr (.string data :: rs) 77 wr pb bs ∧ Bt.pack bs = laidTo (spanN data ch) m k ∧ bs.length = 8 * (laidTo (spanN data ch) m k).length ∧ bs.length ≤ 524320 * k ∧ Bls wr a4 (ch.map (fun p => ((p.1 : Int), (p.2 : Int), (0 : Int), (0 : Int)))) ∧ Touch (fun _ => False) w wr ∧ (∀ i, i < w.heap.size → ¬ G.Fp (.string data :: rs) 77 wr pb i))
  case atStart => exact ⟨0, [], by omega, rfl, W4.out, by rfl, by rfl, by simp, B4.out, T4.out, NOW.out⟩
  case round =>
    obtain ⟨k, bs, hk, rfl, hwr, hpk, hbl, hb20, hls, htc, hfpn⟩ := hrel
    have FPN := hid hfpn
    have WR := hid hwr
    have PK := hid hpk
    have BLN := hid hbl
    have LS := hid hls
    have TC := hid htc
    clear hwr hpk hbl hls htc hfpn
    by_cases hlt : k < m
    · have hkI : (k : Int) < (m : Int) := by omega
      have hkc : k < ch.length := by rw [HM.out]; exact hlt
      obtain ⟨g, ha, hgl, ⟨cs, hcs⟩, hcell⟩ : ∃ b, a4 = some ⟨b, 0, none⟩ ∧ b < wr.heap.size ∧ (∃ cs, wr.heap[b]? = some (.cells cs 83 (0, 0))) ∧ ∀ i (h : i < (ch.map (fun p => ((p.1 : Int), (p.2 : Int), (0 : Int), (0 : Int)))).length), wr.cell? ⟨b, i * 4, none⟩ = some (.int .i64 ((ch.map (fun p => ((p.1 : Int), (p.2 : Int), (0 : Int), (0 : Int))))[i]).1) ∧ wr.cell? ⟨b, i * 4 + 1, none⟩ = some (.int .i64 ((ch.map (fun p => ((p.1 : Int), (p.2 : Int), (0 : Int), (0 : Int))))[i]).2.1) ∧ wr.cell? ⟨b, i * 4 + 2, none⟩ = some (.int .i64 ((ch.map (fun p => ((p.1 : Int), (p.2 : Int), (0 : Int), (0 : Int))))[i]).2.2.1) ∧ wr.cell? ⟨b, i * 4 + 3, none⟩ = some (.int .i64 ((ch.map (fun p => ((p.1 : Int), (p.2 : Int), (0 : Int), (0 : Int))))[i]).2.2.2) := by
        rcases LS.out with h | h
        · have := congrArg List.length h
          rw [List.length_map, List.length_nil] at this
          omega
        · exact h
      subst ha
      obtain ⟨e0, e1, e2, e3⟩ := hcell k (by rw [List.length_map]; exact hkc)
      rw [List.getElem_map] at e0 e1 e2 e3
      obtain ⟨hp1, hp2, hp3⟩ := HIN.out ch[k] (List.getElem_mem _)
      have HSP := hid (show spanN data ch k = Bt.strNats (data.extract (ch[k]).1 (ch[k]).2) by unfold spanN; rw [List.getD_eq_getElem?_getD, List.getElem?_eq_getElem hkc]; rfl)
      have HLS := hid (laidTo_succ (spanN data ch) m k)
      obtain ⟨p, hp⟩ : ∃ p, p = ch[k] := ⟨_, rfl⟩
      rw [← hp] at e0 e1 e2 e3 hp1 hp2 hp3 HSP
      obtain ⟨f, t⟩ := p
      dsimp only at e0 e1 e2 e3 hp1 hp2 hp3 HSP
      clear hcell hp hcs
      have TB := hid ((Touch.refl (fun _ => False) wr).alloc (.cells #[.int .i64 (f : Nat), .int .i64 (t : Nat), .int .i64 0, .int .i64 0] 83))
      have FQ := hid (show (wr.alloc (.cells #[.int .i64 (f : Nat), .int .i64 (t : Nat), .int .i64 0, .int .i64 0] 83)).heap[wr.heap.size]? = some (.cells #[.int .i64 (f : Nat), .int .i64 (t : Nat), .int .i64 0, .int .i64 0] 83 (0, 0)) by show (wr.heap.push _)[_]? = _; simp)
      have ZB := hid (show wr.heap.size < (wr.alloc (.cells #[.int .i64 (f : Nat), .int .i64 (t : Nat), .int .i64 0, .int .i64 0] 83)).heap.size by simp)
      have HFP := hid (show ∀ i, i < w.heap.size → ¬ G.Fp (.string data :: rs) 77 wr pb i from FPN.out)
      go_upto_region 6 with fail
      generalize (wr.alloc (.cells #[.int .i64 (f : Nat), .int .i64 (t : Nat), .int .i64 0, .int .i64 0] 83)) = wB at *
      obtain ⟨q, hq⟩ : ∃ q, q = wr.heap.size := ⟨_, rfl⟩
      rw [← hq] at FQ ZB ⊢
      have HQ := hid (show wr.heap.size ≤ q by omega)
      clear hq
      by_cases hlast : k + 1 = m
      · have hlc : ((k : Int) == (m : Int) - 1) = true := by simp; omega
        have HLO := hid (show lastOf m k = 1 by unfold lastOf; rw [if_pos (by omega)])
        have K1 := hid (G.put_yes (.string data :: rs) 77 pb bs 1 1 wB (WR.out.still TB.out) (by omega) (by decide))
        go_wp2_with fail
        refine K1.out.mono ?_
        rintro e w5 ⟨rfl, st1⟩
        have S1 := hid st1
        have q2 : w5.cell? ⟨q, 2, none⟩ = some (.int .i64 0) := (World.cell?_of_block (st1.apart WR.out TB.out q HQ.out ZB.out)).trans (qblk_cell FQ.out 2 (by simp))
        have K2 := hid (fun (w6 : World) (t : Touch (fun _ => False) w5 w6) => G.put_yes (.string data :: rs) 77 pb (bs ++ (List.range 1).map (ibit 1)) 0 2 w6 (S1.out.wr.still t) (by simp; omega) (by decide))
        clear st1 K1
        go_upto_region 10 with fail
        go_cut [] (fun wd => G.WStep (.string data :: rs) 77 wB wd pb ((bs ++ (List.range 1).map (ibit 1)) ++ (List.range 2).map (ibit 0)))
        case first =>
          first
          | (go_region_held3 (fun w' => w'.cell? ⟨q, 2, none⟩ = some (.int .i64 0))
              (first
               | exact q2
               | exact Q2.out)
              (first
               | (go_at_call 30
                  refine (K2.out _ (by first | exact Touch.refl _ _ | exact (Touch.refl (fun _ => False) w5).drew)).mono ?_
                  rintro e w6 ⟨rfl, st⟩
                  have ST := hid (S1.out.trans (G.WStep.after S1.out.wr (by first | exact Touch.refl _ _ | exact (Touch.refl (fun _ => False) w5).drew) st))
                  have Q2 := hid ((World.cell?_of_block (ST.out.apart WR.out TB.out q HQ.out ZB.out)).trans (qblk_cell FQ.out 2 (by simp)))
                  clear st)))
          | fail
          all_goals go_wp2
          all_goals go_meet
          all_goals exact ST.out
        have S2 := hid hcut
        have hq := hcut.apart WR.out TB.out q HQ.out ZB.out
        have g0 : wc.cell? ⟨q, 0, none⟩ = some (.int .i64 (f : Nat)) := (World.cell?_of_block hq).trans (qblk_cell FQ.out 0 (by simp))
        have g1 : wc.cell? ⟨q, 1, none⟩ = some (.int .i64 (t : Nat)) := (World.cell?_of_block hq).trans (qblk_cell FQ.out 1 (by simp))
        have g2 : wc.cell? ⟨q, 2, none⟩ = some (.int .i64 0) := (World.cell?_of_block hq).trans (qblk_cell FQ.out 2 (by simp))
        have g3 : wc.cell? ⟨q, 3, none⟩ = some (.int .i64 0) := (World.cell?_of_block hq).trans (qblk_cell FQ.out 3 (by simp))
        have K3 := hid (pblock_stored data rs pb _ f t 0 wc hcut.wr hp1 hp2 hp3 (by simp; omega))
        clear hcut hq K2 q2
        go_wp2_with fail
        refine K3.out.mono ?_
        rintro e w7 ⟨rfl, st3⟩
        have S3 := hid (G.WStep.after WR.out TB.out (S2.out.trans st3))
        clear st3 K3 S1 S2
        have PB := hid (pack_block (s := data.extract f t) (l := 1) (by decide) (by rw [ByteArray.size_extract]; omega) PK.out BLN.out)
        go_wp2
        go_roundg (gk - 1)
        case measure => omega
        case rel =>
          refine ⟨k + 1, _, by omega, by go_num, S3.out.wr, ?_, ?_, ?_, LS.out.step WR.out S3.out, (TC.out.trans S3.out.touch (fun i hi e => ?_)), fun i hi e => ?_⟩
          · rw [HLS.out, HLO.out, HSP.out]
            exact PB.out.1
          · rw [HLS.out, HLO.out, HSP.out]
            exact PB.out.2
          · rw [len_st]
            simp only [List.length_append, List.length_map, List.length_range, ByteArray.size_extract]
            omega
          · exact HFP.out i hi e
          · rcases S3.out.fp i e with e | e
            · exact HFP.out i hi e
            · have := TC.out.size
              omega
      · have hlc : ((k : Int) == (m : Int) - 1) = false := by simp; omega
        have HLO := hid (show lastOf m k = 0 by unfold lastOf; rw [if_neg (by omega)])
        have K1 := hid (G.put_yes (.string data :: rs) 77 pb bs 0 1 wB (WR.out.still TB.out) (by omega) (by decide))
        go_wp2_with fail
        refine K1.out.mono ?_
        rintro e w5 ⟨rfl, st1⟩
        have S1 := hid st1
        have q2 : w5.cell? ⟨q, 2, none⟩ = some (.int .i64 0) := (World.cell?_of_block (st1.apart WR.out TB.out q HQ.out ZB.out)).trans (qblk_cell FQ.out 2 (by simp))
        have K2 := hid (fun (w6 : World) (t : Touch (fun _ => False) w5 w6) => G.put_yes (.string data :: rs) 77 pb (bs ++ (List.range 1).map (ibit 0)) 0 2 w6 (S1.out.wr.still t) (by simp; omega) (by decide))
        clear st1 K1
        go_upto_region 10 with fail
        go_cut [] (fun wd => G.WStep (.string data :: rs) 77 wB wd pb ((bs ++ (List.range 1).map (ibit 0)) ++ (List.range 2).map (ibit 0)))
        case first =>
          first
          | (go_region_held3 (fun w' => w'.cell? ⟨q, 2, none⟩ = some (.int .i64 0))
              (first
               | exact q2
               | exact Q2.out)
              (first
               | (go_at_call 30
                  refine (K2.out _ (by first | exact Touch.refl _ _ | exact (Touch.refl (fun _ => False) w5).drew)).mono ?_
                  rintro e w6 ⟨rfl, st⟩
                  have ST := hid (S1.out.trans (G.WStep.after S1.out.wr (by first | exact Touch.refl _ _ | exact (Touch.refl (fun _ => False) w5).drew) st))
                  have Q2 := hid ((World.cell?_of_block (ST.out.apart WR.out TB.out q HQ.out ZB.out)).trans (qblk_cell FQ.out 2 (by simp)))
                  clear st)))
          | fail
          all_goals go_wp2
          all_goals go_meet
          all_goals exact ST.out
        have S2 := hid hcut
        have hq := hcut.apart WR.out TB.out q HQ.out ZB.out
        have g0 : wc.cell? ⟨q, 0, none⟩ = some (.int .i64 (f : Nat)) := (World.cell?_of_block hq).trans (qblk_cell FQ.out 0 (by simp))
        have g1 : wc.cell? ⟨q, 1, none⟩ = some (.int .i64 (t : Nat)) := (World.cell?_of_block hq).trans (qblk_cell FQ.out 1 (by simp))
        have g2 : wc.cell? ⟨q, 2, none⟩ = some (.int .i64 0) := (World.cell?_of_block hq).trans (qblk_cell FQ.out 2 (by simp))
        have g3 : wc.cell? ⟨q, 3, none⟩ = some (.int .i64 0) := (World.cell?_of_block hq).trans (qblk_cell FQ.out 3 (by simp))
        have K3 := hid (pblock_stored data rs pb _ f t 0 wc hcut.wr hp1 hp2 hp3 (by simp; omega))
        clear hcut hq K2 q2
        go_wp2_with fail
        refine K3.out.mono ?_
        rintro e w7 ⟨rfl, st3⟩
        have S3 := hid (G.WStep.after WR.out TB.out (S2.out.trans st3))
        clear st3 K3 S1 S2
        have PB := hid (pack_block (s := data.extract f t) (l := 0) (by decide) (by rw [ByteArray.size_extract]; omega) PK.out BLN.out)
        go_wp2
        go_roundg (gk - 1)
        case measure => omega
        case rel =>
          refine ⟨k + 1, _, by omega, by go_num, S3.out.wr, ?_, ?_, ?_, LS.out.step WR.out S3.out, (TC.out.trans S3.out.touch (fun i hi e => ?_)), fun i hi e => ?_⟩
          · rw [HLS.out, HLO.out, HSP.out]
            exact PB.out.1
          · rw [HLS.out, HLO.out, HSP.out]
            exact PB.out.2
          · rw [len_st]
            simp only [List.length_append, List.length_map, List.length_range, ByteArray.size_extract]
            omega
          · exact HFP.out i hi e
          · rcases S3.out.fp i e with e | e
            · exact HFP.out i hi e
            · have := TC.out.size
              omega
    · obtain rfl : k = m := by omega
      have KA := hid (G.all_any (.string data :: rs) 77 pb bs wr WR.out)
      rw [PK.out] at KA
      go_wp2_with fail
      refine KA.out.mono ?_
      rintro e w9 ⟨rfl, rfl⟩
      clear KA
      go_wp2_with fail
      go_ret
      exact ⟨by rw [HM.out]; rfl, TC.out⟩
end Go.Proofs.YtffjkceedbblgaaGreatDoor

/- What Pack without choices hands back, told plainly. -/
namespace Go.Proofs.YtffjkceedbblgaaGreatDoor
open Go.RowKit
open Go.Lib

theorem laid_len (T : Nat → List Nat) (m : Nat) : ∀ k, (laidTo T m k).length = 5 * k + (wantTo T k).length
  | 0 => rfl
  | k + 1 => by
    rw [laidTo_succ, wantTo_succ, List.length_append, List.length_append, length_blk, laid_len T m k]
    omega
theorem strNats_extract (d : ByteArray) (f t : Nat) (hft : f ≤ t) (ht : t ≤ d.size) : Bt.strNats (d.extract f t) = ((Bt.strNats d).drop f).take (t - f) := by
  refine List.ext_getElem ?_ (fun i h1 h2 => ?_)
  · simp [Bt.strNats, ByteArray.size_extract]
    omega
  · have hi : i < t - f := by simp [Bt.strNats, ByteArray.size_extract] at h1; omega
    rw [List.getElem_take, List.getElem_drop]
    simp only [Bt.strNats, List.getElem_map, List.getElem_range]
    unfold Bt.byteN
    have e1 : (d.extract f t).data = d.data.extract f t := by
      simp [ByteArray.extract, ByteArray.copySlice]
      rw [Nat.add_sub_cancel' hft]
    have hs : d.data.size = d.size := rfl
    rw [e1, Array.getD_eq_getD_getElem?, Array.getD_eq_getD_getElem?, Array.getElem?_extract_of_lt (by omega), Array.getElem?_eq_getElem (by omega)]
/-- The spans' bytes, one behind the other, are the data's. -/
theorem want_from (d : ByteArray) : ∀ (n f : Nat), d.size - f ≤ n → f ≤ d.size → (chunks true f d.size).flatMap (fun p => Bt.strNats (d.extract p.1 p.2)) = (Bt.strNats d).drop f
  | n, f, hn, hf => by
    have hl : (Bt.strNats d).length = d.size := by simp [Bt.strNats]
    by_cases hc : true = true ∧ 65535 < d.size - f
    · rw [chunks_more hc, List.flatMap_cons]
      match n, hn with
      | 0, hn => omega
      | n + 1, hn =>
        rw [want_from d n (f + 65535) (by omega) (by omega), strNats_extract d f (f + 65535) (by omega) (by omega), show f + 65535 - f = 65535 by omega]
        rw [← List.drop_drop, List.take_append_drop]
    · rw [chunks_one hc, List.flatMap_cons, List.flatMap_nil, List.append_nil, strNats_extract d f d.size hf (Nat.le_refl _), List.take_of_length_le (by rw [List.length_drop, hl]; exact Nat.le_refl _)]
theorem want_chunks (d : ByteArray) (ch : List (Nat × Nat)) (hch : chunks true 0 d.size = ch) : wantTo (spanN d ch) ch.length = Bt.strNats d := by
  have h := want_from d d.size 0 (by omega) (Nat.zero_le _)
  rw [hch, List.drop_zero] at h
  rw [← h]
  unfold wantTo spanN
  clear h hch
  rw [List.flatMap_def, List.flatMap_def]
  congr 1
  refine List.ext_getElem (by simp) (fun i h1 h2 => ?_)
  have hi : i < ch.length := by simpa using h2
  simp [List.getD_eq_getElem?_getD, List.getElem?_eq_getElem hi]
theorem chunks_num : ∀ (n f t : Nat), t - f ≤ n → f < t → (chunks true f t).length = (t - f + 65534) / 65535
  | n, f, t, hn, hft => by
    by_cases hc : true = true ∧ 65535 < t - f
    · rw [chunks_more hc, List.length_cons]
      match n, hn with
      | 0, hn => omega
      | n + 1, hn =>
        rw [chunks_num n (f + 65535) t (by omega) (by omega)]
        omega
    · have hlt : ¬ 65535 < t - f := fun k => hc ⟨rfl, k⟩
      rw [chunks_one hc]
      simp
      omega
theorem chunks_size (n : Nat) : (chunks true 0 n).length = max 1 ((n + 65534) / 65535) := by
  rcases Nat.eq_zero_or_pos n with rfl | h
  · rw [chunks_one (by omega)]
    rfl
  · rw [chunks_num n 0 n (by omega) h]
    omega
/-- What Pack without choices hands back, told plainly. -/
theorem plain_bytes (d : ByteArray) (ch : List (Nat × Nat)) (hch : chunks true 0 d.size = ch) : (strOf (laidTo (spanN d ch) ch.length ch.length)).size = d.size + 5 * max 1 ((d.size + 65534) / 65535) ∧ (d.size ≤ 65535 → laidTo (spanN d ch) ch.length ch.length = [1] ++ hdr d.size ++ Bt.strNats d) := by
  have hl : (Bt.strNats d).length = d.size := by simp [Bt.strNats]
  constructor
  · rw [size_strOf, laid_len, want_chunks d ch hch, hl, ← hch, chunks_size]
    omega
  · intro hs
    rw [chunks_one (by omega)] at hch
    subst hch
    rw [show laidTo (spanN d [(0, d.size)]) [(0, d.size)].length [(0, d.size)].length = blk 1 (spanN d [(0, d.size)] 0) by simp [laidTo, lastOf, List.range_succ]]
    have e : spanN d [(0, d.size)] 0 = Bt.strNats d := by
      unfold spanN
      rw [show [(0, d.size)].getD 0 (0, 0) = (0, d.size) from rfl, strNats_extract d 0 d.size (Nat.zero_le _) (Nat.le_refl _), List.drop_zero, Nat.sub_zero, List.take_of_length_le (by omega)]
    rw [e]
    unfold blk hdr
    rw [hl]
    rfl
end Go.Proofs.YtffjkceedbblgaaGreatDoor
