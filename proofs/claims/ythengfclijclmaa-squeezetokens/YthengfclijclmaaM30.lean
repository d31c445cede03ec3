/- Texts of this proof, one behind the other: what each says stands ahead of it. -/
import Derived.Test.YthengfclijclmaaM29
/- The walk of SqueezeTokens; conditions: those told. -/
namespace Go.Proofs.Ythengfclijclmaa
open Go.RowKit
open Go.Lib

theorem tks_len (d : ByteArray) (f t R : Nat) : ∀ (g p : Nat), (tks d f t R g p).length ≤ t - p
  | 0, p => by simp [tks]
  | g + 1, p => by
    unfold tks
    by_cases hp : p < t
    · rw [if_pos hp]
      have hle := fnd_le d f p t R
      split
      · have := tks_len d f t R g (p + 1)
        rw [List.length_cons]
        omega
      · have := tks_len d f t R g (p + (fnd d f p t R).1)
        rw [List.length_cons]
        omega
    · rw [if_neg hp]
      simp
theorem OwM.new {W0 w : World} {v : Value} {s : List Value} (h : OwM W0 w v s) : ∀ g, v.ownBlock = some g → W0.heap.size ≤ g ∧ g < w.heap.size := by
  obtain ⟨g, cap, cur, fr, rfl, h1, h2, h3⟩ := h
  intro g' e
  simp [Value.ownBlock] at e
  subst e
  exact ⟨h1, lt_of_block h2⟩
theorem OwM.still {W0 w w' : World} {v : Value} {s : List Value} (h : OwM W0 w v s) (t : Touch (fun _ => False) w w') : OwM W0 w' v s := h.kept (fun g hg => t.block g (h.new g hg).2 id)
theorem OwM.shape {W0 w : World} {v : Value} {s : List Value} (h : OwM W0 w v s) : ∃ g cap, v = .slice (some ⟨g, 0, none⟩) s.length cap := by
  obtain ⟨g, cap, cur, fr, rfl, _⟩ := h
  exact ⟨g, cap, rfl⟩
theorem conv_M {W0 w : World} {v : Value} {d : ByteArray} {t : Nat} (h : OwM W0 w v (dV d t)) (ht : t ≤ d.size) : (convert 25 9 v).run Try.prog w = .ok (.string (d.extract 0 t)) w := by
  obtain ⟨g, cap, rfl⟩ := h.shape
  rw [dV_len]
  have hl : (d.extract 0 t).data.toList.length = t := by
    have h1 : (d.extract 0 t).size = min t d.size - 0 := ByteArray.size_extract
    have h2 : (d.extract 0 t).data.toList.length = (d.extract 0 t).size := rfl
    omega
  have hc : ∀ j (hj : j < (d.extract 0 t).data.toList.length), w.cell? ((⟨g, 0, none⟩ : Addr).add j) = some (.int .u8 (((d.extract 0 t).data.toList[j]).toNat : Int)) := by
    intro j hj
    refine h.cells rfl j _ ?_
    rw [← dV_conv d t ht, List.getElem?_map, List.getElem?_eq_getElem hj]
    rfl
  have hcv := run_convert_bytes_back (P := Try.prog) w 25 9 5 ⟨g, 0, none⟩ cap _ Try.underlying25 Try.underlying5 Try.underlying9 hc
  rw [hl] at hcv
  rw [hcv]
set_option maxRecDepth 100000 in
set_option maxHeartbeats 8000000 in
theorem squeezeTokens_walk (d : ByteArray) (a b r : Int) (w : World) : Calls Try.prog 5 #[.string d, .agg #[.int .i64 a, .int .i64 b], .int .i64 r] w fun e w' => e = .returned (.bool true) ∧ Touch (fun _ => False) w w' := by
  have TA := hid ((Touch.refl (fun _ => False) w).alloc (.cells #[.int .i64 a, .int .i64 b] 29))
  have FB := hid (show (w.alloc (.cells #[.int .i64 a, .int .i64 b] 29)).heap[w.heap.size]? = some (.cells #[.int .i64 a, .int .i64 b] 29 (0, 0)) by show (w.heap.push _)[_]? = _; simp)
  go_enter Try.func5, Try.ntmps5
  go_upto_region 1 with fail
  generalize (w.alloc (.cells #[.int .i64 a, .int .i64 b] 29)) = w1 at *
  obtain ⟨q, hq⟩ : ∃ q, q = w.heap.size := ⟨_, rfl⟩
  rw [← hq] at FB ⊢
  clear hq
  go_wp2_with fail
  refine (speaks4_yes w1).mono ?_
  rintro e w2 ⟨rfl, t2⟩
  have FB2 := hid ((t2.block q (lt_of_block FB.out) id).trans FB.out)
  have T2 := hid (TA.out.trans t2 (fun _ _ e => e))
  have c0 : w2.cell? ⟨q, 0, none⟩ = some (.int .i64 a) := blk_cell FB2.out 0 (by simp)
  have c1 : w2.cell? ⟨q, 1, none⟩ = some (.int .i64 b) := blk_cell FB2.out 1 (by simp)
  clear t2 TA FB
  by_cases hbig : 20000 < d.size
  · have hbI : (20000 : Int) < (d.size : Int) := by omega
    go_wp2
    go_ret
    exact ⟨rfl, T2.out⟩
  · have hbI : (d.size : Int) ≤ 20000 := by omega
    by_cases hbad : a < 0 ∨ b < a ∨ (d.size : Int) < b
    · have K1 := hid (tok10_nil d a b r w2 hbad)
      have K2 := hid (rtok_nil d a b r w2 hbad)
      go_wp2_with fail
      refine K1.out.mono ?_
      rintro e w3 ⟨rfl, rfl⟩
      go_wp2_with fail
      refine K2.out.mono ?_
      rintro e w3 ⟨rfl, rfl⟩
      clear K1 K2
      by_cases h1 : a < 0
      · clear hbad
        go_wp2
        go_ret
        exact ⟨rfl, T2.out⟩
      · by_cases h2 : b < a
        · clear hbad
          go_wp2
          go_ret
          exact ⟨rfl, T2.out⟩
        · have h3 : (d.size : Int) < b := by omega
          clear hbad
          go_wp2
          go_ret
          exact ⟨rfl, T2.out⟩
    · obtain ⟨f, rfl⟩ : ∃ f : Nat, a = (f : Int) := ⟨a.toNat, by omega⟩
      obtain ⟨t, rfl⟩ : ∃ t : Nat, b = (t : Int) := ⟨b.toNat, by omega⟩
      have hft : f ≤ t := by omega
      have ht : t ≤ d.size := by omega
      have hd : d.size ≤ 20000 := by omega
      clear hbad hbig
      obtain ⟨R, hR⟩ : ∃ R : Nat, cnted r = (R : Int) := ⟨(cnted r).toNat, by have := cnted_in r; omega⟩
      obtain ⟨F, hF⟩ : ∃ F, F = f - R := ⟨_, rfl⟩
      have K1 := hid (tokens10_any d f t r R F w2 hft ht (by omega) hR hF)
      have K2 := hid (fun w => rtok_any d f t r R F w hft ht (by omega) hR hF)
      have HF := hid hF
      obtain ⟨l, hl⟩ : ∃ l, l = tks d F t R (t - f) f := ⟨_, rfl⟩
      rw [← hl] at K1 K2
      have HL := hid hl
      have hlb : l.length ≤ 20000 := by have := tks_len d F t R (t - f) f; rw [hl]; omega
      clear hl hR hF
      go_wp2_with fail
      refine K1.out.mono ?_
      rintro e w3 ⟨v, rfl, tk⟩
      obtain ⟨a7, c7, hv, tl⟩ := own_tls tk.toks.own
      subst hv
      have TL3 := hid tl
      have T3 := hid (T2.out.trans tk.touch (fun _ _ e => e))
      have FB3 := hid ((tk.touch.block q (lt_of_block FB2.out) id).trans FB2.out)
      clear tk tl c0 c1 K1 FB2 T2
      have c0 : w3.cell? ⟨q, 0, none⟩ = some (.int .i64 (f : Nat)) := blk_cell FB3.out 0 (by simp)
      have c1 : w3.cell? ⟨q, 1, none⟩ = some (.int .i64 (t : Nat)) := blk_cell FB3.out 1 (by simp)
      go_wp2_with fail
      refine (K2.out w3).mono ?_
      rintro e w4 ⟨v, rfl, od, t4⟩
      obtain ⟨a8, c8, hv, dl⟩ := own_tls od.own
      subst hv
      have DL4 := hid dl
      have TL4 := hid (TL3.out.keep t4)
      have T4 := hid (T3.out.trans t4 (fun _ _ e => e))
      have FB4 := hid ((t4.block q (lt_of_block FB3.out) id).trans FB3.out)
      clear od dl c0 c1 K2 FB3 T3 TL3 t4
      have c0 : w4.cell? ⟨q, 0, none⟩ = some (.int .i64 (f : Nat)) := blk_cell FB4.out 0 (by simp)
      have c1 : w4.cell? ⟨q, 1, none⟩ = some (.int .i64 (t : Nat)) := blk_cell FB4.out 1 (by simp)
      obtain ⟨v9, w5, hcv, ho, t5⟩ := own_conv w4 (d.extract 0 f) (by have : (d.extract 0 f).size = min f d.size - 0 := ByteArray.size_extract; omega)
      rw [dV_conv d f (by omega)] at ho
      have O5 := hid ho
      have T5 := hid t5
      clear ho t5
      have hf0 : (0 : Int) ≤ (f : Int) := by omega
      have hftI : (f : Int) ≤ (t : Int) := by omega
      have htI : (t : Int) ≤ (d.size : Int) := by omega
      have hfdI : (f : Int) ≤ (d.size : Int) := by omega
      have hdf : decide ((f : Int) < 0) = false := decide_eq_false (by omega)
      have hdt : decide ((t : Int) < (f : Int)) = false := decide_eq_false (by omega)
      have hds : decide ((d.size : Int) < (t : Int)) = false := decide_eq_false (by omega)
      have hdtN : decide (t < f) = false := decide_eq_false (by omega)
      have hdsN : decide (d.size < t) = false := decide_eq_false (by omega)
      have hdb : decide ((20000 : Int) < (d.size : Int)) = false := decide_eq_false (by omega)
      go_wp2_with fail
      clear hdf hdt hds hdtN hdsN hdb
      go_loopg [9, 10] l.length (fun gk v9 v10 wq => ∃ (k p g : Nat) (pre : List T3), v10 = .int .i64 (k : Nat) ∧ k + gk = l.length ∧ pre.length = k ∧ pre ++ tks d F t R g p = l ∧ f ≤ p ∧ p ≤ t ∧ t - p ≤ g ∧ OwM w4 wq v9 (dV d p) ∧ Touch (fun _ => False) w4 wq)
      case atStart => exact ⟨0, f, t - f, [], rfl, by omega, rfl, by rw [HL.out]; rfl, Nat.le_refl _, hft, Nat.le_refl _, O5.out, T5.out⟩
      case round =>
        obtain ⟨k, p, g, pre, rfl, hkl, hpre, heq, hfp, hpt, hpg, hom, htc⟩ := hrel
        have EQ := hid heq
        have OM := hid hom
        have TC := hid htc
        have FQ := hid ((htc.block q (lt_of_block FB4.out) id).trans FB4.out)
        clear heq hom htc hcv c0 c1
        by_cases hlt : k < l.length
        · have hltI : (k : Int) < (l.length : Int) := by omega
          have hkb : (k : Int) ≤ 20000 := by omega
          obtain ⟨g', hpp, hgg⟩ : ∃ g', p < t ∧ g = g' + 1 := by
            have hl2 : pre.length + (tks d F t R g p).length = l.length := by rw [← List.length_append, EQ.out]
            cases g with
            | zero => simp [tks] at hl2; omega
            | succ g' =>
              by_cases hp : p < t
              · exact ⟨g', hp, rfl⟩
              · rw [tks, if_neg hp] at hl2; simp at hl2; omega
          subst hgg
          obtain ⟨b7, h7, hb7, hc7⟩ : ∃ b, a7 = some ⟨b, 0, none⟩ ∧ b < w4.heap.size ∧ ∀ i (h : i < l.length), w4.cell? ⟨b, i * 3, none⟩ = some (.int .u8 (l[i]).1) ∧ w4.cell? ⟨b, i * 3 + 1, none⟩ = some (.int .i64 (l[i]).2.1) ∧ w4.cell? ⟨b, i * 3 + 2, none⟩ = some (.int .i64 (l[i]).2.2) := by
            rcases TL4.out with h | h
            · rw [h] at hlt; simp at hlt
            · exact h
          subst h7
          obtain ⟨b8, h8, hb8, hc8⟩ : ∃ b, a8 = some ⟨b, 0, none⟩ ∧ b < w4.heap.size ∧ ∀ i (h : i < l.length), w4.cell? ⟨b, i * 3, none⟩ = some (.int .u8 (l[i]).1) ∧ w4.cell? ⟨b, i * 3 + 1, none⟩ = some (.int .i64 (l[i]).2.1) ∧ w4.cell? ⟨b, i * 3 + 2, none⟩ = some (.int .i64 (l[i]).2.2) := by
            rcases DL4.out with h | h
            · rw [h] at hlt; simp at hlt
            · exact h
          subst h8
          obtain ⟨E0, E1, E2⟩ := hc7 k hlt
          obtain ⟨D0, D1, D2⟩ := hc8 k hlt
          obtain ⟨gk', rfl⟩ : ∃ j, gk = j + 1 := ⟨gk - 1, by omega⟩
          have LK : ∀ x rest, tks d F t R (g' + 1) p = x :: rest → l[k] = x := by
            intro x rest h
            have : l[k]? = some x := by rw [← EQ.out, h, List.getElem?_append_right (by omega), hpre, Nat.sub_self]; rfl
            rw [List.getElem?_eq_getElem hlt] at this
            simpa using this
          clear hc7 hc8
          by_cases hsh : (fnd d F p t R).1 < 3
          · have ST := hid (show tks d F t R (g' + 1) p = ((Bt.byteN d p : Int), 0, 0) :: tks d F t R g' (p + 1) by rw [tks, if_pos hpp, if_pos hsh])
            rw [LK _ _ ST.out] at E0 E1 E2 D0 D1 D2
            dsimp only at E0 E1 E2 D0 D1 D2
            have DS := hid (dV_succ d p)
            generalize Bt.byteN d p = u at *
            clear LK hsh
            have e0 := (TC.out.cell (p := ⟨b7, k * 3, none⟩) hb7 id).trans E0
            have e1 := (TC.out.cell (p := ⟨b7, k * 3 + 1, none⟩) hb7 id).trans E1
            have e2 := (TC.out.cell (p := ⟨b7, k * 3 + 2, none⟩) hb7 id).trans E2
            have d0 := (TC.out.cell (p := ⟨b8, k * 3, none⟩) hb8 id).trans D0
            have d1 := (TC.out.cell (p := ⟨b8, k * 3 + 1, none⟩) hb8 id).trans D1
            have d2 := (TC.out.cell (p := ⟨b8, k * 3 + 2, none⟩) hb8 id).trans D2
            go_upto_region 15 with fail
            go_cut [75] (fun v wd => v = .bool false ∧ Touch (fun _ => False) wr wd)
            case first =>
              go_quiet (fail)
              go_wp2
              go_meet
              case rel => exact ⟨by first | rfl | simp, (Touch.refl _ _).drewN _⟩
            obtain ⟨rfl, tD⟩ := hcut
            have TW := hid (TC.out.trans tD (fun _ _ e => e))
            have OW := hid (OM.out.still tD)
            clear e0 e1 e2 d0 d1 d2 tD
            have e0 := (TW.out.cell (p := ⟨b7, k * 3, none⟩) hb7 id).trans E0
            have e1 := (TW.out.cell (p := ⟨b7, k * 3 + 1, none⟩) hb7 id).trans E1
            have e2 := (TW.out.cell (p := ⟨b7, k * 3 + 2, none⟩) hb7 id).trans E2
            have O2 := hid (OW.out.still ((Touch.refl (fun _ => False) wc).alloc (.cells #[.int .u8 (u : Nat)] 5)))
            go_wp2_with (at_builtin; refine wpList_append_M rfl _ _ rfl _ _ rfl O2.out ⟨wc.heap.size, 0, none⟩ _ (.int .u8 (u : Nat)) rfl rfl (cell_one_new _ _ _) (by rw [dV_len]; omega) (Nat.le_trans TW.out.size (by simp)) ?_)
            intro v6 w6 hm6 hg6
            have T6 := hid ((TW.out.alloc (.cells #[.int .u8 (u : Nat)] 5)).grown hg6 (fun k hk hlt => by have := (O2.out.new k hk).1; omega))
            rw [← DS.out] at hm6
            have O6 := hid hm6
            obtain ⟨g6, cap6, hv6⟩ := hm6.shape
            rw [dV_len] at hv6
            subst hv6
            clear hm6 hg6 e0 e1 e2 O2
            go_wp2_with fail
            go_loopg [9, 11] 0 (fun gj v9 v11 wq => v11 = .int .i64 0 ∧ gj = 0 ∧ OwM w4 wq v9 (dV d (p + 1)) ∧ Touch (fun _ => False) w4 wq)
            case atStart => exact ⟨rfl, rfl, O6.out, T6.out⟩
            case round =>
              obtain ⟨rfl, rfl, hom7, htc7⟩ := hrel
              have O7 := hid hom7
              have T7 := hid htc7
              clear hom7 htc7
              have e0 := (T7.out.cell (p := ⟨b7, k * 3, none⟩) hb7 id).trans E0
              have e1 := (T7.out.cell (p := ⟨b7, k * 3 + 1, none⟩) hb7 id).trans E1
              have e2 := (T7.out.cell (p := ⟨b7, k * 3 + 2, none⟩) hb7 id).trans E2
              go_wp2
              go_roundg gk'
              case measure => omega
              case rel => exact ⟨k + 1, p + 1, g', pre ++ [((u : Int), 0, 0)], by go_num, by omega, by simp [hpre], by rw [← EQ.out, ST.out, List.append_assoc]; rfl, by omega, by omega, by omega, O7.out, T7.out⟩
          · have FBK := hid (fnd_back d F p t R (by have := HF.out; omega) hsh)
            have ST := hid (show tks d F t R (g' + 1) p = (0, ((fnd d F p t R).1 : Int), ((fnd d F p t R).2 : Int)) :: tks d F t R g' (p + (fnd d F p t R).1) by rw [tks, if_pos hpp, if_neg hsh])
            rw [LK _ _ ST.out] at E0 E1 E2 D0 D1 D2
            dsimp only at E0 E1 E2 D0 D1 D2
            generalize (fnd d F p t R).1 = fl at *
            generalize (fnd d F p t R).2 = fd at *
            have hfl3 : 3 ≤ fl := by omega
            have hnz : ((fl : Int) == 0) = false := by simp; omega
            obtain ⟨hfd1, hfdp, hflt, _⟩ := FBK.out
            clear LK hsh
            have e0 := (TC.out.cell (p := ⟨b7, k * 3, none⟩) hb7 id).trans E0
            have e1 := (TC.out.cell (p := ⟨b7, k * 3 + 1, none⟩) hb7 id).trans E1
            have e2 := (TC.out.cell (p := ⟨b7, k * 3 + 2, none⟩) hb7 id).trans E2
            have d0 := (TC.out.cell (p := ⟨b8, k * 3, none⟩) hb8 id).trans D0
            have d1 := (TC.out.cell (p := ⟨b8, k * 3 + 1, none⟩) hb8 id).trans D1
            have d2 := (TC.out.cell (p := ⟨b8, k * 3 + 2, none⟩) hb8 id).trans D2
            go_upto_region 15 with fail
            go_cut [75] (fun v wd => v = .bool false ∧ Touch (fun _ => False) wr wd)
            case first =>
              go_quiet (fail)
              go_wp2
              go_meet
              case rel => exact ⟨by first | rfl | simp, (Touch.refl _ _).drewN _⟩
            obtain ⟨rfl, tD⟩ := hcut
            have TW := hid (TC.out.trans tD (fun _ _ e => e))
            have OW := hid (OM.out.still tD)
            clear e0 e1 e2 d0 d1 d2 tD
            have e0 := (TW.out.cell (p := ⟨b7, k * 3, none⟩) hb7 id).trans E0
            have e1 := (TW.out.cell (p := ⟨b7, k * 3 + 1, none⟩) hb7 id).trans E1
            have e2 := (TW.out.cell (p := ⟨b7, k * 3 + 2, none⟩) hb7 id).trans E2
            go_wp2_with fail
            go_loopg [9, 11] fl (fun gj v9 v11 wq => ∃ j : Nat, v11 = .int .i64 (j : Nat) ∧ j + gj = fl ∧ OwM w4 wq v9 (dV d (p + j)) ∧ Touch (fun _ => False) w4 wq)
            case atStart => exact ⟨0, rfl, by omega, OW.out, TW.out⟩
            case round =>
              obtain ⟨j, rfl, hjf, hom7, htc7⟩ := hrel
              have O7 := hid hom7
              have T7 := hid htc7
              obtain ⟨g7, cap7, hv7⟩ := hom7.shape
              rw [dV_len] at hv7
              subst hv7
              clear hom7 htc7 e0 e1 e2
              have e0 := (T7.out.cell (p := ⟨b7, k * 3, none⟩) hb7 id).trans E0
              have e1 := (T7.out.cell (p := ⟨b7, k * 3 + 1, none⟩) hb7 id).trans E1
              have e2 := (T7.out.cell (p := ⟨b7, k * 3 + 2, none⟩) hb7 id).trans E2
              by_cases hj : j < fl
              · have hjI : (j : Int) < (fl : Int) := by omega
                obtain ⟨i, hi⟩ : ∃ i : Nat, i = p + j - fd := ⟨_, rfl⟩
                have hby := FBK.out.2.2.2 j hj
                rw [← hi] at hby
                have ci := O7.out.cells (g := g7) rfl i _ (dV_at d (p + j) i (by omega))
                rw [add_zero, hby] at ci
                have DS := hid (dV_succ d (p + j))
                have hw : IntKind.i64.wrap (((p + j : Nat) : Int) - (fd : Int)) = (i : Int) := by rw [IntKind.wrap_i64]; omega
                have hiI : (i : Int) < ((p + j : Nat) : Int) := by omega
                obtain ⟨n7, hn7⟩ : ∃ n7, n7 = p + j := ⟨_, rfl⟩
                rw [← hn7] at O7 ci DS hw hiI ⊢
                obtain ⟨gj, rfl⟩ : ∃ x, gk = x + 1 := ⟨gk - 1, by omega⟩
                generalize Bt.byteN d n7 = u at *
                have hn7b : n7 ≤ 20000 := by omega
                have HN7 := hid hn7
                clear hi hby hn7
                generalize wr = wi at *
                have O2 := hid (O7.out.still ((Touch.refl (fun _ => False) wi).alloc (.cells #[.int .u8 (u : Nat)] 5)))
                go_wp2_with (at_builtin; refine wpList_append_M rfl _ _ rfl _ _ rfl O2.out ⟨wi.heap.size, 0, none⟩ _ (.int .u8 (u : Nat)) rfl rfl (cell_one_new _ _ _) (by rw [dV_len]; omega) (Nat.le_trans T7.out.size (by simp)) ?_)
                intro v6 w6 hm6 hg6
                have T6 := hid ((T7.out.alloc (.cells #[.int .u8 (u : Nat)] 5)).grown hg6 (fun k hk hlt => by have := (O2.out.new k hk).1; omega))
                rw [← DS.out, HN7.out] at hm6
                have O6 := hid hm6
                clear hm6 hg6
                go_wp2
                go_roundg gj
                case measure => omega
                case rel => exact ⟨j + 1, by go_num, by omega, O6.out, T6.out⟩
              · obtain rfl : j = fl := by omega
                have hjI : ¬ ((j : Int) < (j : Int)) := by omega
                go_wp2
                go_roundg gk'
                case measure => omega
                case rel => exact ⟨k + 1, p + j, g', pre ++ [(0, (j : Int), (fd : Int))], by go_num, by omega, by simp [hpre], by rw [← EQ.out, ST.out, List.append_assoc]; rfl, by omega, by omega, by omega, O7.out, T7.out⟩
        · have hltI : ¬ ((k : Int) < (l.length : Int)) := by omega
          have hpt2 : p = t := by
            have hl2 : pre.length + (tks d F t R g p).length = l.length := by rw [← List.length_append, EQ.out]
            cases g with
            | zero => omega
            | succ g' =>
              by_cases hp : p < t
              · rw [tks, if_pos hp] at hl2
                split at hl2 <;> simp at hl2 <;> omega
              · omega
          rw [hpt2] at OM
          obtain ⟨g9, cap9, hv9⟩ := OM.out.shape
          rw [dV_len] at hv9
          subst hv9
          have hcv := conv_M OM.out ht
          have CQ := hid (show ∀ w', Touch (fun _ => False) wr w' → w'.cell? ⟨q, 1, none⟩ = some (.int .i64 (t : Nat)) ∧ (convert 25 9 (.slice (some ⟨g9, 0, none⟩) t cap9)).run Try.prog w' = .ok (.string (d.extract 0 t)) w' from fun w' h => ⟨blk_cell ((h.block q (lt_of_block FQ.out) id).trans FQ.out) 1 (by simp), conv_M (OM.out.still h) ht⟩)
          have c1 : wr.cell? ⟨q, 1, none⟩ = some (.int .i64 (t : Nat)) := blk_cell FQ.out 1 (by simp)
          go_upto_region 23 with fail
          first
          | (go_region_held (fun w' => w'.cell? ⟨q, 1, none⟩ = some (.int .i64 (t : Nat)) ∧ (convert 25 9 (.slice (some ⟨g9, 0, none⟩) t cap9)).run Try.prog w' = .ok (.string (d.extract 0 t)) w')
              (first
               | exact ⟨c1, hcv⟩
               | exact CQ.out _ ((Touch.refl (fun _ => False) wr).drewN _)
               | exact CQ.out _ ((Touch.refl (fun _ => False) wr).drew))
              (fail))
          | fail
          all_goals go_wp2
          all_goals go_ret
          all_goals exact ⟨by first | rfl | simp, ((T4.out.trans TC.out (fun _ _ e => e))).drewN _⟩
end Go.Proofs.Ythengfclijclmaa
