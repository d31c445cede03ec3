/- Texts of this proof, one behind the other: what each says stands ahead of it. -/
import Derived.Test.YthengfclijclmaaM27
/- The document's Tokens; conditions: those told. -/
namespace Go.Proofs.Ythengfclijclmaa
open Go.RowKit
open Go.Lib

theorem info33 : (Try.prog.info? 33).map (fun i => (i.zero, i.size, i.bytes)) = some (some (.agg #[.int .u8 0, .int .i64 0, .int .i64 0]), 3, 24) := by kernel_rfl
/-- The document's own list of tokens. -/
structure OwD (W0 wr : World) (v : Value) (l : List T3) : Prop where
  own : wr.ownsRow 0 33 3 v l.length (flatT l)
  new : ∀ g, v.ownBlock = some g → W0.heap.size ≤ g
theorem OwD.nil (w w' : World) : OwD w w' (.slice none 0 0) [] := ⟨by simpa [flatT] using World.ownsRow_nil _ _ _ _, by intro g h; simp [Value.ownBlock] at h⟩
theorem OwD.still {W0 w w' : World} {v : Value} {l : List T3} (h : OwD W0 w v l) (t : Touch (fun _ => False) w w') : OwD W0 w' v l :=
  ⟨own_kept h.own (fun g hg => t.block g (h.own.lt g hg).2 id), h.new⟩
theorem OwD.app {W0 w w1 : World} {v v' : Value} {l : List T3} {x : T3} (h : OwD W0 w v l) (H : Nat) (h0 : W0.heap.size ≤ H) (hown : w1.ownsRow 0 33 3 v' (l.length + 1) (flatT l ++ flatT [x])) (hat : v'.ownBlock = v.ownBlock ∨ v'.ownBlock = some H) : OwD W0 w1 v' (l ++ [x]) := by
  refine ⟨by rw [List.length_append, flatT_append]; exact hown, fun g e => ?_⟩
  rcases hat with k | k
  · exact h.new g (by rw [← k]; exact e)
  · rw [k] at e
    simp at e
    omega
theorem newsD {w W : World} {x : T3} (tc : Touch (fun _ => False) (w.alloc (.cells #[.int .u8 x.1, .int .i64 x.2.1, .int .i64 x.2.2] 33)) W) : ∀ j u, (flatT [x])[j]? = some u → W.cell? ((⟨w.heap.size, 0, none⟩ : Addr).add j) = some u := by
  intro j u hj
  have hb : (w.alloc (.cells #[.int .u8 x.1, .int .i64 x.2.1, .int .i64 x.2.2] 33)).heap[w.heap.size]? = some (.cells #[.int .u8 x.1, .int .i64 x.2.1, .int .i64 x.2.2] 33 (0, 0)) := by show (w.heap.push _)[_]? = _; simp
  rw [add_zero, tc.cell (p := ⟨w.heap.size, j, none⟩) (by simp) id]
  simp only [World.cell?, hb, Option.isSome_none, Bool.false_eq_true, if_false]
  rw [← hj]
  simp [flatT]
/-- A distance is within reach. -/
def Rch (rr : Int) (R : Nat) : Prop := ∀ e : Nat, 1 ≤ e → ((e : Int) ≤ rr ↔ e ≤ R)
set_option maxRecDepth 100000 in
set_option maxHeartbeats 8000000 in
theorem rtok_any (d : ByteArray) (f t : Nat) (r : Int) (R F : Nat) (w : World) (hft : f ≤ t) (ht : t ≤ d.size) (hd : d.size ≤ 1073741824) (hR : cnted r = (R : Int)) (hF : F = f - R) :
    Calls Try.prog 11 #[.string d, .int .i64 (f : Nat), .int .i64 (t : Nat), .int .i64 r] w fun e w' => ∃ v, e = .returned v ∧ OwD w w' v (tks d F t R (t - f) f) ∧ Touch (fun _ => False) w w' := by
  obtain ⟨i0, hi34, hz0, hz1, hz2⟩ := info_parts info33
  have h1 : ¬ ((f : Int) < 0) := by omega
  have h2 : ¬ ((t : Int) < (f : Int)) := by omega
  have h3 : ¬ ((d.size : Int) < (t : Int)) := by omega
  have HFR := hid hF
  clear hF
  go_enter Try.func11, Try.ntmps11
  by_cases hr5 : 32768 < r
  · have RC := hid (show Rch 32768 R from fun e he => by unfold cnted at hR; omega)
    clear hR
    go_upto_region 6 with fail
    obtain ⟨rr, hrr⟩ : ∃ rr : Int, (32768 : Int) = rr := ⟨_, rfl⟩
    rw [hrr] at RC
    rw [hrr]
    clear hrr hr5 h1 h2 h3
    go_wp2_with fail
    go_loopg [9, 10] (t - f) (fun gk v9 v10 wq => ∃ (p : Nat) (l : List T3), v10 = .int .i64 (p : Nat) ∧ f ≤ p ∧ p ≤ t ∧ t - p ≤ gk ∧ l.length ≤ p ∧ l ++ tks d F t R gk p = tks d F t R (t - f) f ∧ OwD w wq v9 l ∧ Touch (fun _ => False) w wq)
    case atStart => exact ⟨f, [], rfl, Nat.le_refl _, hft, Nat.le_refl _, by simp, rfl, OwD.nil _ _, Touch.refl _ _⟩
    case round =>
      obtain ⟨p, l, rfl, hfp, hpp, hpg, hlp, heq, hod, htc⟩ := hrel
      have EQ := hid heq
      have OD := hid hod
      have TC := hid htc
      obtain ⟨a9, c9, hv9⟩ := own_shapeQ hod.own
      subst hv9
      clear heq hod htc
      by_cases hlt : p < t
      · have hltI : (p : Int) < (t : Int) := by omega
        obtain ⟨g, rfl⟩ : ∃ g, gk = g + 1 := ⟨gk - 1, by omega⟩
        obtain ⟨lim, hlim⟩ : ∃ lim, lim = min R p := ⟨_, rfl⟩
        obtain ⟨most, hmost⟩ : ∃ most, most = min 258 (t - p) := ⟨_, rfl⟩
        have FI := hid (fnd_is d F p t R lim hlim (by have := HFR.out; omega))
        rw [← hmost] at FI
        have HMB := hid (show most ≤ 258 ∧ p + most ≤ t ∧ (most = 258 ∨ p + most = t) by omega)
        clear hmost
        go_wp2_with fail
        generalize wr = wo at *
        go_loopg [11, 12, 13] lim (fun hk v11 v12 v13 wq => ∃ e len dist : Nat, v11 = .int .i64 (len : Nat) ∧ v12 = .int .i64 (dist : Nat) ∧ v13 = .int .i64 (e : Nat) ∧ 1 ≤ e ∧ e + hk = lim + 1 ∧ bstGo d p most lim hk e len dist = bstGo d p most lim lim 1 2 0 ∧ ((dist = 0 ∧ len = 2) ∨ (1 ≤ dist ∧ dist ≤ p ∧ 3 ≤ len ∧ len ≤ most)) ∧ Touch (fun _ => False) wo wq)
        case atStart => exact ⟨1, 2, 0, rfl, rfl, rfl, Nat.le_refl _, by omega, rfl, .inl ⟨rfl, rfl⟩, Touch.refl _ _⟩
        case round =>
          obtain ⟨e, len, dist, rfl, rfl, rfl, he1, hek, hbg, hld, hte⟩ := hrel
          have BG := hid hbg
          have LD := hid hld
          have TE := hid hte
          have hlb : len ≤ 258 ∧ dist ≤ p := by have := HMB.out; omega
          clear hbg hld hte
          by_cases hel : e ≤ lim
          · obtain ⟨hk', rfl⟩ : ∃ j, gk = j + 1 := ⟨gk - 1, by omega⟩
            have her : (e : Int) ≤ rr := (RC.out e he1).2 (by omega)
            have hep : (e : Int) ≤ (p : Int) := by omega
            go_wp2_with fail
            generalize wr = wm at *
            go_loopg [14] most (fun gn v14 wq => ∃ n : Nat, n + gn = most ∧ v14 = .int .i64 (n : Nat) ∧ eqN d (p - e) p gn n = eqN d (p - e) p most 0 ∧ Touch (fun _ => False) wo wq)
            case atStart => exact ⟨0, by omega, rfl, rfl, TE.out⟩
            case round =>
              obtain ⟨n, hn, rfl, hen, htn⟩ := hrel
              have EN := hid hen
              have TN := hid htn
              clear hen htn
              by_cases hnm : n < most
              · obtain ⟨gn, rfl⟩ : ∃ j, gk = j + 1 := ⟨gk - 1, by omega⟩
                obtain ⟨i1, hi1⟩ : ∃ j : Nat, j = p - e + n := ⟨_, rfl⟩
                obtain ⟨i2, hi2⟩ : ∃ j : Nat, j = p + n := ⟨_, rfl⟩
                have k1 : i1 < d.size := by have := HMB.out; omega
                have k2 : i2 < d.size := by have := HMB.out; omega
                obtain ⟨x, hx⟩ : ∃ x : Nat, x = d[i1].toNat := ⟨_, rfl⟩
                obtain ⟨y, hy⟩ : ∃ y : Nat, y = d[i2].toNat := ⟨_, rfl⟩
                have qx : d[i1].toNat = x := hx.symm
                have qy : d[i2].toNat = y := hy.symm
                have hi1I : (i1 : Int) < (d.size : Int) := by omega
                have hi2I : (i2 : Int) < (d.size : Int) := by omega
                have w2 : IntKind.i64.wrap ((p : Int) + (n : Int)) = (i2 : Int) := by rw [IntKind.wrap_i64]; omega
                have w1 : IntKind.i64.wrap ((i2 : Int) - (e : Int)) = (i1 : Int) := by rw [IntKind.wrap_i64]; omega
                have HE := hid (show Bt.byteN d (p - e + n) = Bt.byteN d (p + n) ↔ x = y by rw [byteN_at d (p - e + n) (by have := HMB.out; omega), byteN_at d (p + n) (by have := HMB.out; omega)]; subst hi1 hi2; rw [qx, qy])
                have hn258 : (n : Int) < 258 := by have := HMB.out; omega
                have hntp : (n : Int) < (t : Int) - (p : Int) := by have := HMB.out; omega
                have hnb : n ≤ most := by omega
                clear hx hy hi1 hi2
                by_cases hxy : x = y
                · have hb : ((x : Int) == (y : Int)) = true := by simp [hxy]
                  have ES := hid (show eqN d (p - e) p gn (n + 1) = eqN d (p - e) p most 0 by rw [← EN.out, eqN_step (HE.out.2 hxy)])
                  clear hxy
                  go_upto_region 13 with fail
                  go_cut [68] (fun v wd => v = .bool true ∧ Touch (fun _ => False) wo wd)
                  case first =>
                    go_quiet (fail)
                    go_wp2
                    go_meet
                    case rel => exact ⟨by first | rfl | exact congrArg Value.bool hb | simp [hb], TN.out.drewN _⟩
                  obtain ⟨rfl, ht2⟩ := hcut
                  have T2 := hid ht2
                  clear ht2
                  go_wp2_with fail
                  go_roundg gn
                  case measure => omega
                  case rel => exact ⟨n + 1, by omega, by go_num, ES.out, T2.out⟩
                · have hb : ((x : Int) == (y : Int)) = false := by simp; omega
                  have ES := hid (show n = eqN d (p - e) p most 0 by rw [← EN.out, eqN_stop (fun e => hxy (HE.out.1 e))])
                  clear hxy
                  go_upto_region 13 with fail
                  go_cut [68] (fun v wd => v = .bool false ∧ Touch (fun _ => False) wo wd)
                  case first =>
                    go_quiet (fail)
                    go_wp2
                    go_meet
                    case rel => exact ⟨by first | rfl | exact congrArg Value.bool hb | simp [hb], TN.out.drewN _⟩
                  obtain ⟨rfl, ht2⟩ := hcut
                  have T2 := hid ht2
                  clear ht2
                  by_cases hbest : len < n
                  · have hbI : (len : Int) < (n : Int) := by omega
                    have BS := hid (show bstGo d p most lim hk' (e + 1) n e = bstGo d p most lim lim 1 2 0 by rw [← BG.out, bstGo, if_pos hel, ← ES.out, if_pos hbest])
                    go_wp2
                    go_roundg hk'
                    case measure => omega
                    case rel => exact ⟨e + 1, n, e, rfl, rfl, by go_num, by omega, by omega, BS.out, .inr ⟨he1, by omega, by have := LD.out; omega, by omega⟩, T2.out⟩
                  · have hbI : ¬ ((len : Int) < (n : Int)) := by omega
                    have BS := hid (show bstGo d p most lim hk' (e + 1) len dist = bstGo d p most lim lim 1 2 0 by rw [← BG.out, bstGo, if_pos hel, ← ES.out, if_neg hbest])
                    go_wp2
                    go_roundg hk'
                    case measure => omega
                    case rel => exact ⟨e + 1, len, dist, rfl, rfl, by go_num, by omega, by omega, BS.out, LD.out, T2.out⟩
              · have hnm2 : n = most := by omega
                obtain rfl : gk = 0 := by omega
                have ES := hid (show n = eqN d (p - e) p most 0 from EN.out)
                by_cases hn5 : n < 258
                · have hn258 : (n : Int) < 258 := by omega
                  have hntp : (t : Int) - (p : Int) ≤ (n : Int) := by have := HMB.out; omega
                  have hd1 : decide ((n : Int) < 258) = true := decide_eq_true hn258
                  have hd2 : decide ((n : Int) < (t : Int) - (p : Int)) = false := decide_eq_false (by omega)
                  have hnb : n ≤ most := by omega
                  clear hnm hnm2 hn hn5
                  go_upto_region 13 with fail
                  go_cut [68] (fun v wd => v = .bool false ∧ Touch (fun _ => False) wo wd)
                  case first =>
                    go_quiet (fail)
                    go_wp2
                    go_meet
                    case rel => exact ⟨by first | rfl | simp, TN.out.drewN _⟩
                  obtain ⟨rfl, ht2⟩ := hcut
                  have T2 := hid ht2
                  clear ht2
                  by_cases hbest : len < n
                  · have hbI : (len : Int) < (n : Int) := by omega
                    have BS := hid (show bstGo d p most lim hk' (e + 1) n e = bstGo d p most lim lim 1 2 0 by rw [← BG.out, bstGo, if_pos hel, ← ES.out, if_pos hbest])
                    go_wp2
                    go_roundg hk'
                    case measure => omega
                    case rel => exact ⟨e + 1, n, e, rfl, rfl, by go_num, by omega, by omega, BS.out, .inr ⟨he1, by omega, by have := LD.out; omega, by omega⟩, T2.out⟩
                  · have hbI : ¬ ((len : Int) < (n : Int)) := by omega
                    have BS := hid (show bstGo d p most lim hk' (e + 1) len dist = bstGo d p most lim lim 1 2 0 by rw [← BG.out, bstGo, if_pos hel, ← ES.out, if_neg hbest])
                    go_wp2
                    go_roundg hk'
                    case measure => omega
                    case rel => exact ⟨e + 1, len, dist, rfl, rfl, by go_num, by omega, by omega, BS.out, LD.out, T2.out⟩
                · have hn258 : ¬ ((n : Int) < 258) := by omega
                  have hd1 : decide ((n : Int) < 258) = false := decide_eq_false hn258
                  have hnb : n ≤ most := by omega
                  clear hnm hnm2 hn hn5
                  go_upto_region 13 with fail
                  go_cut [68] (fun v wd => v = .bool false ∧ Touch (fun _ => False) wo wd)
                  case first =>
                    go_quiet (fail)
                    go_wp2
                    go_meet
                    case rel => exact ⟨by first | rfl | simp, TN.out.drewN _⟩
                  obtain ⟨rfl, ht2⟩ := hcut
                  have T2 := hid ht2
                  clear ht2
                  by_cases hbest : len < n
                  · have hbI : (len : Int) < (n : Int) := by omega
                    have BS := hid (show bstGo d p most lim hk' (e + 1) n e = bstGo d p most lim lim 1 2 0 by rw [← BG.out, bstGo, if_pos hel, ← ES.out, if_pos hbest])
                    go_wp2
                    go_roundg hk'
                    case measure => omega
                    case rel => exact ⟨e + 1, n, e, rfl, rfl, by go_num, by omega, by omega, BS.out, .inr ⟨he1, by omega, by have := LD.out; omega, by omega⟩, T2.out⟩
                  · have hbI : ¬ ((len : Int) < (n : Int)) := by omega
                    have BS := hid (show bstGo d p most lim hk' (e + 1) len dist = bstGo d p most lim lim 1 2 0 by rw [← BG.out, bstGo, if_pos hel, ← ES.out, if_neg hbest])
                    go_wp2
                    go_roundg hk'
                    case measure => omega
                    case rel => exact ⟨e + 1, len, dist, rfl, rfl, by go_num, by omega, by omega, BS.out, LD.out, T2.out⟩
          · obtain rfl : gk = 0 := by omega
            have BE := hid (show bstGo d p most lim lim 1 2 0 = (len, dist) from BG.out.symm)
            have O1 := hid (OD.out.still TE.out)
            have TW := hid (TC.out.trans TE.out (fun _ _ e => e))
            generalize wr = we at *
            by_cases her : (e : Int) ≤ rr
            · have heR := (RC.out e he1).1 her
              have hep : ¬ ((e : Int) ≤ (p : Int)) := by omega
              by_cases hd0 : dist = 0
              · have hdI : ((dist : Int) == 0) = true := by simp [hd0]
                obtain ⟨u, hu⟩ : ∃ u : Nat, u = d[p].toNat := ⟨_, rfl⟩
                have hbu : d[p].toNat = u := hu.symm
                have hpd : (p : Int) < (d.size : Int) := by omega
                have SX := hid (show tks d F t R (g + 1) p = ((u : Int), 0, 0) :: tks d F t R g (p + 1) by rw [tks, if_pos hlt, FI.out, BE.out, if_pos hd0, if_pos (by decide), byteN_at d p (by omega), hbu])
                clear hu hd0
                have O2 := hid (O1.out.still ((Touch.refl (fun _ => False) we).alloc (.cells #[.int .u8 ((u : Int)), .int .i64 (0), .int .i64 (0)] 33)))
                go_wp2_with (at_builtin; refine wpList_append_own_at _ rfl _ _ 30 rfl 0 33 i0 (.agg #[.int .u8 0, .int .i64 0, .int .i64 0]) 3 24 Try.underlying30 hi34 hz0 hz1 hz2 rfl (by decide) _ _ _ rfl O2.out.own ⟨we.heap.size, 0, none⟩ 1 1 (flatT [(((u : Int) : Int), (0 : Int), (0 : Int))]) rfl rfl (newsD (Touch.refl _ _)) (flatT_one _) (by unfold maxLen; omega) (by omega) (Nat.zero_le _) ?_)
                intro v4 w4 hown hgrow _ hat
                obtain ⟨a4, c4, hv4⟩ := own_shapeQ hown
                subst hv4
                have OA := hid (show OwD w w4 (.slice a4 (l.length + 1) c4) (l ++ [(((u : Int) : Int), (0 : Int), (0 : Int))]) from O2.out.app (we.heap.size + 1) (Nat.le_trans TW.out.size (Nat.le_succ _)) hown (by simpa using hat))
                have TA := hid ((TW.out.alloc (.cells #[.int .u8 ((u : Int)), .int .i64 (0), .int .i64 (0)] 33)).grown hgrow (fun k hk hlt => by have := O2.out.new k hk; omega))
                clear hown hgrow hat O2
                go_wp2
                go_roundg g
                case measure => omega
                case rel => exact ⟨p + 1, l ++ [(((u : Int) : Int), (0 : Int), (0 : Int))], by go_num, by omega, by omega, by omega, by rw [List.length_append]; simp; omega, by rw [← EQ.out, SX.out, List.append_assoc]; rfl, OA.out, TA.out⟩
              · have hdI : ((dist : Int) == 0) = false := by simp; omega
                have hl3 : 3 ≤ len ∧ p + len ≤ t := by have := LD.out; have := HMB.out; omega
                have SX := hid (show tks d F t R (g + 1) p = (0, (len : Int), (dist : Int)) :: tks d F t R g (p + len) by rw [tks, if_pos hlt, FI.out, BE.out, if_neg hd0, if_neg (show ¬ len < 3 by omega)])
                clear hd0
                have O2 := hid (O1.out.still ((Touch.refl (fun _ => False) we).alloc (.cells #[.int .u8 (0), .int .i64 ((len : Int)), .int .i64 ((dist : Int))] 33)))
                go_wp2_with (at_builtin; refine wpList_append_own_at _ rfl _ _ 30 rfl 0 33 i0 (.agg #[.int .u8 0, .int .i64 0, .int .i64 0]) 3 24 Try.underlying30 hi34 hz0 hz1 hz2 rfl (by decide) _ _ _ rfl O2.out.own ⟨we.heap.size, 0, none⟩ 1 1 (flatT [((0 : Int), ((len : Int) : Int), ((dist : Int) : Int))]) rfl rfl (newsD (Touch.refl _ _)) (flatT_one _) (by unfold maxLen; omega) (by omega) (Nat.zero_le _) ?_)
                intro v4 w4 hown hgrow _ hat
                obtain ⟨a4, c4, hv4⟩ := own_shapeQ hown
                subst hv4
                have OA := hid (show OwD w w4 (.slice a4 (l.length + 1) c4) (l ++ [((0 : Int), ((len : Int) : Int), ((dist : Int) : Int))]) from O2.out.app (we.heap.size + 1) (Nat.le_trans TW.out.size (Nat.le_succ _)) hown (by simpa using hat))
                have TA := hid ((TW.out.alloc (.cells #[.int .u8 (0), .int .i64 ((len : Int)), .int .i64 ((dist : Int))] 33)).grown hgrow (fun k hk hlt => by have := O2.out.new k hk; omega))
                clear hown hgrow hat O2
                go_wp2
                go_roundg g
                case measure => omega
                case rel => exact ⟨p + len, l ++ [((0 : Int), ((len : Int) : Int), ((dist : Int) : Int))], by go_num, by omega, by omega, by omega, by rw [List.length_append]; simp; omega, by rw [← EQ.out, SX.out, List.append_assoc]; rfl, OA.out, TA.out⟩
            · by_cases hd0 : dist = 0
              · have hdI : ((dist : Int) == 0) = true := by simp [hd0]
                obtain ⟨u, hu⟩ : ∃ u : Nat, u = d[p].toNat := ⟨_, rfl⟩
                have hbu : d[p].toNat = u := hu.symm
                have hpd : (p : Int) < (d.size : Int) := by omega
                have SX := hid (show tks d F t R (g + 1) p = ((u : Int), 0, 0) :: tks d F t R g (p + 1) by rw [tks, if_pos hlt, FI.out, BE.out, if_pos hd0, if_pos (by decide), byteN_at d p (by omega), hbu])
                clear hu hd0
                have O2 := hid (O1.out.still ((Touch.refl (fun _ => False) we).alloc (.cells #[.int .u8 ((u : Int)), .int .i64 (0), .int .i64 (0)] 33)))
                go_wp2_with (at_builtin; refine wpList_append_own_at _ rfl _ _ 30 rfl 0 33 i0 (.agg #[.int .u8 0, .int .i64 0, .int .i64 0]) 3 24 Try.underlying30 hi34 hz0 hz1 hz2 rfl (by decide) _ _ _ rfl O2.out.own ⟨we.heap.size, 0, none⟩ 1 1 (flatT [(((u : Int) : Int), (0 : Int), (0 : Int))]) rfl rfl (newsD (Touch.refl _ _)) (flatT_one _) (by unfold maxLen; omega) (by omega) (Nat.zero_le _) ?_)
                intro v4 w4 hown hgrow _ hat
                obtain ⟨a4, c4, hv4⟩ := own_shapeQ hown
                subst hv4
                have OA := hid (show OwD w w4 (.slice a4 (l.length + 1) c4) (l ++ [(((u : Int) : Int), (0 : Int), (0 : Int))]) from O2.out.app (we.heap.size + 1) (Nat.le_trans TW.out.size (Nat.le_succ _)) hown (by simpa using hat))
                have TA := hid ((TW.out.alloc (.cells #[.int .u8 ((u : Int)), .int .i64 (0), .int .i64 (0)] 33)).grown hgrow (fun k hk hlt => by have := O2.out.new k hk; omega))
                clear hown hgrow hat O2
                go_wp2
                go_roundg g
                case measure => omega
                case rel => exact ⟨p + 1, l ++ [(((u : Int) : Int), (0 : Int), (0 : Int))], by go_num, by omega, by omega, by omega, by rw [List.length_append]; simp; omega, by rw [← EQ.out, SX.out, List.append_assoc]; rfl, OA.out, TA.out⟩
              · have hdI : ((dist : Int) == 0) = false := by simp; omega
                have hl3 : 3 ≤ len ∧ p + len ≤ t := by have := LD.out; have := HMB.out; omega
                have SX := hid (show tks d F t R (g + 1) p = (0, (len : Int), (dist : Int)) :: tks d F t R g (p + len) by rw [tks, if_pos hlt, FI.out, BE.out, if_neg hd0, if_neg (show ¬ len < 3 by omega)])
                clear hd0
                have O2 := hid (O1.out.still ((Touch.refl (fun _ => False) we).alloc (.cells #[.int .u8 (0), .int .i64 ((len : Int)), .int .i64 ((dist : Int))] 33)))
                go_wp2_with (at_builtin; refine wpList_append_own_at _ rfl _ _ 30 rfl 0 33 i0 (.agg #[.int .u8 0, .int .i64 0, .int .i64 0]) 3 24 Try.underlying30 hi34 hz0 hz1 hz2 rfl (by decide) _ _ _ rfl O2.out.own ⟨we.heap.size, 0, none⟩ 1 1 (flatT [((0 : Int), ((len : Int) : Int), ((dist : Int) : Int))]) rfl rfl (newsD (Touch.refl _ _)) (flatT_one _) (by unfold maxLen; omega) (by omega) (Nat.zero_le _) ?_)
                intro v4 w4 hown hgrow _ hat
                obtain ⟨a4, c4, hv4⟩ := own_shapeQ hown
                subst hv4
                have OA := hid (show OwD w w4 (.slice a4 (l.length + 1) c4) (l ++ [((0 : Int), ((len : Int) : Int), ((dist : Int) : Int))]) from O2.out.app (we.heap.size + 1) (Nat.le_trans TW.out.size (Nat.le_succ _)) hown (by simpa using hat))
                have TA := hid ((TW.out.alloc (.cells #[.int .u8 (0), .int .i64 ((len : Int)), .int .i64 ((dist : Int))] 33)).grown hgrow (fun k hk hlt => by have := O2.out.new k hk; omega))
                clear hown hgrow hat O2
                go_wp2
                go_roundg g
                case measure => omega
                case rel => exact ⟨p + len, l ++ [((0 : Int), ((len : Int) : Int), ((dist : Int) : Int))], by go_num, by omega, by omega, by omega, by rw [List.length_append]; simp; omega, by rw [← EQ.out, SX.out, List.append_assoc]; rfl, OA.out, TA.out⟩
      · have hltI : ¬ ((p : Int) < (t : Int)) := by omega
        obtain rfl : p = t := by omega
        have EN := hid (show l = tks d F p R (p - f) f by
          rw [← EQ.out]
          cases gk with
          | zero => rw [tks, List.append_nil]
          | succ g => rw [tks, if_neg (by omega), List.append_nil])
        go_wp2_with fail
        go_ret
        exact ⟨_, rfl, by rw [← EN.out]; exact OD.out, TC.out⟩
  · have RC := hid (show Rch r R from fun e he => by unfold cnted at hR; omega)
    clear hR
    go_upto_region 6 with fail
    obtain ⟨rr, hrr⟩ : ∃ rr : Int, r = rr := ⟨_, rfl⟩
    subst hrr
    clear hr5 h1 h2 h3
    revert RC
    generalize hrr : r = rr
    intro RC
    clear hrr
    go_wp2_with fail
    go_loopg [9, 10] (t - f) (fun gk v9 v10 wq => ∃ (p : Nat) (l : List T3), v10 = .int .i64 (p : Nat) ∧ f ≤ p ∧ p ≤ t ∧ t - p ≤ gk ∧ l.length ≤ p ∧ l ++ tks d F t R gk p = tks d F t R (t - f) f ∧ OwD w wq v9 l ∧ Touch (fun _ => False) w wq)
    case atStart => exact ⟨f, [], rfl, Nat.le_refl _, hft, Nat.le_refl _, by simp, rfl, OwD.nil _ _, Touch.refl _ _⟩
    case round =>
      obtain ⟨p, l, rfl, hfp, hpp, hpg, hlp, heq, hod, htc⟩ := hrel
      have EQ := hid heq
      have OD := hid hod
      have TC := hid htc
      obtain ⟨a9, c9, hv9⟩ := own_shapeQ hod.own
      subst hv9
      clear heq hod htc
      by_cases hlt : p < t
      · have hltI : (p : Int) < (t : Int) := by omega
        obtain ⟨g, rfl⟩ : ∃ g, gk = g + 1 := ⟨gk - 1, by omega⟩
        obtain ⟨lim, hlim⟩ : ∃ lim, lim = min R p := ⟨_, rfl⟩
        obtain ⟨most, hmost⟩ : ∃ most, most = min 258 (t - p) := ⟨_, rfl⟩
        have FI := hid (fnd_is d F p t R lim hlim (by have := HFR.out; omega))
        rw [← hmost] at FI
        have HMB := hid (show most ≤ 258 ∧ p + most ≤ t ∧ (most = 258 ∨ p + most = t) by omega)
        clear hmost
        go_wp2_with fail
        generalize wr = wo at *
        go_loopg [11, 12, 13] lim (fun hk v11 v12 v13 wq => ∃ e len dist : Nat, v11 = .int .i64 (len : Nat) ∧ v12 = .int .i64 (dist : Nat) ∧ v13 = .int .i64 (e : Nat) ∧ 1 ≤ e ∧ e + hk = lim + 1 ∧ bstGo d p most lim hk e len dist = bstGo d p most lim lim 1 2 0 ∧ ((dist = 0 ∧ len = 2) ∨ (1 ≤ dist ∧ dist ≤ p ∧ 3 ≤ len ∧ len ≤ most)) ∧ Touch (fun _ => False) wo wq)
        case atStart => exact ⟨1, 2, 0, rfl, rfl, rfl, Nat.le_refl _, by omega, rfl, .inl ⟨rfl, rfl⟩, Touch.refl _ _⟩
        case round =>
          obtain ⟨e, len, dist, rfl, rfl, rfl, he1, hek, hbg, hld, hte⟩ := hrel
          have BG := hid hbg
          have LD := hid hld
          have TE := hid hte
          have hlb : len ≤ 258 ∧ dist ≤ p := by have := HMB.out; omega
          clear hbg hld hte
          by_cases hel : e ≤ lim
          · obtain ⟨hk', rfl⟩ : ∃ j, gk = j + 1 := ⟨gk - 1, by omega⟩
            have her : (e : Int) ≤ rr := (RC.out e he1).2 (by omega)
            have hep : (e : Int) ≤ (p : Int) := by omega
            go_wp2_with fail
            generalize wr = wm at *
            go_loopg [14] most (fun gn v14 wq => ∃ n : Nat, n + gn = most ∧ v14 = .int .i64 (n : Nat) ∧ eqN d (p - e) p gn n = eqN d (p - e) p most 0 ∧ Touch (fun _ => False) wo wq)
            case atStart => exact ⟨0, by omega, rfl, rfl, TE.out⟩
            case round =>
              obtain ⟨n, hn, rfl, hen, htn⟩ := hrel
              have EN := hid hen
              have TN := hid htn
              clear hen htn
              by_cases hnm : n < most
              · obtain ⟨gn, rfl⟩ : ∃ j, gk = j + 1 := ⟨gk - 1, by omega⟩
                obtain ⟨i1, hi1⟩ : ∃ j : Nat, j = p - e + n := ⟨_, rfl⟩
                obtain ⟨i2, hi2⟩ : ∃ j : Nat, j = p + n := ⟨_, rfl⟩
                have k1 : i1 < d.size := by have := HMB.out; omega
                have k2 : i2 < d.size := by have := HMB.out; omega
                obtain ⟨x, hx⟩ : ∃ x : Nat, x = d[i1].toNat := ⟨_, rfl⟩
                obtain ⟨y, hy⟩ : ∃ y : Nat, y = d[i2].toNat := ⟨_, rfl⟩
                have qx : d[i1].toNat = x := hx.symm
                have qy : d[i2].toNat = y := hy.symm
                have hi1I : (i1 : Int) < (d.size : Int) := by omega
                have hi2I : (i2 : Int) < (d.size : Int) := by omega
                have w2 : IntKind.i64.wrap ((p : Int) + (n : Int)) = (i2 : Int) := by rw [IntKind.wrap_i64]; omega
                have w1 : IntKind.i64.wrap ((i2 : Int) - (e : Int)) = (i1 : Int) := by rw [IntKind.wrap_i64]; omega
                have HE := hid (show Bt.byteN d (p - e + n) = Bt.byteN d (p + n) ↔ x = y by rw [byteN_at d (p - e + n) (by have := HMB.out; omega), byteN_at d (p + n) (by have := HMB.out; omega)]; subst hi1 hi2; rw [qx, qy])
                have hn258 : (n : Int) < 258 := by have := HMB.out; omega
                have hntp : (n : Int) < (t : Int) - (p : Int) := by have := HMB.out; omega
                have hnb : n ≤ most := by omega
                clear hx hy hi1 hi2
                by_cases hxy : x = y
                · have hb : ((x : Int) == (y : Int)) = true := by simp [hxy]
                  have ES := hid (show eqN d (p - e) p gn (n + 1) = eqN d (p - e) p most 0 by rw [← EN.out, eqN_step (HE.out.2 hxy)])
                  clear hxy
                  go_upto_region 13 with fail
                  go_cut [68] (fun v wd => v = .bool true ∧ Touch (fun _ => False) wo wd)
                  case first =>
                    go_quiet (fail)
                    go_wp2
                    go_meet
                    case rel => exact ⟨by first | rfl | exact congrArg Value.bool hb | simp [hb], TN.out.drewN _⟩
                  obtain ⟨rfl, ht2⟩ := hcut
                  have T2 := hid ht2
                  clear ht2
                  go_wp2_with fail
                  go_roundg gn
                  case measure => omega
                  case rel => exact ⟨n + 1, by omega, by go_num, ES.out, T2.out⟩
                · have hb : ((x : Int) == (y : Int)) = false := by simp; omega
                  have ES := hid (show n = eqN d (p - e) p most 0 by rw [← EN.out, eqN_stop (fun e => hxy (HE.out.1 e))])
                  clear hxy
                  go_upto_region 13 with fail
                  go_cut [68] (fun v wd => v = .bool false ∧ Touch (fun _ => False) wo wd)
                  case first =>
                    go_quiet (fail)
                    go_wp2
                    go_meet
                    case rel => exact ⟨by first | rfl | exact congrArg Value.bool hb | simp [hb], TN.out.drewN _⟩
                  obtain ⟨rfl, ht2⟩ := hcut
                  have T2 := hid ht2
                  clear ht2
                  by_cases hbest : len < n
                  · have hbI : (len : Int) < (n : Int) := by omega
                    have BS := hid (show bstGo d p most lim hk' (e + 1) n e = bstGo d p most lim lim 1 2 0 by rw [← BG.out, bstGo, if_pos hel, ← ES.out, if_pos hbest])
                    go_wp2
                    go_roundg hk'
                    case measure => omega
                    case rel => exact ⟨e + 1, n, e, rfl, rfl, by go_num, by omega, by omega, BS.out, .inr ⟨he1, by omega, by have := LD.out; omega, by omega⟩, T2.out⟩
                  · have hbI : ¬ ((len : Int) < (n : Int)) := by omega
                    have BS := hid (show bstGo d p most lim hk' (e + 1) len dist = bstGo d p most lim lim 1 2 0 by rw [← BG.out, bstGo, if_pos hel, ← ES.out, if_neg hbest])
                    go_wp2
                    go_roundg hk'
                    case measure => omega
                    case rel => exact ⟨e + 1, len, dist, rfl, rfl, by go_num, by omega, by omega, BS.out, LD.out, T2.out⟩
              · have hnm2 : n = most := by omega
                obtain rfl : gk = 0 := by omega
                have ES := hid (show n = eqN d (p - e) p most 0 from EN.out)
                by_cases hn5 : n < 258
                · have hn258 : (n : Int) < 258 := by omega
                  have hntp : (t : Int) - (p : Int) ≤ (n : Int) := by have := HMB.out; omega
                  have hd1 : decide ((n : Int) < 258) = true := decide_eq_true hn258
                  have hd2 : decide ((n : Int) < (t : Int) - (p : Int)) = false := decide_eq_false (by omega)
                  have hnb : n ≤ most := by omega
                  clear hnm hnm2 hn hn5
                  go_upto_region 13 with fail
                  go_cut [68] (fun v wd => v = .bool false ∧ Touch (fun _ => False) wo wd)
                  case first =>
                    go_quiet (fail)
                    go_wp2
                    go_meet
                    case rel => exact ⟨by first | rfl | simp, TN.out.drewN _⟩
                  obtain ⟨rfl, ht2⟩ := hcut
                  have T2 := hid ht2
                  clear ht2
                  by_cases hbest : len < n
                  · have hbI : (len : Int) < (n : Int) := by omega
                    have BS := hid (show bstGo d p most lim hk' (e + 1) n e = bstGo d p most lim lim 1 2 0 by rw [← BG.out, bstGo, if_pos hel, ← ES.out, if_pos hbest])
                    go_wp2
                    go_roundg hk'
                    case measure => omega
                    case rel => exact ⟨e + 1, n, e, rfl, rfl, by go_num, by omega, by omega, BS.out, .inr ⟨he1, by omega, by have := LD.out; omega, by omega⟩, T2.out⟩
                  · have hbI : ¬ ((len : Int) < (n : Int)) := by omega
                    have BS := hid (show bstGo d p most lim hk' (e + 1) len dist = bstGo d p most lim lim 1 2 0 by rw [← BG.out, bstGo, if_pos hel, ← ES.out, if_neg hbest])
                    go_wp2
                    go_roundg hk'
                    case measure => omega
                    case rel => exact ⟨e + 1, len, dist, rfl, rfl, by go_num, by omega, by omega, BS.out, LD.out, T2.out⟩
                · have hn258 : ¬ ((n : Int) < 258) := by omega
                  have hd1 : decide ((n : Int) < 258) = false := decide_eq_false hn258
                  have hnb : n ≤ most := by omega
                  clear hnm hnm2 hn hn5
                  go_upto_region 13 with fail
                  go_cut [68] (fun v wd => v = .bool false ∧ Touch (fun _ => False) wo wd)
                  case first =>
                    go_quiet (fail)
                    go_wp2
                    go_meet
                    case rel => exact ⟨by first | rfl | simp, TN.out.drewN _⟩
                  obtain ⟨rfl, ht2⟩ := hcut
                  have T2 := hid ht2
                  clear ht2
                  by_cases hbest : len < n
                  · have hbI : (len : Int) < (n : Int) := by omega
                    have BS := hid (show bstGo d p most lim hk' (e + 1) n e = bstGo d p most lim lim 1 2 0 by rw [← BG.out, bstGo, if_pos hel, ← ES.out, if_pos hbest])
                    go_wp2
                    go_roundg hk'
                    case measure => omega
                    case rel => exact ⟨e + 1, n, e, rfl, rfl, by go_num, by omega, by omega, BS.out, .inr ⟨he1, by omega, by have := LD.out; omega, by omega⟩, T2.out⟩
                  · have hbI : ¬ ((len : Int) < (n : Int)) := by omega
                    have BS := hid (show bstGo d p most lim hk' (e + 1) len dist = bstGo d p most lim lim 1 2 0 by rw [← BG.out, bstGo, if_pos hel, ← ES.out, if_neg hbest])
                    go_wp2
                    go_roundg hk'
                    case measure => omega
                    case rel => exact ⟨e + 1, len, dist, rfl, rfl, by go_num, by omega, by omega, BS.out, LD.out, T2.out⟩
          · obtain rfl : gk = 0 := by omega
            have BE := hid (show bstGo d p most lim lim 1 2 0 = (len, dist) from BG.out.symm)
            have O1 := hid (OD.out.still TE.out)
            have TW := hid (TC.out.trans TE.out (fun _ _ e => e))
            generalize wr = we at *
            by_cases her : (e : Int) ≤ rr
            · have heR := (RC.out e he1).1 her
              have hep : ¬ ((e : Int) ≤ (p : Int)) := by omega
              by_cases hd0 : dist = 0
              · have hdI : ((dist : Int) == 0) = true := by simp [hd0]
                obtain ⟨u, hu⟩ : ∃ u : Nat, u = d[p].toNat := ⟨_, rfl⟩
                have hbu : d[p].toNat = u := hu.symm
                have hpd : (p : Int) < (d.size : Int) := by omega
                have SX := hid (show tks d F t R (g + 1) p = ((u : Int), 0, 0) :: tks d F t R g (p + 1) by rw [tks, if_pos hlt, FI.out, BE.out, if_pos hd0, if_pos (by decide), byteN_at d p (by omega), hbu])
                clear hu hd0
                have O2 := hid (O1.out.still ((Touch.refl (fun _ => False) we).alloc (.cells #[.int .u8 ((u : Int)), .int .i64 (0), .int .i64 (0)] 33)))
                go_wp2_with (at_builtin; refine wpList_append_own_at _ rfl _ _ 30 rfl 0 33 i0 (.agg #[.int .u8 0, .int .i64 0, .int .i64 0]) 3 24 Try.underlying30 hi34 hz0 hz1 hz2 rfl (by decide) _ _ _ rfl O2.out.own ⟨we.heap.size, 0, none⟩ 1 1 (flatT [(((u : Int) : Int), (0 : Int), (0 : Int))]) rfl rfl (newsD (Touch.refl _ _)) (flatT_one _) (by unfold maxLen; omega) (by omega) (Nat.zero_le _) ?_)
                intro v4 w4 hown hgrow _ hat
                obtain ⟨a4, c4, hv4⟩ := own_shapeQ hown
                subst hv4
                have OA := hid (show OwD w w4 (.slice a4 (l.length + 1) c4) (l ++ [(((u : Int) : Int), (0 : Int), (0 : Int))]) from O2.out.app (we.heap.size + 1) (Nat.le_trans TW.out.size (Nat.le_succ _)) hown (by simpa using hat))
                have TA := hid ((TW.out.alloc (.cells #[.int .u8 ((u : Int)), .int .i64 (0), .int .i64 (0)] 33)).grown hgrow (fun k hk hlt => by have := O2.out.new k hk; omega))
                clear hown hgrow hat O2
                go_wp2
                go_roundg g
                case measure => omega
                case rel => exact ⟨p + 1, l ++ [(((u : Int) : Int), (0 : Int), (0 : Int))], by go_num, by omega, by omega, by omega, by rw [List.length_append]; simp; omega, by rw [← EQ.out, SX.out, List.append_assoc]; rfl, OA.out, TA.out⟩
              · have hdI : ((dist : Int) == 0) = false := by simp; omega
                have hl3 : 3 ≤ len ∧ p + len ≤ t := by have := LD.out; have := HMB.out; omega
                have SX := hid (show tks d F t R (g + 1) p = (0, (len : Int), (dist : Int)) :: tks d F t R g (p + len) by rw [tks, if_pos hlt, FI.out, BE.out, if_neg hd0, if_neg (show ¬ len < 3 by omega)])
                clear hd0
                have O2 := hid (O1.out.still ((Touch.refl (fun _ => False) we).alloc (.cells #[.int .u8 (0), .int .i64 ((len : Int)), .int .i64 ((dist : Int))] 33)))
                go_wp2_with (at_builtin; refine wpList_append_own_at _ rfl _ _ 30 rfl 0 33 i0 (.agg #[.int .u8 0, .int .i64 0, .int .i64 0]) 3 24 Try.underlying30 hi34 hz0 hz1 hz2 rfl (by decide) _ _ _ rfl O2.out.own ⟨we.heap.size, 0, none⟩ 1 1 (flatT [((0 : Int), ((len : Int) : Int), ((dist : Int) : Int))]) rfl rfl (newsD (Touch.refl _ _)) (flatT_one _) (by unfold maxLen; omega) (by omega) (Nat.zero_le _) ?_)
                intro v4 w4 hown hgrow _ hat
                obtain ⟨a4, c4, hv4⟩ := own_shapeQ hown
                subst hv4
                have OA := hid (show OwD w w4 (.slice a4 (l.length + 1) c4) (l ++ [((0 : Int), ((len : Int) : Int), ((dist : Int) : Int))]) from O2.out.app (we.heap.size + 1) (Nat.le_trans TW.out.size (Nat.le_succ _)) hown (by simpa using hat))
                have TA := hid ((TW.out.alloc (.cells #[.int .u8 (0), .int .i64 ((len : Int)), .int .i64 ((dist : Int))] 33)).grown hgrow (fun k hk hlt => by have := O2.out.new k hk; omega))
                clear hown hgrow hat O2
                go_wp2
                go_roundg g
                case measure => omega
                case rel => exact ⟨p + len, l ++ [((0 : Int), ((len : Int) : Int), ((dist : Int) : Int))], by go_num, by omega, by omega, by omega, by rw [List.length_append]; simp; omega, by rw [← EQ.out, SX.out, List.append_assoc]; rfl, OA.out, TA.out⟩
            · by_cases hd0 : dist = 0
              · have hdI : ((dist : Int) == 0) = true := by simp [hd0]
                obtain ⟨u, hu⟩ : ∃ u : Nat, u = d[p].toNat := ⟨_, rfl⟩
                have hbu : d[p].toNat = u := hu.symm
                have hpd : (p : Int) < (d.size : Int) := by omega
                have SX := hid (show tks d F t R (g + 1) p = ((u : Int), 0, 0) :: tks d F t R g (p + 1) by rw [tks, if_pos hlt, FI.out, BE.out, if_pos hd0, if_pos (by decide), byteN_at d p (by omega), hbu])
                clear hu hd0
                have O2 := hid (O1.out.still ((Touch.refl (fun _ => False) we).alloc (.cells #[.int .u8 ((u : Int)), .int .i64 (0), .int .i64 (0)] 33)))
                go_wp2_with (at_builtin; refine wpList_append_own_at _ rfl _ _ 30 rfl 0 33 i0 (.agg #[.int .u8 0, .int .i64 0, .int .i64 0]) 3 24 Try.underlying30 hi34 hz0 hz1 hz2 rfl (by decide) _ _ _ rfl O2.out.own ⟨we.heap.size, 0, none⟩ 1 1 (flatT [(((u : Int) : Int), (0 : Int), (0 : Int))]) rfl rfl (newsD (Touch.refl _ _)) (flatT_one _) (by unfold maxLen; omega) (by omega) (Nat.zero_le _) ?_)
                intro v4 w4 hown hgrow _ hat
                obtain ⟨a4, c4, hv4⟩ := own_shapeQ hown
                subst hv4
                have OA := hid (show OwD w w4 (.slice a4 (l.length + 1) c4) (l ++ [(((u : Int) : Int), (0 : Int), (0 : Int))]) from O2.out.app (we.heap.size + 1) (Nat.le_trans TW.out.size (Nat.le_succ _)) hown (by simpa using hat))
                have TA := hid ((TW.out.alloc (.cells #[.int .u8 ((u : Int)), .int .i64 (0), .int .i64 (0)] 33)).grown hgrow (fun k hk hlt => by have := O2.out.new k hk; omega))
                clear hown hgrow hat O2
                go_wp2
                go_roundg g
                case measure => omega
                case rel => exact ⟨p + 1, l ++ [(((u : Int) : Int), (0 : Int), (0 : Int))], by go_num, by omega, by omega, by omega, by rw [List.length_append]; simp; omega, by rw [← EQ.out, SX.out, List.append_assoc]; rfl, OA.out, TA.out⟩
              · have hdI : ((dist : Int) == 0) = false := by simp; omega
                have hl3 : 3 ≤ len ∧ p + len ≤ t := by have := LD.out; have := HMB.out; omega
                have SX := hid (show tks d F t R (g + 1) p = (0, (len : Int), (dist : Int)) :: tks d F t R g (p + len) by rw [tks, if_pos hlt, FI.out, BE.out, if_neg hd0, if_neg (show ¬ len < 3 by omega)])
                clear hd0
                have O2 := hid (O1.out.still ((Touch.refl (fun _ => False) we).alloc (.cells #[.int .u8 (0), .int .i64 ((len : Int)), .int .i64 ((dist : Int))] 33)))
                go_wp2_with (at_builtin; refine wpList_append_own_at _ rfl _ _ 30 rfl 0 33 i0 (.agg #[.int .u8 0, .int .i64 0, .int .i64 0]) 3 24 Try.underlying30 hi34 hz0 hz1 hz2 rfl (by decide) _ _ _ rfl O2.out.own ⟨we.heap.size, 0, none⟩ 1 1 (flatT [((0 : Int), ((len : Int) : Int), ((dist : Int) : Int))]) rfl rfl (newsD (Touch.refl _ _)) (flatT_one _) (by unfold maxLen; omega) (by omega) (Nat.zero_le _) ?_)
                intro v4 w4 hown hgrow _ hat
                obtain ⟨a4, c4, hv4⟩ := own_shapeQ hown
                subst hv4
                have OA := hid (show OwD w w4 (.slice a4 (l.length + 1) c4) (l ++ [((0 : Int), ((len : Int) : Int), ((dist : Int) : Int))]) from O2.out.app (we.heap.size + 1) (Nat.le_trans TW.out.size (Nat.le_succ _)) hown (by simpa using hat))
                have TA := hid ((TW.out.alloc (.cells #[.int .u8 (0), .int .i64 ((len : Int)), .int .i64 ((dist : Int))] 33)).grown hgrow (fun k hk hlt => by have := O2.out.new k hk; omega))
                clear hown hgrow hat O2
                go_wp2
                go_roundg g
                case measure => omega
                case rel => exact ⟨p + len, l ++ [((0 : Int), ((len : Int) : Int), ((dist : Int) : Int))], by go_num, by omega, by omega, by omega, by rw [List.length_append]; simp; omega, by rw [← EQ.out, SX.out, List.append_assoc]; rfl, OA.out, TA.out⟩
      · have hltI : ¬ ((p : Int) < (t : Int)) := by omega
        obtain rfl : p = t := by omega
        have EN := hid (show l = tks d F p R (p - f) f by
          rw [← EQ.out]
          cases gk with
          | zero => rw [tks, List.append_nil]
          | succ g => rw [tks, if_neg (by omega), List.append_nil])
        go_wp2_with fail
        go_ret
        exact ⟨_, rfl, by rw [← EN.out]; exact OD.out, TC.out⟩
end Go.Proofs.Ythengfclijclmaa
