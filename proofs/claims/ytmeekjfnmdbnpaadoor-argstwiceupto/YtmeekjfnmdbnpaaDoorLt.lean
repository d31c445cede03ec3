/- The walk of the law ArgsTwice; conditions: the texts fit into memory, the library's variables lie there. -/
import Derived.Test.YtmeekjfnmdbnpaaDoorLv
namespace Go.Proofs.YtmeekjfnmdbnpaaDoor
open Go.RowKit
open Go.Lib

set_option maxRecDepth 100000 in
set_option maxHeartbeats 8000000 in
theorem argsTwice_walk (n0 n1 n2 n3 n4 : Int) (b0 b1 b2 b3 b4 b5 b6 b7 b8 b9 : Bool) (s0 s1 s2 : ByteArray) (K : ByteArray) (at0 : Int) (z0 : s0.size ≤ 1099511627776) (z1 : s1.size ≤ 1099511627776) (z2 : s2.size ≤ 1099511627776) (hKs : K.size ≤ 1099511627776) (w : World) (hx : Sx w) :
    Calls Tryd.prog 7 #[.agg (vals n0 n1 n2 n3 n4 b0 b1 b2 b3 b4 b5 b6 b7 b8 b9 s0 s1 s2), .string K, .int .i64 at0] w fun e w' => e = .returned (.bool true) ∧ Below w.heap.size w w' := by
  have HX := hid hx
  have mixed : Tryd.prog.follows Departure.mixedOrders = true := by kernel_rfl
  obtain ⟨i0, hi, hz0, hz1, hz2⟩ := info_parts info9
  have KS := hid (fun W h => speaks_yes W h)
  have T1 := hid ((Touch.refl (fun _ => False) w).alloc (.cells (vals n0 n1 n2 n3 n4 b0 b1 b2 b3 b4 b5 b6 b7 b8 b9 s0 s1 s2) 50))
  have B1 := hid (blk_new (w := w) (vals n0 n1 n2 n3 n4 b0 b1 b2 b3 b4 b5 b6 b7 b8 b9 s0 s1 s2) 50)
  clear hx
  go_enter Tryd.func7, Tryd.ntmps7
  go_wp2_with fail
  generalize w.alloc (.cells (vals n0 n1 n2 n3 n4 b0 b1 b2 b3 b4 b5 b6 b7 b8 b9 s0 s1 s2) 50) = w1 at *
  obtain ⟨q3, hq3⟩ : ∃ q3, q3 = w.heap.size := ⟨_, rfl⟩
  rw [← hq3] at B1 ⊢
  have HQ := hid (show w.heap.size ≤ q3 from by omega)
  clear hq3
  refine (KS.out w1 (HX.out.new T1.out)).mono ?_
  rintro e w2 ⟨rfl, t2⟩
  have T2 := hid (T1.out.trans t2 (fun _ _ e => e))
  have B2 := hid ((t2.block q3 (lt_of_block B1.out) id).trans B1.out)
  clear t2 T1 B1 KS
  go_wp2_with fail
  go_loopg [7] 5 (fun gk v7 wr => ∃ (j : Nat) (m0 m1 m2 m3 m4 : Int), j + gk = 5 ∧ v7 = .int .i64 (j : Nat) ∧ Hid (wr.heap[q3]? = some (.cells (vals m0 m1 m2 m3 m4 b0 b1 b2 b3 b4 b5 b6 b7 b8 b9 s0 s1 s2) 50 (0, 0))) ∧ Hid (0 < j → 0 ≤ m0 ∧ m0 ≤ 1023) ∧ Hid (1 < j → 0 ≤ m1 ∧ m1 ≤ 1023) ∧ Hid (2 < j → 0 ≤ m2 ∧ m2 ≤ 1023) ∧ Hid (3 < j → 0 ≤ m3 ∧ m3 ≤ 1023) ∧ Hid (4 < j → 0 ≤ m4 ∧ m4 ≤ 1023) ∧ Touch (fun _ => False) w wr)
  case atStart => exact ⟨0, n0, n1, n2, n3, n4, by omega, rfl, B2, hid (fun h => absurd h (Nat.not_lt_zero _)), hid (fun h => absurd h (Nat.not_lt_zero _)), hid (fun h => absurd h (Nat.not_lt_zero _)), hid (fun h => absurd h (Nat.not_lt_zero _)), hid (fun h => absurd h (Nat.not_lt_zero _)), T2.out⟩
  case round =>
  clear B2 T2
  obtain ⟨j, m0, m1, m2, m3, m4, hjg, rfl, HB, R0, R1, R2, R3, R4, htw⟩ := hrel
  have TW := hid htw
  clear htw
  rcases (show j = 0 ∨ j = 1 ∨ j = 2 ∨ j = 3 ∨ j = 4 ∨ j = 5 by omega) with hj0 | hj1 | hj2 | hj3 | hj4 | hj5
  · subst hj0
    have c0 : wr.cell? ⟨q3, 0, none⟩ = some (.int .i64 m0) := cell_of HB.out 0 (show 0 < 18 by decide)
    have f0 := free_of (i := 0) HB.out
    obtain ⟨G, rfl⟩ : ∃ G, gk = G + 1 := ⟨gk - 1, by omega⟩
    have hand := and1023 m0
    have HBS := hid (show (wr.setCell ⟨q3, 0, none⟩ (.int .i64 (m0 % 1024))).heap[q3]? = some (.cells (vals (m0 % 1024) m1 m2 m3 m4 b0 b1 b2 b3 b4 b5 b6 b7 b8 b9 s0 s1 s2) 50 (0, 0)) from block_set HB.out 0 _)
    have TS := hid (TW.out.setCell (p := ⟨q3, 0, none⟩) (fun h => absurd h (Nat.not_lt.2 HQ.out)) (.int .i64 (m0 % 1024)))
    go_wp2
    go_roundg G
    case measure => omega
    case rel => exact ⟨1, m0 % 1024, m1, m2, m3, m4, by omega, by go_num, HBS, hid (fun _ => ⟨by omega, by omega⟩), hid (fun h => absurd h (by omega)), hid (fun h => absurd h (by omega)), hid (fun h => absurd h (by omega)), hid (fun h => absurd h (by omega)), TS.out⟩
  · subst hj1
    have c0 : wr.cell? ⟨q3, 1, none⟩ = some (.int .i64 m1) := cell_of HB.out 1 (show 1 < 18 by decide)
    have f0 := free_of (i := 1) HB.out
    obtain ⟨G, rfl⟩ : ∃ G, gk = G + 1 := ⟨gk - 1, by omega⟩
    have hand := and1023 m1
    have HBS := hid (show (wr.setCell ⟨q3, 1, none⟩ (.int .i64 (m1 % 1024))).heap[q3]? = some (.cells (vals m0 (m1 % 1024) m2 m3 m4 b0 b1 b2 b3 b4 b5 b6 b7 b8 b9 s0 s1 s2) 50 (0, 0)) from block_set HB.out 1 _)
    have TS := hid (TW.out.setCell (p := ⟨q3, 1, none⟩) (fun h => absurd h (Nat.not_lt.2 HQ.out)) (.int .i64 (m1 % 1024)))
    go_wp2
    go_roundg G
    case measure => omega
    case rel => exact ⟨2, m0, m1 % 1024, m2, m3, m4, by omega, by go_num, HBS, hid (fun _ => R0.out (by omega)), hid (fun _ => ⟨by omega, by omega⟩), hid (fun h => absurd h (by omega)), hid (fun h => absurd h (by omega)), hid (fun h => absurd h (by omega)), TS.out⟩
  · subst hj2
    have c0 : wr.cell? ⟨q3, 2, none⟩ = some (.int .i64 m2) := cell_of HB.out 2 (show 2 < 18 by decide)
    have f0 := free_of (i := 2) HB.out
    obtain ⟨G, rfl⟩ : ∃ G, gk = G + 1 := ⟨gk - 1, by omega⟩
    have hand := and1023 m2
    have HBS := hid (show (wr.setCell ⟨q3, 2, none⟩ (.int .i64 (m2 % 1024))).heap[q3]? = some (.cells (vals m0 m1 (m2 % 1024) m3 m4 b0 b1 b2 b3 b4 b5 b6 b7 b8 b9 s0 s1 s2) 50 (0, 0)) from block_set HB.out 2 _)
    have TS := hid (TW.out.setCell (p := ⟨q3, 2, none⟩) (fun h => absurd h (Nat.not_lt.2 HQ.out)) (.int .i64 (m2 % 1024)))
    go_wp2
    go_roundg G
    case measure => omega
    case rel => exact ⟨3, m0, m1, m2 % 1024, m3, m4, by omega, by go_num, HBS, hid (fun _ => R0.out (by omega)), hid (fun _ => R1.out (by omega)), hid (fun _ => ⟨by omega, by omega⟩), hid (fun h => absurd h (by omega)), hid (fun h => absurd h (by omega)), TS.out⟩
  · subst hj3
    have c0 : wr.cell? ⟨q3, 3, none⟩ = some (.int .i64 m3) := cell_of HB.out 3 (show 3 < 18 by decide)
    have f0 := free_of (i := 3) HB.out
    obtain ⟨G, rfl⟩ : ∃ G, gk = G + 1 := ⟨gk - 1, by omega⟩
    have hand := and1023 m3
    have HBS := hid (show (wr.setCell ⟨q3, 3, none⟩ (.int .i64 (m3 % 1024))).heap[q3]? = some (.cells (vals m0 m1 m2 (m3 % 1024) m4 b0 b1 b2 b3 b4 b5 b6 b7 b8 b9 s0 s1 s2) 50 (0, 0)) from block_set HB.out 3 _)
    have TS := hid (TW.out.setCell (p := ⟨q3, 3, none⟩) (fun h => absurd h (Nat.not_lt.2 HQ.out)) (.int .i64 (m3 % 1024)))
    go_wp2
    go_roundg G
    case measure => omega
    case rel => exact ⟨4, m0, m1, m2, m3 % 1024, m4, by omega, by go_num, HBS, hid (fun _ => R0.out (by omega)), hid (fun _ => R1.out (by omega)), hid (fun _ => R2.out (by omega)), hid (fun _ => ⟨by omega, by omega⟩), hid (fun h => absurd h (by omega)), TS.out⟩
  · subst hj4
    have c0 : wr.cell? ⟨q3, 4, none⟩ = some (.int .i64 m4) := cell_of HB.out 4 (show 4 < 18 by decide)
    have f0 := free_of (i := 4) HB.out
    obtain ⟨G, rfl⟩ : ∃ G, gk = G + 1 := ⟨gk - 1, by omega⟩
    have hand := and1023 m4
    have HBS := hid (show (wr.setCell ⟨q3, 4, none⟩ (.int .i64 (m4 % 1024))).heap[q3]? = some (.cells (vals m0 m1 m2 m3 (m4 % 1024) b0 b1 b2 b3 b4 b5 b6 b7 b8 b9 s0 s1 s2) 50 (0, 0)) from block_set HB.out 4 _)
    have TS := hid (TW.out.setCell (p := ⟨q3, 4, none⟩) (fun h => absurd h (Nat.not_lt.2 HQ.out)) (.int .i64 (m4 % 1024)))
    go_wp2
    go_roundg G
    case measure => omega
    case rel => exact ⟨5, m0, m1, m2, m3, m4 % 1024, by omega, by go_num, HBS, hid (fun _ => R0.out (by omega)), hid (fun _ => R1.out (by omega)), hid (fun _ => R2.out (by omega)), hid (fun _ => R3.out (by omega)), hid (fun _ => ⟨by omega, by omega⟩), TS.out⟩
  subst hj5
  have r0 := R0.out (by decide)
  have r1 := R1.out (by decide)
  have r2 := R2.out (by decide)
  have r3 := R3.out (by decide)
  have r4 := R4.out (by decide)
  clear R0 R1 R2 R3 R4
  have HRV := hid (vals_rnv m0 m1 m2 m3 m4 b0 b1 b2 b3 b4 b5 b6 b7 b8 b9 s0 s1 s2 ⟨by omega, by omega⟩ ⟨by omega, by omega⟩ ⟨by omega, by omega⟩ ⟨by omega, by omega⟩ ⟨by omega, by omega⟩)
  have HOKV := hid (ok_of m0 m1 m2 m3 m4 b0 b1 b2 b3 b4 b5 b6 b7 b8 b9 s0 s1 s2 (by omega) (by omega) (by omega) (by omega) (by omega))
  have KSH := hid (fun W h => show_any m0 m1 m2 m3 m4 b0 b1 b2 b3 b4 b5 b6 b7 b8 b9 s0 s1 s2 ⟨by omega, by omega⟩ ⟨by omega, by omega⟩ ⟨by omega, by omega⟩ ⟨by omega, by omega⟩ ⟨by omega, by omega⟩ z0 z1 z2 W h)
  have KOP := hid (fun W => options_any m0 m1 m2 m3 m4 b0 b1 b2 b3 b4 b5 b6 b7 b8 b9 s0 s1 s2 W)
  have KPK := hid (fun ps hn hm hok hle B hB hs W hW => parse_keys m0 m1 m2 m3 m4 b0 b1 b2 b3 b4 b5 b6 b7 b8 b9 s0 s1 s2 ps hn hm hok hle B hB hs W hW)
  have HSAME := hid (opts_same m0 m1 m2 m3 m4 b0 b1 b2 b3 b4 b5 b6 b7 b8 b9 s0 s1)
  clear r0 r1 r2 r3 r4
  have c15 : wr.cell? ⟨q3, 15, none⟩ = some (.string s0) := cell_of HB.out 15 (show 15 < 18 by decide)
  have c16 : wr.cell? ⟨q3, 16, none⟩ = some (.string s1) := cell_of HB.out 16 (show 16 < 18 by decide)
  have c17 : wr.cell? ⟨q3, 17, none⟩ = some (.string s2) := cell_of HB.out 17 (show 17 < 18 by decide)
  by_cases hsum : 65536 < s0.size + s1.size + s2.size
  · have hsI : (65536 : Int) < (s0.size : Int) + (s1.size : Int) + (s2.size : Int) := by omega
    go_wp2
    go_ret
    exact ⟨rfl, TW.out.below _ (Nat.le_refl _) (fun _ e => e.elim)⟩
  have hsI : ¬ ((65536 : Int) < (s0.size : Int) + (s1.size : Int) + (s2.size : Int)) := by omega
  have HLEN := hid (show ∀ k, k < 18 → (tellV ((vf (vals m0 m1 m2 m3 m4 b0 b1 b2 b3 b4 b5 b6 b7 b8 b9 s0 s1 s2)) k)).length ≤ 65536 from fun k hk => tell_len HRV.out k hk 65536 (by decide) (match k, hk with
      | 0, _ => fun s e => by cases e
      | 1, _ => fun s e => by cases e
      | 2, _ => fun s e => by cases e
      | 3, _ => fun s e => by cases e
      | 4, _ => fun s e => by cases e
      | 5, _ => fun s e => by cases e
      | 6, _ => fun s e => by cases e
      | 7, _ => fun s e => by cases e
      | 8, _ => fun s e => by cases e
      | 9, _ => fun s e => by cases e
      | 10, _ => fun s e => by cases e
      | 11, _ => fun s e => by cases e
      | 12, _ => fun s e => by cases e
      | 13, _ => fun s e => by cases e
      | 14, _ => fun s e => by cases e
      | 15, _ => fun s e => by cases e; omega
      | 16, _ => fun s e => by cases e; omega
      | 17, _ => fun s e => by cases e; omega
      | k + 18, h => absurd h (by omega)))
  obtain ⟨V, hV⟩ : ∃ V, V = (vf (vals m0 m1 m2 m3 m4 b0 b1 b2 b3 b4 b5 b6 b7 b8 b9 s0 s1 s2)) := ⟨_, rfl⟩
  rw [← hV] at HRV HOKV KSH KPK HLEN
  clear hV
  obtain ⟨ps, hps⟩ : ∃ ps, ps = shK V (List.range 18) := ⟨_, rfl⟩
  have HM := hid (show ∀ k, k ∈ ps ↔ k < 18 ∧ tellV (V k) ≠ [] from fun k => by rw [hps]; exact shK_mem V k)
  have HN := hid (show ps.Nodup from by rw [hps]; exact shK_nodup V)
  obtain ⟨ls, hls⟩ : ∃ ls, ls = shP V ps := ⟨_, rfl⟩
  have HSL := hid (show shL V 18 = ls by rw [hls, hps]; rfl)
  have HLS := hid hls
  have hpl : ps.length ≤ 18 := by
    rw [hps]
    exact Nat.le_trans (List.length_filter_le _ _) (by simp)
  have HLL := hid (show ls.length = 2 * ps.length by rw [hls]; exact shP_len V ps)
  have HLE := hid (show ∀ t ∈ ls, t.length ≤ 65536 from fun t ht => by
    rw [hls] at ht
    unfold shP at ht
    obtain ⟨k, hk, h⟩ := List.mem_flatMap.1 ht
    have h1 := (HM.out k).1 hk
    have h2 := word_len k h1.1
    have h3 := HLEN.out k h1.1
    simp only [List.mem_cons, List.not_mem_nil, or_false] at h
    rcases h with rfl | rfl
    · omega
    · exact h3)
  have HWT := hid (show wt ls ≤ 1200000 by
    have := wt_shL 65536 HLEN.out 18 (Nat.le_refl _)
    rw [HSL.out] at this
    omega)
  rw [HSL.out] at KSH
  obtain ⟨X, hX, hXs, hXd⟩ := name_ba (packL ls)
  rw [hX] at KSH
  have hXb : X.size ≤ 1200000 := by
    have h1 := wt_pack ls
    have h2 := HWT.out
    omega
  have HXD := hid hXd
  clear hps hls hX hXs hXd HSL hsum
  go_upto_region 9 with fail
  clear z0 z1 z2 c15 c16 hsI
  have SW := hid (show wr.drew.heap[q3]? = some (.cells (vals m0 m1 m2 m3 m4 b0 b1 b2 b3 b4 b5 b6 b7 b8 b9 s0 s1 s2) 50 (0, 0)) from HB.out)
  refine wp_region_held (S := fun w' => w'.heap[q3]? = some (.cells (vals m0 m1 m2 m3 m4 b0 b1 b2 b3 b4 b5 b6 b7 b8 b9 s0 s1 s2) 50 (0, 0))) mixed ?_
  change wpAnyH _ _ _ _ _ _ _ _ wr.drew
  refine takeD (i := 0) (v := .agg (vals m0 m1 m2 m3 m4 b0 b1 b2 b3 b4 b5 b6 b7 b8 b9 s0 s1 s2)) (some 52) rfl (by kernel_rfl) (by kernel_rfl) (by kernel_rfl) (fun _ _ _ h => h) (yieldsIf_load_mid (by kernel_rfl) 50 (.tmp 3) (by kernel_rfl) q3 0 (by kernel_rfl) (vals m0 m1 m2 m3 m4 b0 b1 b2 b3 b4 b5 b6 b7 b8 b9 s0 s1 s2).toList _ (fun w h => range_of h) Tryd.underlying50 rfl (vals50 ..)) SW.out (by kernel_rfl) ?_
  refine takeD (i := 2) (v := .pointer (some ⟨q3, 15, none⟩)) (some 54) rfl (by kernel_rfl) (by kernel_rfl) (by kernel_rfl) (fun _ _ _ h => h) (.inl ⟨by kernel_rfl, fun w' hS => ?_⟩) SW.out (by kernel_rfl) ?_
  · go_simp
  refine takeD (i := 3) (v := .pointer (some ⟨q3, 17, none⟩)) (some 55) rfl (by kernel_rfl) (by kernel_rfl) (by kernel_rfl) (fun _ _ _ h => h) (.inl ⟨by kernel_rfl, fun w' hS => ?_⟩) SW.out (by kernel_rfl) ?_
  · go_simp
  refine takeD (i := 4) (v := .string s2) (some 56) rfl (by kernel_rfl) (by kernel_rfl) (by kernel_rfl) (fun _ _ _ h => h) (.inl ⟨by kernel_rfl, fun w' hS => ?_⟩) SW.out (by kernel_rfl) ?_
  · have s0' : w'.cell? ⟨q3, 17, none⟩ = some (.string s2) := cell_of hS 17 (show 17 < 18 by decide)
    clear hS
    go_simp
  refine wpAnyH_ready (rs := [1]) (by kernel_rfl) (by simp) ?_
  refine AllReadyH.callD (some 53) rfl (by kernel_rfl) 15 #[.tmp 52] #[50] (by kernel_rfl) #[.agg (vals m0 m1 m2 m3 m4 b0 b1 b2 b3 b4 b5 b6 b7 b8 b9 s0 s1 s2)] (by kernel_rfl) (fun _ _ => by kernel_rfl) (fun v w' => v = .agg (opts m0 m1 m2 m3 m4 b0 b1 b2 b3 b4 b5 b6 b7 b8 b9 s0 s1) ∧ Touch (fun _ => False) wr.drew w') ((KOP.out wr.drew).mono (fun e w' h => ⟨_, h.1, rfl, h.2⟩)) (by kernel_rfl) ?_ AllReadyH.nil
  rintro v w5 ⟨rfl, t5⟩
  have B5 := hid ((t5.block q3 (lt_of_block SW.out) id).trans SW.out)
  have T5 := hid (TW.out.drew.trans t5 (fun _ _ e => e))
  refine ⟨B5.out, ?_⟩
  refine wpAnyH_ready (rs := [5]) (by kernel_rfl) (by simp) ?_
  refine AllReadyH.callD (some 57) rfl (by kernel_rfl) 16 #[.tmp 53, .tmp 56] #[39, 9] (by kernel_rfl) #[.agg (opts m0 m1 m2 m3 m4 b0 b1 b2 b3 b4 b5 b6 b7 b8 b9 s0 s1), .string s2] (by kernel_rfl) (fun _ _ => by kernel_rfl) (fun v w' => v = .string X ∧ Touch (fun _ => False) w5 w') ((KSH.out w5 (HX.out.new T5.out)).mono (fun e w' h => ⟨_, h.1, rfl, h.2⟩)) (by kernel_rfl) ?_ AllReadyH.nil
  rintro v w6 ⟨rfl, t6⟩
  have B6 := hid ((t6.block q3 (lt_of_block B5.out) id).trans B5.out)
  have T6 := hid (T5.out.trans t6 (fun _ _ e => e))
  refine ⟨B6.out, ?_⟩
  clear t5 t6 B5 T5 SW HB TW KSH
  refine takeD (i := 6) (v := .string X) (some 8) rfl (by kernel_rfl) (by kernel_rfl) (by kernel_rfl) (fun _ _ _ h => h) (.inl ⟨by kernel_rfl, fun w' hS => ?_⟩) B6.out (by kernel_rfl) ?_
  · go_simp
  refine wpAnyH_done (by kernel_rfl) ?_ _
  have HUN := hid (show un X.data.toList = .ok ls from by rw [HXD.out]; exact un_pack_all ls (fun t ht => Nat.le_trans (HLE.out t ht) (by decide)))
  have K10 := hid (unpack_any X w6 (by omega) (HX.out.new T6.out))
  rw [HUN.out] at K10
  unfold faE faA okL at K10
  dsimp only at K10
  clear HUN c17
  go_wp2_with fail
  refine K10.out.mono ?_
  rintro e w7 ⟨v7, rfl, ow7⟩
  have N8 := hid (ow7.nl.new ((Touch.refl _ _).alloc (.cells #[.int .i64 0, .int .i64 0] 27)))
  obtain ⟨a7, c7, hv7⟩ := own_shape ow7.own
  subst hv7
  have HA7 := hid (show ∀ a, a7 = some a → a.block < w7.heap.size from fun a e => by
    have h := ow7.own
    rw [e] at h
    exact own_block h)
  have T8 := hid ((T6.out.trans ow7.touch (fun _ _ e => e)).alloc (.cells #[.int .i64 0, .int .i64 0] 27))
  have B8 := hid ((((ow7.touch.alloc (.cells #[.int .i64 0, .int .i64 0] 27)).block q3 (lt_of_block B6.out) id)).trans B6.out)
  have L78 := hid (show w7.heap.size ≤ (w7.alloc (.cells #[.int .i64 0, .int .i64 0] 27)).heap.size from ((Touch.refl (fun _ => False) w7).alloc (.cells #[.int .i64 0, .int .i64 0] 27)).size)
  clear ow7 K10 B6 T6
  have hl18 : ls.length ≤ 36 := by have := HLL.out; omega
  obtain ⟨len, hlen⟩ : ∃ len, len = ls.length := ⟨_, rfl⟩
  rw [← hlen] at HLL hl18 ⊢
  have HLN := hid hlen
  clear hlen
  go_upto_region 11 with fail
  generalize w7.alloc (.cells #[.int .i64 0, .int .i64 0] 27) = w8 at *
  have HLT := hid (show ∀ j, j < ps.length → ls[2 * j]? = some (wordB (ps.getD j 0)) ∧ ls[2 * j + 1]? = some (tellV (V (ps.getD j 0))) from fun j hj => by
    have := shP_get V ps j hj
    rw [HLS.out, List.getD_eq_getElem?_getD, List.getElem?_eq_getElem hj]
    exact this)
  have HBK := hid (show ∀ j, j < ps.length → shP V (ps.drop j).reverse = shP V (ps.drop (j + 1)).reverse ++ [wordB (ps.getD j 0), tellV (V (ps.getD j 0))] from fun j hj => by
    have := shP_back V ps j hj
    rw [List.getD_eq_getElem?_getD, List.getElem?_eq_getElem hj]
    exact this)
  have HBL := hid (show ∀ j, (shP V (ps.drop j).reverse).length ≤ 36 from fun j => by
    rw [shP_len, List.length_reverse, List.length_drop]
    omega)
  obtain ⟨n, hn⟩ : ∃ n, n = ps.length := ⟨_, rfl⟩
  rw [← hn] at HLL hpl HLT HBK
  have HNN := hid hn
  clear hn
  have hbeg : (len : Int) - 2 = 2 * (n : Int) - 2 := by have := HLL.out; omega
  go_wp2_with fail
  go_loopg [11, 12] (n + 1) (fun gk v11 v12 wr => ∃ j : Nat, j + 1 = gk ∧ j ≤ n ∧ v12 = .int .i64 (2 * (j : Int) - 2) ∧ OwS w8 wr v11 (shP V (ps.drop j).reverse) ∧ Touch (fun _ => False) w wr)
  case atStart => exact ⟨n, rfl, Nat.le_refl _, rfl, by rw [HNN.out, List.drop_length]; exact OwS.nil _, T8.out⟩
  case round =>
  obtain ⟨j, hjg, hjn, rfl, hown, htw⟩ := hrel
  have OW := hid hown
  have TW := hid htw
  obtain ⟨a11, c11, hv11⟩ := own_shape hown.own
  subst hv11
  have hbl := HBL.out j
  obtain ⟨tl, htl⟩ : ∃ tl, tl = shP V (ps.drop j).reverse := ⟨_, rfl⟩
  rw [← htl] at OW hbl ⊢
  have HTL := hid htl
  clear hown htw htl
  cases j with
  | succ J =>
    have hJn : J < n := by omega
    obtain ⟨g1, g2⟩ := HLT.out J hJn
    have HBJ := hid (HBK.out J hJn)
    obtain ⟨x, hxd⟩ : ∃ x, x = wordB (ps.getD J 0) := ⟨_, rfl⟩
    obtain ⟨y, hyd⟩ : ∃ y, y = tellV (V (ps.getD J 0)) := ⟨_, rfl⟩
    rw [← hxd] at g1 HBJ
    rw [← hyd] at g2 HBJ
    obtain ⟨i0n, hi0⟩ : ∃ i0n, i0n = 2 * J := ⟨_, rfl⟩
    obtain ⟨i1n, hi1⟩ : ∃ i1n, i1n = i0n + 1 := ⟨_, rfl⟩
    rw [← hi0] at g1 g2
    rw [← hi1] at g2
    have hiL : i1n < len := by have := HLL.out; omega
    have hiI : (2 * ((J + 1 : Nat) : Int) - 2) = (i0n : Int) := by omega
    have hnx : (i0n : Int) - 2 = 2 * (J : Int) - 2 := by omega
    have hi1I : (i0n : Int) + 1 = (i1n : Int) := by omega
    have hw1 : IntKind.i64.wrap (i1n : Int) = (i1n : Int) := by rw [IntKind.wrap_i64]; omega
    rw [hiI]
    have hge : (0 : Int) ≤ (i0n : Int) := by omega
    have hi0L : (i0n : Int) < (len : Int) := by omega
    have hi1L : (i1n : Int) < (len : Int) := by omega
    have NW := hid (N8.out.new OW.out.touch)
    obtain ⟨l1, e1⟩ := List.getElem?_eq_some_iff.1 g1
    obtain ⟨l2, e2⟩ := List.getElem?_eq_some_iff.1 g2
    obtain ⟨bb, oo, hAe, hcx⟩ := nl_at NW.out i0n l1
    obtain ⟨bb', oo', hAe', hcy⟩ := nl_at NW.out i1n l2
    rw [hAe] at hAe'
    simp only [Option.some.injEq, Addr.mk.injEq, and_true] at hAe'
    obtain ⟨rfl, rfl⟩ := hAe'
    subst hAe
    obtain ⟨XB, hXB, _, hXBd⟩ := name_ba x
    obtain ⟨YB, hYB, _, hYBd⟩ := name_ba y
    rw [e1, hXB] at hcx
    rw [e2, hYB] at hcy
    have HX2 := hid hXBd
    have HY2 := hid hYBd
    have HI0 := hid hi0
    clear hi0 hi1 hiI g1 g2 e1 e2 l1 l2 hXB hYB hXBd hYBd hxd hyd NW
    go_upto_region 15 with fail
    have SW := hid (show (fun w' : World => w'.cell? ⟨bb, oo + i0n, none⟩ = some (.string XB) ∧ w'.cell? ⟨bb, oo + i1n, none⟩ = some (.string YB)) wr.drew from ⟨hcx, hcy⟩)
    have OWd := hid (OW.out.still (Touch.refl (fun _ => False) wr).drew)
    refine wp_region_held (S := fun w' => w'.cell? ⟨bb, oo + i0n, none⟩ = some (.string XB) ∧ w'.cell? ⟨bb, oo + i1n, none⟩ = some (.string YB)) mixed ?_
    change wpAnyH _ _ _ _ _ _ _ _ wr.drew
    refine takeD (i := 0) (v := .slice a11 tl.length c11) (some 70) rfl (by kernel_rfl) (by kernel_rfl) (by kernel_rfl) (fun _ _ _ h => h) (.inl ⟨by kernel_rfl, fun w' hS => ?_⟩) SW.out (by kernel_rfl) ?_
    · go_simp
    refine takeD (i := 1) (v := .slice (some ⟨bb, oo, none⟩) len c7) (some 71) rfl (by kernel_rfl) (by kernel_rfl) (by kernel_rfl) (fun _ _ _ h => h) (.inl ⟨by kernel_rfl, fun w' hS => ?_⟩) SW.out (by kernel_rfl) ?_
    · go_simp
    refine takeD (i := 2) (v := .int .i64 (i0n : Nat)) (some 72) rfl (by kernel_rfl) (by kernel_rfl) (by kernel_rfl) (fun _ _ _ h => h) (.inl ⟨by kernel_rfl, fun w' hS => ?_⟩) SW.out (by kernel_rfl) ?_
    · go_simp
    refine takeD (i := 3) (v := .pointer (some ⟨bb, oo + i0n, none⟩)) (some 73) rfl (by kernel_rfl) (by kernel_rfl) (by kernel_rfl) (fun _ _ _ h => h) (.inl ⟨by kernel_rfl, fun w' hS => ?_⟩) SW.out (by kernel_rfl) ?_
    · go_simp
    refine takeD (i := 4) (v := .string XB) (some 74) rfl (by kernel_rfl) (by kernel_rfl) (by kernel_rfl) (fun _ _ _ h => h) (.inl ⟨by kernel_rfl, fun w' hS => ?_⟩) SW.out (by kernel_rfl) ?_
    · have s1 := hS.1
      clear hS
      go_simp
    refine takeD (i := 5) (v := .slice (some ⟨bb, oo, none⟩) len c7) (some 75) rfl (by kernel_rfl) (by kernel_rfl) (by kernel_rfl) (fun _ _ _ h => h) (.inl ⟨by kernel_rfl, fun w' hS => ?_⟩) SW.out (by kernel_rfl) ?_
    · go_simp
    refine takeD (i := 6) (v := .int .i64 (i0n : Nat)) (some 76) rfl (by kernel_rfl) (by kernel_rfl) (by kernel_rfl) (fun _ _ _ h => h) (.inl ⟨by kernel_rfl, fun w' hS => ?_⟩) SW.out (by kernel_rfl) ?_
    · go_simp
    refine takeD (i := 7) (v := .int .i64 (i1n : Nat)) (some 77) rfl (by kernel_rfl) (by kernel_rfl) (by kernel_rfl) (fun _ _ _ h => h) (.inl ⟨by kernel_rfl, fun w' hS => ?_⟩) SW.out (by kernel_rfl) ?_
    · go_simp
    refine takeD (i := 8) (v := .pointer (some ⟨bb, oo + i1n, none⟩)) (some 78) rfl (by kernel_rfl) (by kernel_rfl) (by kernel_rfl) (fun _ _ _ h => h) (.inl ⟨by kernel_rfl, fun w' hS => ?_⟩) SW.out (by kernel_rfl) ?_
    · go_simp
    refine takeD (i := 9) (v := .string YB) (some 79) rfl (by kernel_rfl) (by kernel_rfl) (by kernel_rfl) (fun _ _ _ h => h) (.inl ⟨by kernel_rfl, fun w' hS => ?_⟩) SW.out (by kernel_rfl) ?_
    · have s1 := hS.2
      clear hS
      go_simp
    refine wpAnyH_ready (rs := [10]) (by kernel_rfl) (by simp) ?_
    have SA := hid (show (fun w' : World => w'.cell? ⟨bb, oo + i0n, none⟩ = some (.string XB) ∧ w'.cell? ⟨bb, oo + i1n, none⟩ = some (.string YB)) (wr.drew.alloc (.cells #[.string XB, .string YB] 9)) from ⟨cell?_alloc_some _ SW.out.1, cell?_alloc_some _ SW.out.2⟩)
    refine AllReadyH.runD (some 80) rfl (by kernel_rfl) (.slice (some ⟨wr.heap.size, 0, none⟩) 2 2) (wr.drew.alloc (.cells #[.string XB, .string YB] 9)) ?_ SA.out (by kernel_rfl) ?_ AllReadyH.nil
    · go_simp
    refine wpAnyH_ready (rs := [11]) (by kernel_rfl) (by simp) ?_
    refine AllReadyH.append (some 81) rfl (by kernel_rfl) (.tmp 70) (.tmp 80) 24 (by kernel_rfl) 0 9 i0 (.string ⟨#[]⟩) 1 16 Tryd.underlying24 hi hz0 hz1 hz2 rfl (by decide) (.slice a11 tl.length c11) tl.length (tl.map sv) (by kernel_rfl) (OWd.out.own.alloc _) ⟨wr.heap.size, 0, none⟩ 2 2 [.string XB, .string YB] (by kernel_rfl) rfl (row_new wr.drew [.string XB, .string YB] 9) (by intro u hu; simp at hu; rcases hu with rfl | rfl <;> rfl) (by unfold maxLen; omega) (by omega) (Nat.zero_le _) (by kernel_rfl) ?_ AllReadyH.nil
    intro v4 w4 hown hgrow _ hat
    have P4 := hid (OWd.out.more (xs := [XB.data.toList, YB.data.toList]) hown hgrow (hat.imp id (fun e => e.trans (by show some (wr.heap.push _).size = _; simp))))
    have TG := hid (((Touch.refl (fun _ => False) w8).trans OWd.out.touch (fun _ _ e => e)).alloc (.cells #[.string XB, .string YB] 9) |>.grown hgrow (fun k e hk => by have := OWd.out.new k e; omega))
    have HBN := hid (show bb < w8.heap.size from by have h1 := HA7.out _ rfl; have h2 := L78.out; exact Nat.lt_of_lt_of_le h1 h2)
    have c4x := hid ((TG.out.cell (p := ⟨bb, oo + i0n, none⟩) HBN.out id).trans (((OWd.out.touch.cell (p := ⟨bb, oo + i0n, none⟩) HBN.out id)).symm.trans SW.out.1))
    have c4y := hid ((TG.out.cell (p := ⟨bb, oo + i1n, none⟩) HBN.out id).trans (((OWd.out.touch.cell (p := ⟨bb, oo + i1n, none⟩) HBN.out id)).symm.trans SW.out.2))
    refine ⟨⟨c4x.out, c4y.out⟩, ?_⟩
    clear hown hgrow hat
    obtain ⟨a4, k4, hv4⟩ := own_shape P4.out.own
    subst hv4
    refine takeD (i := 12) (v := .slice a4 (tl ++ [XB.data.toList, YB.data.toList]).length k4) (some 11) rfl (by kernel_rfl) (by kernel_rfl) (by kernel_rfl) (fun _ _ _ h => h) (.inl ⟨by kernel_rfl, fun w' hS => ?_⟩) ⟨c4x.out, c4y.out⟩ (by kernel_rfl) ?_
    · go_simp
    refine wpAnyH_done (by kernel_rfl) ?_ _
    have TW4 := hid (T8.out.trans P4.out.touch (fun _ _ e => e))
    have HTN := hid (show shP V (ps.drop J).reverse = tl ++ [XB.data.toList, YB.data.toList] by rw [HBJ.out, HX2.out, HY2.out, HTL.out])
    obtain ⟨tn, htn⟩ : ∃ tn, tn = tl ++ [XB.data.toList, YB.data.toList] := ⟨_, rfl⟩
    rw [← htn] at P4 HTN ⊢
    clear htn hcx hcy SW SA OWd OW TW
    go_wp2
    go_roundg (J + 1)
    case measure => omega
    case rel => exact ⟨J, rfl, by omega, rfl, by rw [HTN.out]; exact P4.out, TW4.out⟩
  | zero =>
    rw [show (2 * ((0 : Nat) : Int) - 2) = -2 from by decide]
    rw [List.drop_zero] at HTL
    have TWz := hid TW.out
    have B9 := hid ((OW.out.touch.block q3 (lt_of_block B8.out) id).trans B8.out)
    have N9 := hid (N8.out.new OW.out.touch)
    have HA9 := hid (show ∀ a, a7 = some a → a.block < wr.heap.size from fun a e => Nat.lt_of_lt_of_le (HA7.out a e) (Nat.le_trans L78.out OW.out.touch.size))
    have HTLE := hid (show ∀ t ∈ shP V ps.reverse, t.length ≤ 9999999 from shP_le V ps.reverse (fun k hk => by
      have h1 := (HM.out k).1 (List.mem_reverse.1 hk)
      exact ⟨h1.1, Nat.le_trans (HLEN.out k h1.1) (by decide)⟩))
    have hwtl : wt tl ≤ 5000000 := by
      have hw : ∀ l : List Bs, (∀ t ∈ l, t.length ≤ 65536) → wt l ≤ l.length * 65600 := fun l => by
        induction l with
        | nil => intro _; exact Nat.zero_le _
        | cons t l ih =>
          intro h
          have h1 := ih (fun u hu => h u (List.mem_cons_of_mem _ hu))
          have h2 := h t List.mem_cons_self
          rw [wt, List.length_cons, Nat.succ_mul]
          omega
      have := hw tl (fun t ht => by
        rw [HTL.out] at ht
        refine HLE.out t ?_
        rw [HLS.out]
        unfold shP at ht ⊢
        obtain ⟨k, hk, h⟩ := List.mem_flatMap.1 ht
        exact List.mem_flatMap.2 ⟨k, List.mem_reverse.1 hk, h⟩)
      omega
    obtain ⟨PT, hPT, hPTs, hPTd⟩ := name_ba (packL tl)
    have hPTb : PT.size ≤ 5000000 := by
      have := wt_pack tl
      omega
    have K9 := hid (pack_any _ tl wr OW.out.nl (HX.out.new TW.out) (by omega))
    rw [hPT] at K9
    have K13 := hid (fun W hW => KPK.out ps.reverse (List.pairwise_reverse.2 (List.Pairwise.imp (fun h => Ne.symm h) HN.out)) (fun k => by rw [List.mem_reverse]; exact HM.out k) HOKV.out HTLE.out PT (by rw [hPTd, HTL.out]) (by omega) W hW)
    clear hPT hPTs hPTd KPK hwtl
    have HPL := hid hpl
    have HL18 := hid hl18
    clear hbl hbeg hjg hjn hpl hl18
    go_wp2_with fail
    refine K9.out.mono ?_
    rintro e w9 ⟨rfl, t9⟩
    have T9 := hid (TWz.out.trans t9 (fun _ _ e => e))
    have TT9 := hid t9
    clear t9 K9 OW TW TWz
    go_wp2_with fail
    refine (K13.out w9 (HX.out.new T9.out)).mono ?_
    rintro e wa ⟨rfl, ta⟩
    have TA := hid (T9.out.trans ta (fun _ _ e => e))
    have TTA := hid (TT9.out.trans ta (fun _ _ e => e))
    have Ba := hid ((TTA.out.block q3 (lt_of_block B9.out) id).trans B9.out)
    have NA := hid (N9.out.new TTA.out)
    have HAA := hid (show ∀ a, a7 = some a → a.block < wa.heap.size from fun a e => Nat.lt_of_lt_of_le (HA9.out a e) TTA.out.size)
    have TT := hid (((Touch.refl (fun _ => False) wa).alloc (.cells z17 39)).alloc (.cells #[.int .i64 0, .int .i64 0] 27))
    have La := hid (show q3 < wa.heap.size ∧ w.heap.size ≤ wa.heap.size from ⟨lt_of_block Ba.out, TA.out.size⟩)
    have B7 := hid (show ((wa.alloc (.cells z17 39)).alloc (.cells #[.int .i64 0, .int .i64 0] 27)).heap[wa.heap.size]? = some (.cells z17 39 (0, 0)) from by
      rw [Below.heap_alloc _ _ _ (by show _ < (wa.heap.push _).size; simp)]
      show (wa.heap.push _)[_]? = _
      simp)
    have Bb := hid (show ((wa.alloc (.cells z17 39)).alloc (.cells #[.int .i64 0, .int .i64 0] 27)).heap[wa.heap.size + 1]? = some (.cells #[.int .i64 0, .int .i64 0] 27 (0, 0)) from by
      have := two_new (w := wa.alloc (.cells z17 39)) (.int .i64 0) (.int .i64 0) 27
      rw [show (wa.alloc (.cells z17 39)).heap.size = wa.heap.size + 1 from by show (wa.heap.push _).size = _; simp] at this
      exact this)
    have HC := hid (fin_r (qp := wa.heap.size) (cs := opts m0 m1 m2 m3 m4 b0 b1 b2 b3 b4 b5 b6 b7 b8 b9 s0 s1) Bb.out (Nat.lt_succ_self _))
    have F7 := hid (setRow_heap _ wa.heap.size _ (opts m0 m1 m2 m3 m4 b0 b1 b2 b3 b4 b5 b6 b7 b8 b9 s0 s1) 39 (0, 0) B7.out)
    have TS := hid ((TT.out.mono (S' := fun k => wa.heap.size ≤ k) (fun _ _ e => e.elim)).setRow (g := wa.heap.size) (fun _ => Nat.le_refl _) (opts m0 m1 m2 m3 m4 b0 b1 b2 b3 b4 b5 b6 b7 b8 b9 s0 s1))
    clear ta K13 T9 TT9 TTA B9 N9 HA9 N8 HA7 L78 B8 T8
    go_upto_region 17 with (first | (refine wpList_store_row (P := Tryd.prog) rfl 39 (.tmp 13) (.tmp 86) rfl wa.heap.size (opts m0 m1 m2 m3 m4 b0 b1 b2 b3 b4 b5 b6 b7 b8 b9 s0 s1) rfl rfl 39 z17 B7.out (opts_info ..) rfl (opts_one ..) ?_; change wpList _ _ _ _ _ (((wa.alloc (.cells z17 39)).alloc (.cells #[.int .i64 0, .int .i64 0] 27)).setRow wa.heap.size (opts m0 m1 m2 m3 m4 b0 b1 b2 b3 b4 b5 b6 b7 b8 b9 s0 s1)); clear B7 Bb; generalize ((wa.alloc (.cells z17 39)).alloc (.cells #[.int .i64 0, .int .i64 0] 27)).setRow wa.heap.size (opts m0 m1 m2 m3 m4 b0 b1 b2 b3 b4 b5 b6 b7 b8 b9 s0 s1) = wz at *; have g0 := cell_two0 HC.out; have g1 := cell_two1 HC.out; have gf0 := free_two (i := 0) HC.out; have gf1 := free_two (i := 1) HC.out) | fail)
    clear g0 g1 gf0 gf1
    have F9 := hid (fset HC.out (.int .i64 0) (.int .i64 0))
    have TZ := hid (((Touch.refl (fun k => k = wa.heap.size + 1) wz).setCell (p := ⟨wa.heap.size + 1, 0, none⟩) (fun _ => rfl) (.int .i64 0)).setCell (p := ⟨wa.heap.size + 1, 1, none⟩) (fun _ => rfl) (.int .i64 0))
    have TQ := hid (show Touch (fun _ => False) wa ((wz.setCell ⟨wa.heap.size + 1, 0, none⟩ (.int .i64 0)).setCell ⟨wa.heap.size + 1, 1, none⟩ (.int .i64 0)) from ((TS.out.trans (S' := fun k => k = wa.heap.size + 1) TZ.out (fun i hi e => by have e' : i = wa.heap.size + 1 := e; show wa.heap.size ≤ i; omega)).mono (fun i hi e => by have e' : wa.heap.size ≤ i := e; omega)))
    have F79 := hid ((TZ.out.block wa.heap.size (lt_of_block F7.out) (fun e => absurd e (by omega))).trans F7.out)
    generalize (wz.setCell ⟨wa.heap.size + 1, 0, none⟩ (.int .i64 0)).setCell ⟨wa.heap.size + 1, 1, none⟩ (.int .i64 0) = wb at *
    have F39 := hid ((TQ.out.block q3 La.out.1 id).trans Ba.out)
    have TB := hid (TA.out.trans TQ.out (fun _ _ e => e))
    have NB := hid (NA.out.new TQ.out)
    have HAB := hid (show ∀ a, a7 = some a → a.block < wb.heap.size from fun a e => Nat.lt_of_lt_of_le (HAA.out a e) TQ.out.size)
    clear TZ TS F7 HC TT La TQ NA HAA TA Ba
    generalize wa.heap.size = q13 at *
    have SW := hid (show (fun w' : World => w'.heap[q13]? = some (.cells (opts m0 m1 m2 m3 m4 b0 b1 b2 b3 b4 b5 b6 b7 b8 b9 s0 s1) 39 (0, 0)) ∧ w'.heap[q13 + 1]? = some (.cells #[.int .i64 0, .int .i64 0] 27 (0, 0)) ∧ w'.heap[q3]? = some (.cells (vals m0 m1 m2 m3 m4 b0 b1 b2 b3 b4 b5 b6 b7 b8 b9 s0 s1 s2) 50 (0, 0))) wb.drew from ⟨F79.out, F9.out, F39.out⟩)
    refine wp_region_held (S := fun w' => w'.heap[q13]? = some (.cells (opts m0 m1 m2 m3 m4 b0 b1 b2 b3 b4 b5 b6 b7 b8 b9 s0 s1) 39 (0, 0)) ∧ w'.heap[q13 + 1]? = some (.cells #[.int .i64 0, .int .i64 0] 27 (0, 0)) ∧ w'.heap[q3]? = some (.cells (vals m0 m1 m2 m3 m4 b0 b1 b2 b3 b4 b5 b6 b7 b8 b9 s0 s1 s2) 50 (0, 0))) mixed ?_
    change wpAnyH _ _ _ _ _ _ _ _ wb.drew
    refine takeD (i := 0) (v := .agg #[.int .i64 0, .int .i64 0]) (some 89) rfl (by kernel_rfl) (by kernel_rfl) (by kernel_rfl) (fun _ _ _ h => h) (.inl ⟨by kernel_rfl, fun w' hS => ?_⟩) SW.out (by kernel_rfl) ?_
    · have s0' := cell_two0 hS.2.1
      have s1' := cell_two1 hS.2.1
      clear hS
      go_simp
    refine takeD (i := 1) (v := .agg #[.int .i64 0, .int .i64 0]) (some 90) rfl (by kernel_rfl) (by kernel_rfl) (by kernel_rfl) (fun _ _ _ h => h) (.inl ⟨by kernel_rfl, fun w' hS => ?_⟩) SW.out (by kernel_rfl) ?_
    · go_simp
    refine takeD (i := 2) (v := .bool false) (some 91) rfl (by kernel_rfl) (by kernel_rfl) (by kernel_rfl) (fun _ _ _ h => h) (.inl ⟨by kernel_rfl, fun w' hS => ?_⟩) SW.out (by kernel_rfl) ?_
    · go_simp
    refine takeD (i := 3) (v := .bool false) (some 92) rfl (by kernel_rfl) (by kernel_rfl) (by kernel_rfl) (fun _ _ _ h => h) (.inl ⟨by kernel_rfl, fun w' hS => ?_⟩) SW.out (by kernel_rfl) ?_
    · go_simp
    refine takeD (i := 4) (v := .agg (opts m0 m1 m2 m3 m4 b0 b1 b2 b3 b4 b5 b6 b7 b8 b9 s0 s1)) (some 93) rfl (by kernel_rfl) (by kernel_rfl) (by kernel_rfl) (fun _ _ _ h => h) (yieldsIf_load_mid (by kernel_rfl) 39 (.tmp 13) (by kernel_rfl) q13 0 (by kernel_rfl) (opts m0 m1 m2 m3 m4 b0 b1 b2 b3 b4 b5 b6 b7 b8 b9 s0 s1).toList _ (fun w h => range_of h.1) Tryd.underlying39 rfl (opts_info ..)) SW.out (by kernel_rfl) ?_
    refine takeD (i := 5) (v := .agg (vals m0 m1 m2 m3 m4 b0 b1 b2 b3 b4 b5 b6 b7 b8 b9 s0 s1 s2)) (some 94) rfl (by kernel_rfl) (by kernel_rfl) (by kernel_rfl) (fun _ _ _ h => h) (yieldsIf_load_mid (by kernel_rfl) 50 (.tmp 3) (by kernel_rfl) q3 0 (by kernel_rfl) (vals m0 m1 m2 m3 m4 b0 b1 b2 b3 b4 b5 b6 b7 b8 b9 s0 s1 s2).toList _ (fun w h => range_of h.2.2) Tryd.underlying50 rfl (vals50 ..)) SW.out (by kernel_rfl) ?_
    refine wpAnyH_ready (rs := [6]) (by kernel_rfl) (by simp) ?_
    refine AllReadyH.callD (some 95) rfl (by kernel_rfl) 15 #[.tmp 94] #[50] (by kernel_rfl) #[.agg (vals m0 m1 m2 m3 m4 b0 b1 b2 b3 b4 b5 b6 b7 b8 b9 s0 s1 s2)] (by kernel_rfl) (fun _ _ => by kernel_rfl) (fun v w' => v = .agg (opts m0 m1 m2 m3 m4 b0 b1 b2 b3 b4 b5 b6 b7 b8 b9 s0 s1) ∧ Touch (fun _ => False) wb.drew w') ((KOP.out wb.drew).mono (fun e w' h => ⟨_, h.1, rfl, h.2⟩)) (by kernel_rfl) ?_ AllReadyH.nil
    rintro v wc ⟨rfl, tc⟩
    have TC0 := hid ((Touch.refl (fun _ => False) wb).drew.trans tc (fun _ _ e => e))
    have SC := hid (show (fun w' : World => w'.heap[q13]? = some (.cells (opts m0 m1 m2 m3 m4 b0 b1 b2 b3 b4 b5 b6 b7 b8 b9 s0 s1) 39 (0, 0)) ∧ w'.heap[q13 + 1]? = some (.cells #[.int .i64 0, .int .i64 0] 27 (0, 0)) ∧ w'.heap[q3]? = some (.cells (vals m0 m1 m2 m3 m4 b0 b1 b2 b3 b4 b5 b6 b7 b8 b9 s0 s1 s2) 50 (0, 0))) wc from ⟨(tc.block q13 (lt_of_block SW.out.1) id).trans SW.out.1, (tc.block (q13 + 1) (lt_of_block SW.out.2.1) id).trans SW.out.2.1, (tc.block q3 (lt_of_block SW.out.2.2) id).trans SW.out.2.2⟩)
    refine ⟨SC.out, ?_⟩
    clear tc SW F9 F79 F39
    refine takeD (i := 7) (v := .bool false) (some 96) rfl (by kernel_rfl) (by kernel_rfl) (by kernel_rfl) (fun _ _ _ h => h) (.inl ⟨by kernel_rfl, fun w' hS => ?_⟩) SC.out (by kernel_rfl) ?_
    · have s0' := HSAME.out
      go_simp
    refine takeD (i := 8) (v := .bool false) (some 97) rfl (by kernel_rfl) (by kernel_rfl) (by kernel_rfl) (fun _ _ _ h => h) (.inl ⟨by kernel_rfl, fun w' hS => ?_⟩) SC.out (by kernel_rfl) ?_
    · go_simp
    refine takeD (i := 9) (v := .bool false) (some 98) rfl (by kernel_rfl) (by kernel_rfl) (by kernel_rfl) (fun _ _ _ h => h) (.inl ⟨by kernel_rfl, fun w' hS => ?_⟩) SC.out (by kernel_rfl) ?_
    · go_simp
    refine takeD (i := 10) (v := .string s2) (some 99) rfl (by kernel_rfl) (by kernel_rfl) (by kernel_rfl) (fun _ _ _ h => h) (.inl ⟨by kernel_rfl, fun w' hS => ?_⟩) SC.out (by kernel_rfl) ?_
    · go_simp
    refine takeD (i := 11) (v := .pointer (some ⟨q3, 15, none⟩)) (some 100) rfl (by kernel_rfl) (by kernel_rfl) (by kernel_rfl) (fun _ _ _ h => h) (.inl ⟨by kernel_rfl, fun w' hS => ?_⟩) SC.out (by kernel_rfl) ?_
    · go_simp
    refine takeD (i := 12) (v := .pointer (some ⟨q3, 17, none⟩)) (some 101) rfl (by kernel_rfl) (by kernel_rfl) (by kernel_rfl) (fun _ _ _ h => h) (.inl ⟨by kernel_rfl, fun w' hS => ?_⟩) SC.out (by kernel_rfl) ?_
    · go_simp
    refine takeD (i := 13) (v := .string s2) (some 102) rfl (by kernel_rfl) (by kernel_rfl) (by kernel_rfl) (fun _ _ _ h => h) (.inl ⟨by kernel_rfl, fun w' hS => ?_⟩) SC.out (by kernel_rfl) ?_
    · have s0' : w'.cell? ⟨q3, 17, none⟩ = some (.string s2) := cell_of hS.2.2 17 (show 17 < 18 by decide)
      clear hS
      go_simp
    refine takeD (i := 14) (v := .bool false) (some 103) rfl (by kernel_rfl) (by kernel_rfl) (by kernel_rfl) (fun _ _ _ h => h) (.inl ⟨by kernel_rfl, fun w' hS => ?_⟩) SC.out (by kernel_rfl) ?_
    · go_simp
    refine takeD (i := 15) (v := .bool false) (some 104) rfl (by kernel_rfl) (by kernel_rfl) (by kernel_rfl) (fun _ _ _ h => h) (.inl ⟨by kernel_rfl, fun w' hS => ?_⟩) SC.out (by kernel_rfl) ?_
    · go_simp
    refine wpAnyH_done (by kernel_rfl) ?_ _
    have TC := hid (TB.out.trans TC0.out (fun _ _ e => e))
    have NC := hid (NB.out.new TC0.out)
    have HAC := hid (show ∀ a, a7 = some a → a.block < wc.heap.size from fun a e => Nat.lt_of_lt_of_le (HAB.out a e) TC0.out.size)
    clear TC0 SC TB NB HAB KOP HSAME HTLE HBK HBL
    simp only [Act.put, List.setIfInBounds_toArray, List.set_cons_succ, List.set_cons_zero]
    go_upto_if 107 with fail
    go_cut [] (fun wd => Touch (fun _ => False) w wd)
    case first =>
      by_cases hn0 : 0 < n
      · have hlI : (0 : Int) < (len : Int) := by have := HLL.out; omega
        have hdv : Int.tdiv (len : Int) 2 = (n : Int) := by
          have := HLL.out
          rw [Int.tdiv_eq_ediv_of_nonneg (by omega)]
          omega
        have hpl := HPL.out
        have hl18 := HL18.out
        have hnI : ¬ ((n : Int) = 0) := by omega
        have hnB : ((n : Int) == 0) = false := by simpa using hnI
        have hrem := rem_in at0 (n : Int) (by omega)
        obtain ⟨r, hr⟩ : ∃ r, at0.tmod (n : Int) = r := ⟨_, rfl⟩
        have hr1 : r < 19 := by have := Int.tmod_lt_of_pos at0 (show (0 : Int) < (n : Int) by omega); omega
        have hr2 : -19 < r := by have := Int.lt_tmod_of_pos at0 (show (0 : Int) < (n : Int) by omega); omega
        rw [hr] at hrem
        obtain ⟨ai, hai⟩ : ∃ ai : Nat, (r + (n : Int)).tmod (n : Int) = (ai : Int) := ⟨((r + (n : Int)).tmod (n : Int)).toNat, by omega⟩
        rw [hai] at hrem
        have haiN : ai < n := by omega
        obtain ⟨g1, g2⟩ := HLT.out ai haiN
        obtain ⟨kk, hkk⟩ : ∃ kk, kk = ps.getD ai 0 := ⟨_, rfl⟩
        rw [← hkk] at g1 g2
        have HKM := hid (show kk ∈ ps from by
          have h : ai < ps.length := by rw [← HNN.out]; exact haiN
          rw [hkk, List.getD_eq_getElem?_getD, List.getElem?_eq_getElem h]
          exact List.getElem_mem h)
        obtain ⟨x, hxd⟩ : ∃ x, x = wordB kk := ⟨_, rfl⟩
        obtain ⟨y, hyd⟩ : ∃ y, y = tellV (V kk) := ⟨_, rfl⟩
        rw [← hxd] at g1
        rw [← hyd] at g2
        have HXW := hid hxd
        obtain ⟨i0n, hi0⟩ : ∃ i0n, i0n = 2 * ai := ⟨_, rfl⟩
        obtain ⟨i1n, hi1⟩ : ∃ i1n, i1n = i0n + 1 := ⟨_, rfl⟩
        rw [← hi0] at g1 g2
        rw [← hi1] at g2
        have hm2 : 2 * (ai : Int) = (i0n : Int) := by omega
        have hwm : IntKind.i64.wrap (i0n : Int) = (i0n : Int) := by rw [IntKind.wrap_i64]; omega
        have hi1I : (i0n : Int) + 1 = (i1n : Int) := by omega
        have hw1 : IntKind.i64.wrap (i1n : Int) = (i1n : Int) := by rw [IntKind.wrap_i64]; omega
        have hi1L : (i1n : Int) < (len : Int) := by have := HLL.out; omega
        have hi0L : (i0n : Int) < (len : Int) := by omega
        obtain ⟨l1, e1⟩ := List.getElem?_eq_some_iff.1 g1
        obtain ⟨l2, e2⟩ := List.getElem?_eq_some_iff.1 g2
        have HLx := hid (show x.length ≤ 65536 from by rw [← e1]; exact HLE.out _ (List.getElem_mem l1))
        have HLy := hid (show y.length ≤ 65536 from by rw [← e2]; exact HLE.out _ (List.getElem_mem l2))
        obtain ⟨bb, oo, hAe, hcx⟩ := nl_at NC.out i0n l1
        obtain ⟨bb', oo', hAe', hcy⟩ := nl_at NC.out i1n l2
        rw [hAe] at hAe'
        simp only [Option.some.injEq, Addr.mk.injEq, and_true] at hAe'
        obtain ⟨rfl, rfl⟩ := hAe'
        subst hAe
        obtain ⟨XB, hXB, hXBs, hXBd⟩ := name_ba x
        obtain ⟨YB, hYB, hYBs, hYBd⟩ := name_ba y
        rw [e1, hXB] at hcx
        rw [e2, hYB] at hcy
        obtain ⟨PB, hPB, hPBs, hPBd⟩ := name_ba (packL [x, y])
        have hPBb : PB.size ≤ 140000 := by
          have h1 := wt_pack [x, y]
          have h2 := HLx.out
          have h3 := HLy.out
          simp only [wt] at h1
          omega
        have hXPs : X.size + PB.size ≤ 9223372036854775807 := by omega
        have HBd := hid (show bb < wc.heap.size from HAC.out _ rfl)
        have HCX := hid hcx
        have HCY := hid hcy
        have KP := hid (show ∀ W q, Touch (fun _ => False) wc.drew W → W.heap[q]? = some (.cells #[.string XB, .string YB] 9 (0, 0)) → Calls Tryd.prog 9 #[.slice (some ⟨q, 0, none⟩) 2 2] W fun e w' => e = .returned (.string PB) ∧ Touch (fun _ => False) W w' from fun W q t hb => by
          have hnl := nl_two hb
          rw [hXBd, hYBd] at hnl
          have h := pack_any _ _ W hnl (HX.out.new (TC.out.drew.trans t (fun _ _ e => e))) (by simp only [wt]; have h2 := HLx.out; have h3 := HLy.out; omega)
          rw [hPB] at h
          exact h)
        have KX := hid (show ∀ W, Touch (fun _ => False) wc.drew W → Calls Tryd.prog 13 #[.string (X ++ PB)] W fun e w' => e = .returned (.tuple #[.agg z17, .string ⟨#[]⟩, .agg #[.int .i64 29, .int .i64 (len : Nat)]]) ∧ Touch (fun _ => False) W w' from fun W t => by
          have h := parse_more V ps x y HN.out (fun k hk => ⟨((HM.out k).1 hk).1, HOKV.out k ((HM.out k).1 hk).1 ((HM.out k).1 hk).2⟩) (.inr ⟨kk, HKM.out, HXW.out⟩) (fun u hu => by
            rcases List.mem_append.1 hu with hu | hu
            · exact Nat.le_trans (HLE.out u (by rw [HLS.out]; exact hu)) (by decide)
            · simp only [List.mem_cons, List.not_mem_nil, or_false] at hu
              have h2 := HLx.out
              have h3 := HLy.out
              rcases hu with rfl | rfl <;> omega) (X ++ PB) (by
            rw [ba_app, HXD.out, hPBd, ← HLS.out, pack_app ls _ (fun u hu => Nat.le_trans (HLE.out u hu) (by decide))]) (by
            have : (X ++ PB).size = X.size + PB.size := by simp
            omega) W (HX.out.new (TC.out.drew.trans t (fun _ _ e => e)))
          rw [show ((2 * ps.length : Nat) : Int) = ((len : Nat) : Int) by rw [← HNN.out, HLL.out]] at h
          exact h)
        clear hcx hcy g1 g2 e1 e2 l1 l2 hXB hXBs hXBd hYB hYBs hYBd hPB hPBs hPBd hxd hyd hkk hi0 hi1 hrem haiN
        go_upto_region 21 with fail
        have SW := hid (show (fun w' : World => w'.cell? ⟨bb, oo + i0n, none⟩ = some (.string XB) ∧ w'.cell? ⟨bb, oo + i1n, none⟩ = some (.string YB)) wc.drew from ⟨HCX.out, HCY.out⟩)
        refine wp_region_held (S := fun w' => w'.cell? ⟨bb, oo + i0n, none⟩ = some (.string XB) ∧ w'.cell? ⟨bb, oo + i1n, none⟩ = some (.string YB)) mixed ?_
        change wpAnyH _ _ _ _ _ _ _ _ wc.drew
        refine takeD (i := 0) (v := .string X) (some 122) rfl (by kernel_rfl) (by kernel_rfl) (by kernel_rfl) (fun _ _ _ h => h) (.inl ⟨by kernel_rfl, fun w' hS => ?_⟩) SW.out (by kernel_rfl) ?_
        · go_simp
        refine takeD (i := 1) (v := .slice (some ⟨bb, oo, none⟩) len c7) (some 123) rfl (by kernel_rfl) (by kernel_rfl) (by kernel_rfl) (fun _ _ _ h => h) (.inl ⟨by kernel_rfl, fun w' hS => ?_⟩) SW.out (by kernel_rfl) ?_
        · go_simp
        refine takeD (i := 2) (v := .int .i64 (ai : Nat)) (some 124) rfl (by kernel_rfl) (by kernel_rfl) (by kernel_rfl) (fun _ _ _ h => h) (.inl ⟨by kernel_rfl, fun w' hS => ?_⟩) SW.out (by kernel_rfl) ?_
        · go_simp
        refine takeD (i := 3) (v := .int .i64 (i0n : Nat)) (some 125) rfl (by kernel_rfl) (by kernel_rfl) (by kernel_rfl) (fun _ _ _ h => h) (.inl ⟨by kernel_rfl, fun w' hS => ?_⟩) SW.out (by kernel_rfl) ?_
        · go_simp
        refine takeD (i := 4) (v := .pointer (some ⟨bb, oo + i0n, none⟩)) (some 126) rfl (by kernel_rfl) (by kernel_rfl) (by kernel_rfl) (fun _ _ _ h => h) (.inl ⟨by kernel_rfl, fun w' hS => ?_⟩) SW.out (by kernel_rfl) ?_
        · go_simp
        refine takeD (i := 5) (v := .string XB) (some 127) rfl (by kernel_rfl) (by kernel_rfl) (by kernel_rfl) (fun _ _ _ h => h) (.inl ⟨by kernel_rfl, fun w' hS => ?_⟩) SW.out (by kernel_rfl) ?_
        · have s1 := hS.1
          clear hS
          go_simp
        refine takeD (i := 6) (v := .slice (some ⟨bb, oo, none⟩) len c7) (some 128) rfl (by kernel_rfl) (by kernel_rfl) (by kernel_rfl) (fun _ _ _ h => h) (.inl ⟨by kernel_rfl, fun w' hS => ?_⟩) SW.out (by kernel_rfl) ?_
        · go_simp
        refine takeD (i := 7) (v := .int .i64 (ai : Nat)) (some 129) rfl (by kernel_rfl) (by kernel_rfl) (by kernel_rfl) (fun _ _ _ h => h) (.inl ⟨by kernel_rfl, fun w' hS => ?_⟩) SW.out (by kernel_rfl) ?_
        · go_simp
        refine takeD (i := 8) (v := .int .i64 (i0n : Nat)) (some 130) rfl (by kernel_rfl) (by kernel_rfl) (by kernel_rfl) (fun _ _ _ h => h) (.inl ⟨by kernel_rfl, fun w' hS => ?_⟩) SW.out (by kernel_rfl) ?_
        · go_simp
        refine takeD (i := 9) (v := .int .i64 (i1n : Nat)) (some 131) rfl (by kernel_rfl) (by kernel_rfl) (by kernel_rfl) (fun _ _ _ h => h) (.inl ⟨by kernel_rfl, fun w' hS => ?_⟩) SW.out (by kernel_rfl) ?_
        · go_simp
        refine takeD (i := 10) (v := .pointer (some ⟨bb, oo + i1n, none⟩)) (some 132) rfl (by kernel_rfl) (by kernel_rfl) (by kernel_rfl) (fun _ _ _ h => h) (.inl ⟨by kernel_rfl, fun w' hS => ?_⟩) SW.out (by kernel_rfl) ?_
        · go_simp
        refine takeD (i := 11) (v := .string YB) (some 133) rfl (by kernel_rfl) (by kernel_rfl) (by kernel_rfl) (fun _ _ _ h => h) (.inl ⟨by kernel_rfl, fun w' hS => ?_⟩) SW.out (by kernel_rfl) ?_
        · have s1 := hS.2
          clear hS
          go_simp
        refine reg21_of _ (by kernel_rfl) _ (by kernel_rfl) _ wc.drew X XB YB PB (len : Nat) (by kernel_rfl) (by kernel_rfl) (by kernel_rfl) (by kernel_rfl) hXPs (fun W t => ⟨(t.cell (p := ⟨bb, oo + i0n, none⟩) HBd.out id).trans SW.out.1, (t.cell (p := ⟨bb, oo + i1n, none⟩) HBd.out id).trans SW.out.2⟩) (fun _ _ _ _ _ h => h) KP.out KX.out ?_
        intro q q16 q18 W tW hb18 _
        have TWW := hid (TC.out.drew.trans tW (fun _ _ e => e))
        have d0 := cell_two0 hb18
        have d1 := cell_two1 hb18
        clear tW hb18 SW KP KX HCX HCY
        simp only [Act.put, List.setIfInBounds_toArray, List.set_cons_succ, List.set_cons_zero]
        go_wp2
        go_meet
        case rel => exact TWW.out
      · have hlI : ¬ ((0 : Int) < (len : Int)) := by have := HLL.out; omega
        go_wp2
        go_meet
        case rel => exact TC.out
    have TD := hid hcut
    clear hcut TC NC HAC
    go_wp2_with fail
    refine (keysD_any _).mono ?_
    rintro e we ⟨rfl, rfl⟩
    have NK := hid (nl_new wc words)
    have TE := hid (TD.out.alloc (.cells (words.map sv).toArray 9))
    generalize wc.alloc (.cells (words.map sv).toArray 9) = we at *
    generalize wc.heap.size = qk at *
    clear TD
    go_wp2_with fail
    go_loopg [20] 18 (fun gk v20 wr => ∃ j : Nat, j + gk = 18 ∧ v20 = .int .i64 (j : Nat) ∧ Hid (∀ i, i < j → wordB i ≠ K.data.toList) ∧ we = wr)
    case atStart => exact ⟨0, by omega, rfl, hid (fun i h => absurd h (Nat.not_lt_zero i)), rfl⟩
    case round =>
    obtain ⟨j, hjg, rfl, HJ, rfl⟩ := hrel
    by_cases hj : j < 18
    · have hjI : (j : Int) < 18 := by omega
      obtain ⟨G, rfl⟩ : ∃ G, gk = G + 1 := ⟨gk - 1, by omega⟩
      have rk := key_cell NK.out j hj
      obtain ⟨T, hT, _, hTd⟩ := name_ba (wordB j)
      rw [hT] at rk
      have HB2 := hid (show (T.toList == K.toList) = decide (wordB j = K.data.toList) by
        rw [toList_data, toList_data, hTd, Bool.eq_iff_iff]
        simp)
      clear hT hTd
      by_cases hw : wordB j = K.data.toList
      · have hB : (T.toList == K.toList) = true := by rw [HB2.out]; exact decide_eq_true hw
        clear hw HB2
        go_wp2
        go_ret
        exact ⟨rfl, TE.out.below _ (Nat.le_refl _) (fun _ e => e.elim)⟩
      · have hB : (T.toList == K.toList) = false := by rw [HB2.out]; exact decide_eq_false hw
        have HW2 := hid hw
        clear hw HB2
        go_wp2
        go_roundg G
        case measure => omega
        case rel =>
          refine ⟨j + 1, by omega, by go_num, hid (fun i hi => ?_), rfl⟩
          by_cases e : i = j
          · rw [e]; exact HW2.out
          · exact HJ.out i (by omega)
    · obtain rfl : j = 18 := by omega
      have HKI := hid (show kI K.data.toList 18 < 0 from by
        rcases kI_or K.data.toList 18 with ⟨h, _⟩ | ⟨k, h1, _, h3⟩
        · omega
        · exact absurd h3 (HJ.out k h1))
      clear HJ hj hjg NK
      by_cases hk1 : 1000 < K.size
      · have hk1I : (1000 : Int) < (K.size : Int) := by omega
        go_wp2
        go_ret
        exact ⟨rfl, TE.out.below _ (Nat.le_refl _) (fun _ e => e.elim)⟩
      · have hk1I : ¬ ((1000 : Int) < (K.size : Int)) := by omega
        obtain ⟨PB, hPB, hPBs, hPBd⟩ := name_ba (packL [K.data.toList, []])
        have hPBb : PB.size ≤ 2000 := by
          have h1 := wt_pack [K.data.toList, []]
          simp only [wt, len_size, List.length_nil] at h1
          omega
        have hXPs : X.size + PB.size ≤ 9223372036854775807 := by omega
        have hXPI : (X.size : Int) + (PB.size : Int) ≤ 9223372036854775807 := by omega
        have HBN := hid (blk_new (w := we) #[.string K, .string ⟨#[]⟩] 9)
        have TF := hid (TE.out.alloc (.cells #[.string K, .string ⟨#[]⟩] 9))
        have KP := hid (show Calls Tryd.prog 9 #[.slice (some ⟨we.heap.size, 0, none⟩) 2 2] (we.alloc (.cells #[.string K, .string ⟨#[]⟩] 9)) fun e w' => e = .returned (.string PB) ∧ Touch (fun _ => False) (we.alloc (.cells #[.string K, .string ⟨#[]⟩] 9)) w' from by
          have hnl := nl_two HBN.out
          have h := pack_any _ _ _ hnl (HX.out.new TF.out) (by have e : wt [K.data.toList, (⟨#[]⟩ : ByteArray).data.toList] = K.data.toList.length + 50 + (0 + 50 + 0) := rfl; rw [e, len_size]; omega)
          rw [show ([K.data.toList, (⟨#[]⟩ : ByteArray).data.toList] : List Bs) = [K.data.toList, []] from rfl, hPB] at h
          exact h)
        have KX := hid (show ∀ W, Touch (fun _ => False) w W → Calls Tryd.prog 13 #[.string (X ++ PB)] W fun e w' => e = .returned (.tuple #[.agg z17, .string ⟨#[]⟩, .agg #[.int .i64 29, .int .i64 (len : Nat)]]) ∧ Touch (fun _ => False) W w' from fun W t => by
          have h := parse_more V ps K.data.toList [] HN.out (fun k hk => ⟨((HM.out k).1 hk).1, HOKV.out k ((HM.out k).1 hk).1 ((HM.out k).1 hk).2⟩) (.inl HKI.out) (fun u hu => by
            rcases List.mem_append.1 hu with hu | hu
            · exact Nat.le_trans (HLE.out u (by rw [HLS.out]; exact hu)) (by decide)
            · simp only [List.mem_cons, List.not_mem_nil, or_false] at hu
              rcases hu with rfl | rfl
              · rw [len_size]; omega
              · exact Nat.zero_le _) (X ++ PB) (by
            rw [ba_app, HXD.out, hPBd, ← HLS.out, pack_app ls _ (fun u hu => Nat.le_trans (HLE.out u hu) (by decide))]) (by
            have : (X ++ PB).size = X.size + PB.size := by simp
            omega) W (HX.out.new t)
          rw [show ((2 * ps.length : Nat) : Int) = ((len : Nat) : Int) by rw [← HNN.out, HLL.out]] at h
          exact h)
        clear hPB hPBs hPBd HBN
        go_wp2_with fail
        refine KP.out.mono ?_
        rintro e wg ⟨rfl, tg⟩
        have TG := hid (TF.out.trans tg (fun _ _ e => e))
        clear tg KP TF TE
        go_wp2_with fail
        refine (KX.out wg TG.out).mono ?_
        rintro e wh ⟨rfl, th⟩
        have TH := hid (TG.out.trans th (fun _ _ e => e))
        have TT := hid (((Touch.refl (fun _ => False) wh).alloc (.cells z17 39)).alloc (.cells #[.int .i64 0, .int .i64 0] 27))
        have Lh := hid (show w.heap.size ≤ wh.heap.size from TH.out.size)
        have B7 := hid (show ((wh.alloc (.cells z17 39)).alloc (.cells #[.int .i64 0, .int .i64 0] 27)).heap[wh.heap.size]? = some (.cells z17 39 (0, 0)) from by
          rw [Below.heap_alloc _ _ _ (by show _ < (wh.heap.push _).size; simp)]
          show (wh.heap.push _)[_]? = _
          simp)
        have Bb := hid (show ((wh.alloc (.cells z17 39)).alloc (.cells #[.int .i64 0, .int .i64 0] 27)).heap[wh.heap.size + 1]? = some (.cells #[.int .i64 0, .int .i64 0] 27 (0, 0)) from by
          have := two_new (w := wh.alloc (.cells z17 39)) (.int .i64 0) (.int .i64 0) 27
          rw [show (wh.alloc (.cells z17 39)).heap.size = wh.heap.size + 1 from by show (wh.heap.push _).size = _; simp] at this
          exact this)
        have HC := hid (fin_r (qp := wh.heap.size) (cs := z17) Bb.out (Nat.lt_succ_self _))
        have TS := hid ((TH.out.trans TT.out (fun _ _ e => e)).setRow (g := wh.heap.size) (fun h => absurd h (Nat.not_lt.2 Lh.out)) z17)
        clear th KX TG TT TH
        go_upto_region 33 with (first | (refine wpList_store_row (P := Tryd.prog) rfl 39 (.tmp 21) (.tmp 169) rfl wh.heap.size z17 rfl rfl 39 z17 B7.out info39 rfl one17 ?_; change wpList _ _ _ _ _ (((wh.alloc (.cells z17 39)).alloc (.cells #[.int .i64 0, .int .i64 0] 27)).setRow wh.heap.size z17); clear B7 Bb; generalize ((wh.alloc (.cells z17 39)).alloc (.cells #[.int .i64 0, .int .i64 0] 27)).setRow wh.heap.size z17 = wz at *; have g0 := cell_two0 HC.out; have g1 := cell_two1 HC.out; have gf0 := free_two (i := 0) HC.out; have gf1 := free_two (i := 1) HC.out) | fail)
        clear g0 g1 gf0 gf1
        have F9 := hid (fset HC.out (.int .i64 29) (.int .i64 (len : Nat)))
        have T9 := hid (ftouch TS.out (q := wh.heap.size + 1) (by have := Lh.out; omega) (.int .i64 29) (.int .i64 (len : Nat)))
        generalize (wz.setCell ⟨wh.heap.size + 1, 0, none⟩ (.int .i64 29)).setCell ⟨wh.heap.size + 1, 1, none⟩ (.int .i64 (len : Nat)) = wk at *
        generalize wh.heap.size + 1 = q23 at *
        have c0 := cell_two0 F9.out
        have c1 := cell_two1 F9.out
        go_wp2
        go_ret
        exact ⟨rfl, T9.out.below _ (Nat.le_refl _) (fun _ e => e.elim)⟩
end Go.Proofs.YtmeekjfnmdbnpaaDoor
