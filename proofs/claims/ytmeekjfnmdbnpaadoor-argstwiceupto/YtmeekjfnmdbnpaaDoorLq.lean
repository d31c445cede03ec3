/- The walk of the law ArgsShows; conditions: the texts fit into memory, the library's variables lie there. -/
import Derived.Test.YtmeekjfnmdbnpaaDoorSs
namespace Go.Proofs.YtmeekjfnmdbnpaaDoor
open Go.RowKit
open Go.Lib

theorem wpList_load_rowG {P : Program} {ops : Array Oper} {rest : List Oper} {o : Oper} {a : Act} {w : World} {Q : Exit → Act → World → Prop} (hw : Region.wanted o (yielded ops a.tmps) = true) (ty : TypeId) (x : Operand) (ho : o.op = .load ty x)
    (g : Nat) (hx : a.eval x = .pointer (some ⟨g, 0, none⟩)) (t : TypeId) (cs : Array Value) (fr : Nat × Nat) (d : TypeDesc) (hg : w.heap[g]? = some (.cells cs t fr))
    (hu : P.underlying ty = some d) (hd : (match d with | .struct _ | .array _ _ => true | _ => false) = true) (hi : (P.info? ty).map (·.size) = some cs.size)
    (h : wpList P ops Q rest (a.put o.dst (.agg cs)) w) : wpList P ops Q (o :: rest) a w :=
  wpList_step fun K hK => by
    rw [if_pos hw]
    exact wp_load_row ty x ho g hx t cs fr d hg hu hd hi (hK _ _ h)
def nv (n0 n1 n2 n3 n4 : Int) (k : Nat) : Int := [n0, n1, n2, n3, n4].getD k 0
def tv (s0 s1 s2 : ByteArray) (k : Nat) : ByteArray := [s0, s1, s2].getD k ⟨#[]⟩
theorem nv_cell (n0 n1 n2 n3 n4 : Int) (b0 b1 b2 b3 b4 b5 b6 b7 b8 b9 : Bool) (s0 s1 s2 : ByteArray) {w : World} {q : Nat} (h : w.heap[q]? = some (.cells (vals n0 n1 n2 n3 n4 b0 b1 b2 b3 b4 b5 b6 b7 b8 b9 s0 s1 s2) 50 (0, 0))) : ∀ k, k < 5 → w.cell? ⟨q, k, none⟩ = some (.int .i64 (nv n0 n1 n2 n3 n4 k)) := fun k hk => match k, hk with
  | 0, _ => cell_of h 0 (show 0 < 18 by decide)
  | 1, _ => cell_of h 1 (show 1 < 18 by decide)
  | 2, _ => cell_of h 2 (show 2 < 18 by decide)
  | 3, _ => cell_of h 3 (show 3 < 18 by decide)
  | 4, _ => cell_of h 4 (show 4 < 18 by decide)
  | k + 5, h => absurd h (by omega)
theorem tv_cell (n0 n1 n2 n3 n4 : Int) (b0 b1 b2 b3 b4 b5 b6 b7 b8 b9 : Bool) (s0 s1 s2 : ByteArray) {w : World} {q : Nat} (h : w.heap[q]? = some (.cells (vals n0 n1 n2 n3 n4 b0 b1 b2 b3 b4 b5 b6 b7 b8 b9 s0 s1 s2) 50 (0, 0))) : ∀ k, k < 3 → w.cell? ⟨q, 15 + k, none⟩ = some (.string (tv s0 s1 s2 k)) := fun k hk => match k, hk with
  | 0, _ => cell_of h 15 (show 15 < 18 by decide)
  | 1, _ => cell_of h 16 (show 16 < 18 by decide)
  | 2, _ => cell_of h 17 (show 17 < 18 by decide)
  | k + 3, h => absurd h (by omega)
theorem vals50 (n0 n1 n2 n3 n4 : Int) (b0 b1 b2 b3 b4 b5 b6 b7 b8 b9 : Bool) (s0 s1 s2 : ByteArray) : (Tryd.prog.info? 50).map (·.size) = some (vals n0 n1 n2 n3 n4 b0 b1 b2 b3 b4 b5 b6 b7 b8 b9 s0 s1 s2).size := by kernel_rfl
theorem vals_str (n0 n1 n2 n3 n4 : Int) (b0 b1 b2 b3 b4 b5 b6 b7 b8 b9 : Bool) (s0 s1 s2 : ByteArray) (z0 : s0.size ≤ 1099511627776) (z1 : s1.size ≤ 1099511627776) (z2 : s2.size ≤ 1099511627776) : ∀ k s, k < 18 → (vf (vals n0 n1 n2 n3 n4 b0 b1 b2 b3 b4 b5 b6 b7 b8 b9 s0 s1 s2)) k = .string s → s.size ≤ 1099511627776 := fun k s hk => match k, hk with
    | 0, _ => fun e => by cases e
    | 1, _ => fun e => by cases e
    | 2, _ => fun e => by cases e
    | 3, _ => fun e => by cases e
    | 4, _ => fun e => by cases e
    | 5, _ => fun e => by cases e
    | 6, _ => fun e => by cases e
    | 7, _ => fun e => by cases e
    | 8, _ => fun e => by cases e
    | 9, _ => fun e => by cases e
    | 10, _ => fun e => by cases e
    | 11, _ => fun e => by cases e
    | 12, _ => fun e => by cases e
    | 13, _ => fun e => by cases e
    | 14, _ => fun e => by cases e
    | 15, _ => fun e => by cases e; exact z0
    | 16, _ => fun e => by cases e; exact z1
    | 17, _ => fun e => by cases e; exact z2
    | k + 18, h => absurd h (by omega)
set_option maxRecDepth 100000 in
set_option maxHeartbeats 8000000 in
theorem argsShows_walk (n0 n1 n2 n3 n4 : Int) (b0 b1 b2 b3 b4 b5 b6 b7 b8 b9 : Bool) (s0 s1 s2 : ByteArray) (r0 : -9223372036854775808 ≤ n0 ∧ n0 ≤ 9223372036854775807) (r1 : -9223372036854775808 ≤ n1 ∧ n1 ≤ 9223372036854775807) (r2 : -9223372036854775808 ≤ n2 ∧ n2 ≤ 9223372036854775807) (r3 : -9223372036854775808 ≤ n3 ∧ n3 ≤ 9223372036854775807) (r4 : -9223372036854775808 ≤ n4 ∧ n4 ≤ 9223372036854775807) (z0 : s0.size ≤ 1099511627776) (z1 : s1.size ≤ 1099511627776) (z2 : s2.size ≤ 1099511627776) (w : World) (hx : Sx w) :
    Calls Tryd.prog 6 #[.agg (vals n0 n1 n2 n3 n4 b0 b1 b2 b3 b4 b5 b6 b7 b8 b9 s0 s1 s2)] w fun e w' => e = .returned (.bool true) ∧ Below w.heap.size w w' := by
  have HX := hid hx
  have HRV := hid (vals_rnv n0 n1 n2 n3 n4 b0 b1 b2 b3 b4 b5 b6 b7 b8 b9 s0 s1 s2 r0 r1 r2 r3 r4)
  have HWT := hid (vals_wt n0 n1 n2 n3 n4 b0 b1 b2 b3 b4 b5 b6 b7 b8 b9 s0 s1 s2 r0 r1 r2 r3 r4 z0 z1 z2)
  have HST := hid (vals_str n0 n1 n2 n3 n4 b0 b1 b2 b3 b4 b5 b6 b7 b8 b9 s0 s1 s2 z0 z1 z2)
  have KSH := hid (fun W h => show_any n0 n1 n2 n3 n4 b0 b1 b2 b3 b4 b5 b6 b7 b8 b9 s0 s1 s2 r0 r1 r2 r3 r4 z0 z1 z2 W h)
  have KDS := hid (fun W => dshow_any (vals n0 n1 n2 n3 n4 b0 b1 b2 b3 b4 b5 b6 b7 b8 b9 s0 s1 s2) rfl HRV.out HWT.out HST.out W)
  have KOP := hid (fun W => options_any n0 n1 n2 n3 n4 b0 b1 b2 b3 b4 b5 b6 b7 b8 b9 s0 s1 s2 W)
  have HNV := hid (fun (W : World) (q : Nat) h => nv_cell n0 n1 n2 n3 n4 b0 b1 b2 b3 b4 b5 b6 b7 b8 b9 s0 s1 s2 (w := W) (q := q) h)
  have HTV := hid (fun (W : World) (q : Nat) h => tv_cell n0 n1 n2 n3 n4 b0 b1 b2 b3 b4 b5 b6 b7 b8 b9 s0 s1 s2 (w := W) (q := q) h)
  have KPA := hid (show (∀ k, k < 5 → (nv n0 n1 n2 n3 n4 k).natAbs < 1000000000000000000) → (∀ k, k < 3 → (tv s0 s1 s2 k).size ≤ 9999999) → ∀ (B : ByteArray), B.data.toList = packL (shL (vf (vals n0 n1 n2 n3 n4 b0 b1 b2 b3 b4 b5 b6 b7 b8 b9 s0 s1 s2)) 18) → ∀ W, Sx W → Calls Tryd.prog 13 #[.string B] W fun e w' => e = .returned (.tuple #[.agg (opts n0 n1 n2 n3 n4 b0 b1 b2 b3 b4 b5 b6 b7 b8 b9 s0 s1), .string s2, .agg #[.int .i64 0, .int .i64 0]]) ∧ Touch (fun _ => False) W w' from fun hN hT B hB W hW => by
    have hlen : ∀ k, k < 18 → (tellV ((vf (vals n0 n1 n2 n3 n4 b0 b1 b2 b3 b4 b5 b6 b7 b8 b9 s0 s1 s2)) k)).length ≤ 9999999 := fun k hk => tell_len HRV.out k hk 9999999 (by decide) (match k, hk with
      | 0, _ => fun s e => by cases e
      | 1, _ => fun s e => by cases e
      | 2, _ => fun s e => by cases e
      | 3, _ => fun s e => by cases e
      | 4, _ => fun s e => by cases e
      | 5, _ => fun s e => by cases e
      | 6, _ => fun s e => by cases e
      | 7, _ => fun s e => by cases e
      | 8, _ => fun s e => by cases e
      | 9, _ => fun s e => by cases e
      | 10, _ => fun s e => by cases e
      | 11, _ => fun s e => by cases e
      | 12, _ => fun s e => by cases e
      | 13, _ => fun s e => by cases e
      | 14, _ => fun s e => by cases e
      | 15, _ => fun s e => by cases e; exact hT 0 (by decide)
      | 16, _ => fun s e => by cases e; exact hT 1 (by decide)
      | 17, _ => fun s e => by cases e; exact hT 2 (by decide)
      | k + 18, h => absurd h (by omega))
    have hsz : B.size ≤ 1099511627776 := by
      have h1 := wt_shL 9999999 hlen 18 (Nat.le_refl _)
      have h2 := wt_pack (shL (vf (vals n0 n1 n2 n3 n4 b0 b1 b2 b3 b4 b5 b6 b7 b8 b9 s0 s1 s2)) 18)
      rw [← hB, len_size] at h2
      omega
    exact parse_keys n0 n1 n2 n3 n4 b0 b1 b2 b3 b4 b5 b6 b7 b8 b9 s0 s1 s2 (shK (vf (vals n0 n1 n2 n3 n4 b0 b1 b2 b3 b4 b5 b6 b7 b8 b9 s0 s1 s2)) (List.range 18)) (shK_nodup _) (shK_mem _) (ok_of n0 n1 n2 n3 n4 b0 b1 b2 b3 b4 b5 b6 b7 b8 b9 s0 s1 s2 (hN 0 (by decide)) (hN 1 (by decide)) (hN 2 (by decide)) (hN 3 (by decide)) (hN 4 (by decide))) (shP_le _ _ (fun k hk => ⟨((shK_mem _ k).1 hk).1, hlen k ((shK_mem _ k).1 hk).1⟩)) B hB hsz W hW)
  obtain ⟨X, hX, hXs, hXd⟩ := name_ba (packL (shL (vf (vals n0 n1 n2 n3 n4 b0 b1 b2 b3 b4 b5 b6 b7 b8 b9 s0 s1 s2)) 18))
  have HXD := hid hXd
  rw [hX] at KSH KDS
  have KS := hid (fun W h => speaks_yes W h)
  have T1 := hid ((Touch.refl (fun _ => False) w).alloc (.cells (vals n0 n1 n2 n3 n4 b0 b1 b2 b3 b4 b5 b6 b7 b8 b9 s0 s1 s2) 50))
  have B1 := hid (blk_new (w := w) (vals n0 n1 n2 n3 n4 b0 b1 b2 b3 b4 b5 b6 b7 b8 b9 s0 s1 s2) 50)
  clear hx hXs hX hXd r0 r1 r2 r3 r4 z0 z1 z2
  go_enter Tryd.func6, Tryd.ntmps6
  go_wp2_with fail
  generalize w.alloc (.cells (vals n0 n1 n2 n3 n4 b0 b1 b2 b3 b4 b5 b6 b7 b8 b9 s0 s1 s2) 50) = w1 at *
  generalize w.heap.size = q1 at *
  refine (KS.out w1 (HX.out.new T1.out)).mono ?_
  rintro e w2 ⟨rfl, t2⟩
  have T2 := hid (T1.out.trans t2 (fun _ _ e => e))
  have B12 := hid ((t2.block q1 (lt_of_block B1.out) id).trans B1.out)
  clear t2 T1 B1 KS
  go_wp2_with (first | refine wpList_load_row (P := Tryd.prog) rfl 50 (.tmp 1) rfl q1 rfl 50 (vals n0 n1 n2 n3 n4 b0 b1 b2 b3 b4 b5 b6 b7 b8 b9 s0 s1 s2) (0, 0) _ B12.out Tryd.underlying50 rfl (vals50 ..) ?_ | fail)
  refine (KOP.out w2).mono ?_
  rintro e w3 ⟨rfl, t3⟩
  have B13 := hid ((t3.block q1 (lt_of_block B12.out) id).trans B12.out)
  have T3 := hid (T2.out.trans t3 (fun _ _ e => e))
  have B3 := hid (blk_new (w := w3) z17 39)
  have HQ3 := hid (show w.heap.size ≤ w3.heap.size ∧ q1 < w3.heap.size from ⟨T3.out.size, lt_of_block B13.out⟩)
  have T4 := hid ((T3.out.alloc (.cells z17 39)).setRow (g := w3.heap.size) (fun h => absurd h (Nat.not_lt.2 HQ3.out.1)) (opts n0 n1 n2 n3 n4 b0 b1 b2 b3 b4 b5 b6 b7 b8 b9 s0 s1))
  have B14 := hid ((setRow_other (w3.alloc (.cells z17 39)) w3.heap.size q1 (opts n0 n1 n2 n3 n4 b0 b1 b2 b3 b4 b5 b6 b7 b8 b9 s0 s1) (by have := HQ3.out; omega)).trans ((Below.heap_alloc _ _ _ HQ3.out.2).trans B13.out))
  have B34 := hid (setRow_heap _ w3.heap.size _ (opts n0 n1 n2 n3 n4 b0 b1 b2 b3 b4 b5 b6 b7 b8 b9 s0 s1) 39 (0, 0) B3.out)
  clear t3 T2 B12 KOP
  go_upto_region 4 with (first | refine wpList_store_row (P := Tryd.prog) rfl 39 (.tmp 3) (.tmp 13) rfl w3.heap.size (opts n0 n1 n2 n3 n4 b0 b1 b2 b3 b4 b5 b6 b7 b8 b9 s0 s1) rfl rfl 39 z17 B3.out (opts_info ..) rfl (opts_one ..) ?_ | fail)
  change Code.wp _ _ _ _ ((w3.alloc (.cells z17 39)).setRow w3.heap.size (opts n0 n1 n2 n3 n4 b0 b1 b2 b3 b4 b5 b6 b7 b8 b9 s0 s1))
  clear B3 B13 T3
  generalize (w3.alloc (.cells z17 39)).setRow w3.heap.size (opts n0 n1 n2 n3 n4 b0 b1 b2 b3 b4 b5 b6 b7 b8 b9 s0 s1) = w4 at *
  generalize w3.heap.size = q3 at *
  have c2 : w4.cell? ⟨q1, 17, none⟩ = some (.string s2) := cell_of B14.out 17 (show 17 < 18 by decide)
  go_wp2_with (first | refine wpList_load_row (P := Tryd.prog) rfl 39 (.tmp 3) rfl q3 rfl 39 (opts n0 n1 n2 n3 n4 b0 b1 b2 b3 b4 b5 b6 b7 b8 b9 s0 s1) (0, 0) _ B34.out Tryd.underlying39 rfl (opts_info ..) ?_ | fail)
  refine (KSH.out w4 (HX.out.new T4.out)).mono ?_
  rintro e w5 ⟨rfl, t5⟩
  have B15 := hid ((t5.block q1 (lt_of_block B14.out) id).trans B14.out)
  have B35 := hid ((t5.block q3 (lt_of_block B34.out) id).trans B34.out)
  have T5 := hid (T4.out.trans t5 (fun _ _ e => e))
  clear t5 T4 B14 B34 KSH c2
  go_wp2_with (first | refine wpList_load_row (P := Tryd.prog) rfl 50 (.tmp 1) rfl q1 rfl 50 (vals n0 n1 n2 n3 n4 b0 b1 b2 b3 b4 b5 b6 b7 b8 b9 s0 s1 s2) (0, 0) _ B15.out Tryd.underlying50 rfl (vals50 ..) ?_ | fail)
  refine (KDS.out w5).mono ?_
  rintro e w6 ⟨rfl, t6⟩
  have B16 := hid ((t6.block q1 (lt_of_block B15.out) id).trans B15.out)
  have B36 := hid ((t6.block q3 (lt_of_block B35.out) id).trans B35.out)
  have T6 := hid (T5.out.trans t6 (fun _ _ e => e))
  clear t6 T5 B15 B35 KDS
  go_wp2_with fail
  go_loopg [5] 5 (fun gk v5 wr => ∃ j : Nat, j + gk = 5 ∧ v5 = .int .i64 (j : Nat) ∧ Hid (∀ k, k < j → (nv n0 n1 n2 n3 n4 k).natAbs < 1000000000000000000) ∧ w6 = wr)
  case atStart => exact ⟨0, by omega, rfl, hid (fun k h => absurd h (Nat.not_lt_zero k)), rfl⟩
  case round =>
    obtain ⟨j, hjg, rfl, HJ, rfl⟩ := hrel
    by_cases hj : j < 5
    · have hjI : (j : Int) < 5 := by omega
      obtain ⟨G, rfl⟩ : ∃ G, gk = G + 1 := ⟨gk - 1, by omega⟩
      have hc := HNV.out w6 q1 B16.out j hj
      obtain ⟨z, hz⟩ : ∃ z, z = nv n0 n1 n2 n3 n4 j := ⟨_, rfl⟩
      rw [← hz] at hc
      have HZ := hid hz
      clear hz
      by_cases hb1 : (1000000000000000000 : Int) ≤ z
      · go_wp2
        go_ret
        exact ⟨rfl, T6.out.below _ (Nat.le_refl _) (fun _ e => e.elim)⟩
      · by_cases hb2 : z ≤ (-1000000000000000000 : Int)
        · go_wp2
          go_ret
          exact ⟨rfl, T6.out.below _ (Nat.le_refl _) (fun _ e => e.elim)⟩
        · go_wp2
          go_roundg G
          case measure => omega
          case rel =>
            refine ⟨j + 1, by omega, by go_num, hid (fun k hk => ?_), rfl⟩
            by_cases e : k = j
            · rw [e, ← HZ.out]
              omega
            · exact HJ.out k (by omega)
    · obtain rfl : j = 5 := by omega
      go_wp2_with fail
      go_loopg [6] 3 (fun gk v6 wr => ∃ j : Nat, j + gk = 3 ∧ v6 = .int .i64 (j : Nat) ∧ Hid (∀ k, k < j → (tv s0 s1 s2 k).size ≤ 9999999) ∧ w6 = wr)
      case atStart => exact ⟨0, by omega, rfl, hid (fun k h => absurd h (Nat.not_lt_zero k)), rfl⟩
      case round =>
        obtain ⟨j, hjg, rfl, HJ2, rfl⟩ := hrel
        by_cases hj : j < 3
        · have hjI : (j : Int) < 3 := by omega
          obtain ⟨G, rfl⟩ : ∃ G, gk = G + 1 := ⟨gk - 1, by omega⟩
          have hc := HTV.out w6 q1 B16.out j hj
          obtain ⟨z, hz⟩ : ∃ z, z = tv s0 s1 s2 j := ⟨_, rfl⟩
          rw [← hz] at hc
          have HZ := hid hz
          clear hz
          by_cases hb1 : 9999999 < z.size
          · have hb1I : (9999999 : Int) < (z.size : Int) := by omega
            go_wp2
            go_ret
            exact ⟨rfl, T6.out.below _ (Nat.le_refl _) (fun _ e => e.elim)⟩
          · have hb1I : ¬ ((9999999 : Int) < (z.size : Int)) := by omega
            go_wp2
            go_roundg G
            case measure => omega
            case rel =>
              refine ⟨j + 1, by omega, by go_num, hid (fun k hk => ?_), rfl⟩
              by_cases e : k = j
              · rw [e, ← HZ.out]
                omega
              · exact HJ2.out k (by omega)
        · obtain rfl : j = 3 := by omega
          have K13 := hid (KPA.out HJ.out HJ2.out X HXD.out w6 (HX.out.new T6.out))
          clear KPA HJ HJ2 HXD
          go_wp2_with fail
          refine K13.out.mono ?_
          rintro e w7 ⟨rfl, t7⟩
          have B17 := hid ((t7.block q1 (lt_of_block B16.out) id).trans B16.out)
          have B37 := hid ((t7.block q3 (lt_of_block B36.out) id).trans B36.out)
          have TT := hid (((Touch.refl (fun _ => False) w7).alloc (.cells z17 39)).alloc (.cells #[.int .i64 0, .int .i64 0] 27))
          have T7 := hid (((T6.out.trans t7 (fun _ _ e => e)).trans TT.out (fun _ _ e => e)).setRow (g := w7.heap.size) (fun h => absurd h (Nat.not_lt.2 (T6.out.trans t7 (fun _ _ e => e)).size)) (opts n0 n1 n2 n3 n4 b0 b1 b2 b3 b4 b5 b6 b7 b8 b9 s0 s1))
          have L7 := hid (show q1 < w7.heap.size ∧ q3 < w7.heap.size ∧ w.heap.size ≤ w7.heap.size from ⟨lt_of_block B17.out, lt_of_block B37.out, (T6.out.trans t7 (fun _ _ e => e)).size⟩)
          have B7 := hid (show ((w7.alloc (.cells z17 39)).alloc (.cells #[.int .i64 0, .int .i64 0] 27)).heap[w7.heap.size]? = some (.cells z17 39 (0, 0)) from by
            rw [Below.heap_alloc _ _ _ (by show _ < (w7.heap.push _).size; simp)]
            show (w7.heap.push _)[_]? = _
            simp)
          have B9 := hid (show ((w7.alloc (.cells z17 39)).alloc (.cells #[.int .i64 0, .int .i64 0] 27)).heap[w7.heap.size + 1]? = some (.cells #[.int .i64 0, .int .i64 0] 27 (0, 0)) from by
            have := two_new (w := w7.alloc (.cells z17 39)) (.int .i64 0) (.int .i64 0) 27
            rw [show (w7.alloc (.cells z17 39)).heap.size = w7.heap.size + 1 from by show (w7.heap.push _).size = _; simp] at this
            exact this)
          have HC := hid (fin_r (qp := w7.heap.size) (cs := opts n0 n1 n2 n3 n4 b0 b1 b2 b3 b4 b5 b6 b7 b8 b9 s0 s1) B9.out (Nat.lt_succ_self _))
          have F7 := hid (setRow_heap _ w7.heap.size _ (opts n0 n1 n2 n3 n4 b0 b1 b2 b3 b4 b5 b6 b7 b8 b9 s0 s1) 39 (0, 0) B7.out)
          have F1 := hid ((setRow_other ((w7.alloc (.cells z17 39)).alloc (.cells #[.int .i64 0, .int .i64 0] 27)) w7.heap.size q1 (opts n0 n1 n2 n3 n4 b0 b1 b2 b3 b4 b5 b6 b7 b8 b9 s0 s1) (by have := L7.out; omega)).trans ((TT.out.block q1 L7.out.1 id).trans B17.out))
          have F3 := hid ((setRow_other ((w7.alloc (.cells z17 39)).alloc (.cells #[.int .i64 0, .int .i64 0] 27)) w7.heap.size q3 (opts n0 n1 n2 n3 n4 b0 b1 b2 b3 b4 b5 b6 b7 b8 b9 s0 s1) (by have := L7.out; omega)).trans ((TT.out.block q3 L7.out.2.1 id).trans B37.out))
          clear t7 K13 TT B17 B37
          go_upto_region 18 with (first | (refine wpList_store_row (P := Tryd.prog) rfl 39 (.tmp 7) (.tmp 52) rfl w7.heap.size (opts n0 n1 n2 n3 n4 b0 b1 b2 b3 b4 b5 b6 b7 b8 b9 s0 s1) rfl rfl 39 z17 B7.out (opts_info ..) rfl (opts_one ..) ?_; change wpList _ _ _ _ _ (((w7.alloc (.cells z17 39)).alloc (.cells #[.int .i64 0, .int .i64 0] 27)).setRow w7.heap.size (opts n0 n1 n2 n3 n4 b0 b1 b2 b3 b4 b5 b6 b7 b8 b9 s0 s1)); clear B7 B9; generalize ((w7.alloc (.cells z17 39)).alloc (.cells #[.int .i64 0, .int .i64 0] 27)).setRow w7.heap.size (opts n0 n1 n2 n3 n4 b0 b1 b2 b3 b4 b5 b6 b7 b8 b9 s0 s1) = wz at *; have g0 := cell_two0 HC.out; have g1 := cell_two1 HC.out; have gf0 := free_two (i := 0) HC.out; have gf1 := free_two (i := 1) HC.out) | fail)
          clear g0 g1 gf0 gf1
          have F9 := hid (fset HC.out (.int .i64 0) (.int .i64 0))
          have T9 := hid (ftouch T7.out (q := w7.heap.size + 1) (by have := L7.out; omega) (.int .i64 0) (.int .i64 0))
          have TZ := hid (((Touch.refl (fun k => k = w7.heap.size + 1) wz).setCell (p := ⟨w7.heap.size + 1, 0, none⟩) (fun _ => rfl) (.int .i64 0)).setCell (p := ⟨w7.heap.size + 1, 1, none⟩) (fun _ => rfl) (.int .i64 0))
          have F79 := hid ((TZ.out.block w7.heap.size (lt_of_block F7.out) (fun e => absurd e (by omega))).trans F7.out)
          have F19 := hid ((TZ.out.block q1 (lt_of_block F1.out) (fun e => absurd e (by have := L7.out; omega))).trans F1.out)
          have F39 := hid ((TZ.out.block q3 (lt_of_block F3.out) (fun e => absurd e (by have := L7.out; omega))).trans F3.out)
          generalize (wz.setCell ⟨w7.heap.size + 1, 0, none⟩ (.int .i64 0)).setCell ⟨w7.heap.size + 1, 1, none⟩ (.int .i64 0) = w9 at *
          clear T7 TZ F7 F1 F3 HC T6 B16 B36 L7
          generalize w7.heap.size = q7 at *
          have c0 := cell_two0 F9.out
          have c1 := cell_two1 F9.out
          have c2 : w9.cell? ⟨q1, 17, none⟩ = some (.string s2) := cell_of F19.out 17 (show 17 < 18 by decide)
          have hsame := opts_same n0 n1 n2 n3 n4 b0 b1 b2 b3 b4 b5 b6 b7 b8 b9 s0 s1
          go_wp2_with (first | refine wpList_load_rowG (P := Tryd.prog) rfl 39 (.tmp 7) rfl q7 rfl 39 (opts n0 n1 n2 n3 n4 b0 b1 b2 b3 b4 b5 b6 b7 b8 b9 s0 s1) (0, 0) _ F79.out Tryd.underlying39 rfl (opts_info ..) ?_ | refine wpList_load_rowG (P := Tryd.prog) rfl 39 (.tmp 3) rfl q3 rfl 39 (opts n0 n1 n2 n3 n4 b0 b1 b2 b3 b4 b5 b6 b7 b8 b9 s0 s1) (0, 0) _ F39.out Tryd.underlying39 rfl (opts_info ..) ?_ | fail)
          go_ret
          exact ⟨rfl, T9.out.below _ (Nat.le_refl _) (fun _ e => e.elim)⟩
end Go.Proofs.YtmeekjfnmdbnpaaDoor
