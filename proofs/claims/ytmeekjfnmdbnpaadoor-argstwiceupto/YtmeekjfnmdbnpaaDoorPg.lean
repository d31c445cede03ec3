/- Parse of a text that is unpacked and read; conditions: it fits into memory, the library's variables lie there. -/
import Derived.Test.YtmeekjfnmdbnpaaDoorPt
namespace Go.Proofs.YtmeekjfnmdbnpaaDoor
open Go.RowKit
open Go.Lib

set_option maxRecDepth 100000 in
set_option maxHeartbeats 4000000 in
theorem parse_good (s : ByteArray) (ls : List Bs) (cs : Array Value) (w : World) (hs : s.size ≤ 1099511627776) (hx : Sx w) (hu : un s.data.toList = .ok ls) (hr : rdF (ls.length + 2) ls (List.range 18) z18 0 = .ok cs) :
    Calls Tryd.prog 13 #[.string s] w fun e w' => ∃ (c17 : List Value) (bv : Value), cs.toList = c17 ++ [bv] ∧ c17.length = 17 ∧ e = .returned (.tuple #[.agg c17.toArray, bv, .agg #[.int .i64 0, .int .i64 0]]) ∧ Touch (fun _ => False) w w' := by
  have HONE := hid (rd_one _ _ _ _ _ cs hr z18_one)
  obtain ⟨c17, bv, hcs, hc17⟩ : ∃ (c17 : List Value) (bv : Value), cs.toList = c17 ++ [bv] ∧ c17.length = 17 := by
    have hsz := rd_size _ _ _ _ _ cs hr
    have hne : cs.toList ≠ [] := fun e => by
      have := congrArg List.length e
      rw [Array.length_toList, hsz] at this
      exact absurd this (by decide)
    refine ⟨cs.toList.dropLast, cs.toList.getLast hne, (List.dropLast_concat_getLast hne).symm, ?_⟩
    rw [List.length_dropLast, Array.length_toList, hsz]
    rfl
  refine Calls.mono (R := fun e w' => e = .returned (.tuple #[.agg c17.toArray, bv, .agg #[.int .i64 0, .int .i64 0]]) ∧ Touch (fun _ => False) w w') ?_ (fun e w' h => ⟨c17, bv, hcs, hc17, h.1, h.2⟩)
  have H1 := hid (show ∀ v ∈ c17, v.oneCell' = true from fun v hv => HONE.out v (by rw [hcs]; simp [hv]))
  have HCS := hid hcs
  have HC17 := hid hc17
  clear HONE hcs hc17
  have HSZ := hid (show 3 < w.heap.size from by
    obtain ⟨ev, h1, _⟩ := hx.ran
    exact Lib.lt_of_cell h1)
  have hll : ls.length ≤ 1099511627776 := by
    have := ok_len s.data.toList
    rw [hu, len_size] at this
    have e : okL (.ok ls) = ls := rfl
    rw [e] at this
    omega
  have HTL := hid (show ∀ t ∈ ls, t.length ≤ 1099511627776 from fun t ht => by
    have := (un_ok _ _ _ _ hu).2 t ht
    omega)
  have HX := hid hx
  have TA := hid (((Touch.refl (fun _ => False) w).alloc (.cells z17 39)).alloc (.cells #[.int .i64 0, .int .i64 0] 27))
  have B2 := hid (show ((w.alloc (.cells z17 39)).alloc (.cells #[.int .i64 0, .int .i64 0] 27)).heap[w.heap.size]? = some (.cells z17 39 (0, 0)) from by
    rw [Below.heap_alloc _ _ _ (by show _ < (w.heap.push _).size; simp)]
    show (w.heap.push _)[_]? = _
    simp)
  have B4 := hid (show ((w.alloc (.cells z17 39)).alloc (.cells #[.int .i64 0, .int .i64 0] 27)).heap[w.heap.size + 1]? = some (.cells #[.int .i64 0, .int .i64 0] 27 (0, 0)) from by
    have := two_new (w := w.alloc (.cells z17 39)) (.int .i64 0) (.int .i64 0) 27
    rw [show (w.alloc (.cells z17 39)).heap.size = w.heap.size + 1 from by show (w.heap.push _).size = _; simp] at this
    exact this)
  have K := hid (unpack_any s _ hs (hx.new TA.out))
  rw [hu] at K
  unfold faE faA okL at K
  dsimp only at K
  have HRR := hid hr
  clear hx hu hr
  go_enter Tryd.func13, Tryd.ntmps13
  go_wp2_with fail
  change Calls _ _ _ ((w.alloc (.cells z17 39)).alloc (.cells #[.int .i64 0, .int .i64 0] 27)) _
  generalize (w.alloc (.cells z17 39)).alloc (.cells #[.int .i64 0, .int .i64 0] 27) = wa at *
  obtain ⟨q2, hq2⟩ : ∃ q2, q2 = w.heap.size := ⟨_, rfl⟩
  obtain ⟨q4, hq4⟩ : ∃ q4, q4 = w.heap.size + 1 := ⟨_, rfl⟩
  rw [← hq4] at B4 ⊢
  rw [← hq2] at B2 ⊢
  have HQ := hid (show w.heap.size ≤ q2 ∧ q2 < q4 from ⟨by omega, by omega⟩)
  clear hq2 hq4
  refine K.out.mono ?_
  rintro e w1 ⟨v1, rfl, ow1⟩
  obtain ⟨a1, c1, hv1⟩ := own_shape ow1.own
  subst hv1
  have N1 := hid (ow1.nl.new ((Touch.refl _ _).alloc (.cells #[.int .i64 0, .int .i64 0] 27)))
  have HAD := hid (show ∀ a, a1 = some a → a.block < w1.heap.size from fun a e => by
    have h := ow1.own
    rw [e] at h
    exact own_block h)
  have TT := hid (ow1.touch.alloc (.cells #[.int .i64 0, .int .i64 0] 27))
  have F6 := hid (two_new (w := w1) (.int .i64 0) (.int .i64 0) 27)
  have B2b := hid ((TT.out.block q2 (lt_of_block B2.out) id).trans B2.out)
  have B4b := hid ((TT.out.block q4 (lt_of_block B4.out) id).trans B4.out)
  have T2 := hid (TA.out.trans TT.out (fun _ _ e => e))
  have HQ6 := hid (show q4 < w1.heap.size from Nat.lt_of_lt_of_le (lt_of_block B4.out) ow1.touch.size)
  have HS2 := hid (show w1.heap.size < (w1.alloc (.cells #[.int .i64 0, .int .i64 0] 27)).heap.size by show _ < (w1.heap.push _).size; simp)
  clear ow1 K TT B2 B4 TA
  go_upto_region 2 with fail
  generalize w1.alloc (.cells #[.int .i64 0, .int .i64 0] 27) = w2 at *
  generalize w1.heap.size = q6 at *
  have f0 := cell_two0 F6.out
  have f1 := cell_two1 F6.out
  go_wp2_with fail
  change Calls _ _ _ (w2.alloc (.cells z18 67)) _
  have RQ := hid (show Rq (w2.alloc (.cells z18 67)) w2.heap.size z18 from ⟨by show (w2.heap.push _)[_]? = _; simp, rfl⟩)
  have T3 := hid ((Touch.refl (fun _ => False) w2).alloc (.cells z18 67))
  have KR := hid (read_any w2.heap.size z18 a1 c1 ls (w2.alloc (.cells z18 67)) (N1.out.new T3.out) (fun a e => by have h1 := HAD.out a e; have h2 := HS2.out; omega) RQ.out (HX.out.new (T2.out.trans T3.out (fun _ _ e => e))) hll HTL.out (fun k hk => by simpa using hk) (by have h1 := HSZ.out; have h2 := HQ.out; have h3 := HQ6.out; have h4 := HS2.out; omega))
  rw [HRR.out] at KR
  refine KR.out.mono ?_
  rintro e w4 ⟨rfl, hrq, t4⟩
  have RQ4 := hid (hrq cs rfl)
  have HRB := hid (show q4 < w2.heap.size from by have h3 := HQ6.out; have h4 := HS2.out; omega)
  have B2c := hid ((t4.block q2 (Nat.lt_of_lt_of_le (lt_of_block B2b.out) T3.out.size) (fun e => by have e' : q2 = w2.heap.size := e; have h2 := HQ.out; have h3 := HQ6.out; have h4 := HS2.out; omega)).trans ((T3.out.block q2 (lt_of_block B2b.out) id).trans B2b.out))
  have B4c := hid ((t4.block q4 (Nat.lt_of_lt_of_le (lt_of_block B4b.out) T3.out.size) (fun e => by have e' : q4 = w2.heap.size := e; have h3 := HQ6.out; have h4 := HS2.out; omega)).trans ((T3.out.block q4 (lt_of_block B4b.out) id).trans B4b.out))
  have T5 := hid ((T2.out.trans T3.out (fun _ _ e => e)).trans t4 (fun i hi e => by have e' : i = w2.heap.size := e; have h2 := T2.out.size; omega))
  unfold rdP rdB
  dsimp only
  clear KR t4 T3 T2 RQ hrq B2b B4b f0 f1 F6 N1 HAD
  generalize w2.heap.size = rb at *
  have B2d := hid (show w4.drew.heap[q2]? = some (.cells z17 39 (0, 0)) from B2c.out)
  have B4d := hid (show w4.drew.heap[q4]? = some (.cells #[.int .i64 0, .int .i64 0] 27 (0, 0)) from B4c.out)
  have T6 := hid T5.out.drew
  have FF9 := hid (fin_r (qp := q2) (cs := c17.toArray) B4d.out HQ.out.2)
  have RA := hid (show w4.drew.rangeAt rb 0 c17 from fun j v hv => by
    have hj := (List.getElem?_eq_some_iff.1 hv).1
    have h1 := RQ4.out.1
    rw [Nat.zero_add]
    show w4.cell? ⟨rb, j, none⟩ = some v
    have h2 : cs[j]? = some v := by
      rw [← Array.getElem?_toList, HCS.out, List.getElem?_append_left hj]
      exact hv
    simp [World.cell?, h1, h2])
  have RB := hid (show w4.drew.cell? ⟨rb, 17, none⟩ = some bv from by
    have h1 := RQ4.out.1
    show w4.cell? ⟨rb, 17, none⟩ = some bv
    have h2 : cs[17]? = some bv := by
      rw [← Array.getElem?_toList, HCS.out, List.getElem?_append_right (by rw [HC17.out]; exact Nat.le_refl _), HC17.out]
      rfl
    simp [World.cell?, h1, h2])
  have hrb2 : rb ≠ q2 := by have h1 := HRB.out; have h2 := HQ.out; omega
  have hrb4 : rb ≠ q4 := by have h1 := HRB.out; omega
  have TS2 := hid ((Touch.refl (fun k => k = q2) w4.drew).setRow (g := q2) (fun _ => rfl) c17.toArray)
  have LRB := hid (show rb < w4.drew.heap.size from lt_of_block RQ4.out.1)
  have RA2 := hid (show (w4.drew.setRow q2 c17.toArray).rangeAt rb 0 c17 from fun j v hv => (TS2.out.cell (p := ⟨rb, 0 + j, none⟩) LRB.out hrb2).trans (RA.out j v hv))
  have RB2 := hid (show (w4.drew.setRow q2 c17.toArray).cell? ⟨rb, 17, none⟩ = some bv from (TS2.out.cell (p := ⟨rb, 17, none⟩) LRB.out hrb2).trans RB.out)
  have g0 := cell_two0 FF9.out
  have g1 := cell_two1 FF9.out
  have gf0 := free_two (i := 0) FF9.out
  have gf1 := free_two (i := 1) FF9.out
  have mixed : Tryd.prog.follows Departure.mixedOrders = true := by kernel_rfl
  have hi39 : (Tryd.prog.info? 39).map (·.size) = some c17.length := by rw [HC17.out]; kernel_rfl
  have hi39a : (Tryd.prog.info? 39).map (·.size) = some c17.toArray.size := by rw [List.size_toArray]; exact hi39
  have HZ : z17.size = c17.toArray.size := (show z17.size = 17 from rfl).trans (by rw [List.size_toArray, HC17.out])
  go_upto_region 8 with fail
  refine wp_region_held (S := fun w' => w'.rangeAt rb 0 c17 ∧ w'.cell? ⟨rb, 17, none⟩ = some bv) mixed ?_
  change wpAnyH _ _ _ _ _ _ _ _ w4.drew
  refine wpAnyH_take (i := 0) (v := .pointer (some ⟨rb, 0, none⟩)) rfl (by kernel_rfl) (by kernel_rfl) (by kernel_rfl) (fun _ _ _ h => h) (.inl ⟨by kernel_rfl, fun w' _ => ?_⟩) ⟨RA.out, RB.out⟩ ?_
  · go_simp
  refine wpAnyH_take (i := 1) (v := .agg c17.toArray) rfl (by kernel_rfl) (by kernel_rfl) (by kernel_rfl) (fun _ _ _ h => h) (yieldsIf_load_mid (by kernel_rfl) 39 (.tmp 30) (by kernel_rfl) rb 0 (by kernel_rfl) c17 _ (fun w' h => h.1) Tryd.underlying39 rfl hi39) ⟨RA.out, RB.out⟩ ?_
  refine wpAnyH_take (i := 2) (v := .pointer (some ⟨rb, 17, none⟩)) rfl (by kernel_rfl) (by kernel_rfl) (by kernel_rfl) (fun _ _ _ h => h) (.inl ⟨by kernel_rfl, fun w' _ => ?_⟩) ⟨RA.out, RB.out⟩ ?_
  · go_simp
  refine wpAnyH_take (i := 3) (v := bv) rfl (by kernel_rfl) (by kernel_rfl) (by kernel_rfl) (fun _ _ _ h => h) (.inl ⟨by kernel_rfl, fun w' hS => ?_⟩) ⟨RA.out, RB.out⟩ ?_
  · have s1 := hS.2
    clear hS
    go_simp
  refine wpAnyH_take (i := 4) (v := .agg #[.int .i64 0, .int .i64 0]) rfl (by kernel_rfl) (by kernel_rfl) (by kernel_rfl) (fun _ _ _ h => h) (.inl ⟨by kernel_rfl, fun w' _ => ?_⟩) ⟨RA.out, RB.out⟩ ?_
  · go_simp
  refine wpAnyH_ready (rs := [5]) (by kernel_rfl) (by simp) ?_
  refine AllReadyH.cons rfl (fun K hK => ?_) AllReadyH.nil
  refine step_store_row rfl 39 (.tmp 2) (.tmp 31) (by kernel_rfl) q2 c17.toArray (by kernel_rfl) (by kernel_rfl) 39 z17 B2d.out hi39a HZ (all_oneCell_toArray H1.out) ?_
  refine hK.out _ _ ⟨RA2.out, RB2.out⟩ (fun _ => ?_)
  clear hK K
  refine wpAnyH_ready (rs := [6]) (by kernel_rfl) (by simp) ?_
  refine AllReadyH.cons rfl (fun K hK => ?_) AllReadyH.nil
  go_simp
  refine hK.out _ _ ⟨RA2.out, RB2.out⟩ (fun _ => ?_)
  clear hK K
  refine wpAnyH_ready (rs := [7]) (by kernel_rfl) (by simp) ?_
  refine AllReadyH.cons rfl (fun K hK => ?_) AllReadyH.nil
  go_simp
  have TS := hid (((Touch.refl (fun k => k = q4) (w4.drew.setRow q2 c17.toArray)).setCell (p := ⟨q4, 0, none⟩) (fun _ => rfl) (.int .i64 0)).setCell (p := ⟨q4, 1, none⟩) (fun _ => rfl) (.int .i64 0))
  have LR2 := hid (Nat.lt_of_lt_of_le LRB.out TS2.out.size)
  refine hK.out _ _ ⟨fun j v hv => (TS.out.cell (p := ⟨rb, 0 + j, none⟩) LR2.out hrb4).trans (RA2.out j v hv), (TS.out.cell (p := ⟨rb, 17, none⟩) LR2.out hrb4).trans RB2.out⟩ (fun _ => ?_)
  clear hK K g0 g1 gf0 gf1 TS LR2
  refine wpAnyH_done (by kernel_rfl) ?_ _
  go_wp2
  refine bodyPost_ret (results_ctc rfl _ _ q2 39 _ (0, 0) _ q4 27 _ (0, 0) _ rfl (fin_p B2d.out HQ.out.2 _ _) Tryd.underlying39 rfl hi39a rfl (fset FF9.out _ _) Tryd.underlying27 rfl (by kernel_rfl)) rfl ?_
  exact ⟨rfl, fin_t T6.out HQ.out.1 (by have := HQ.out; omega) _ _ _⟩
end Go.Proofs.YtmeekjfnmdbnpaaDoor
