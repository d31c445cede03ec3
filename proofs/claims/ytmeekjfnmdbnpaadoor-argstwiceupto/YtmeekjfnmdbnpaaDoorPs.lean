/- Parse; conditions: the text fits into memory, the library's variables lie there. -/
import Derived.Test.YtmeekjfnmdbnpaaDoorRd
import Derived.Laws.Tables
import Derived.Deep.RegionHeld3
namespace Go.Proofs.YtmeekjfnmdbnpaaDoor
open Go.RowKit
open Go.Lib

def z17 : Array Value := #[.int .i64 0, .int .i64 0, .int .i64 0, .int .i64 0, .bool false, .bool false, .bool false, .bool false, .bool false, .bool false, .bool false, .bool false, .bool false, .bool false, .int .i64 0, .string ⟨#[]⟩, .string ⟨#[]⟩]
def z18 : Array Value := #[.int .i64 0, .int .i64 0, .int .i64 0, .int .i64 0, .bool false, .bool false, .bool false, .bool false, .bool false, .bool false, .bool false, .bool false, .bool false, .bool false, .int .i64 0, .string ⟨#[]⟩, .string ⟨#[]⟩, .string ⟨#[]⟩]
/-- What a text tells: the request's values, or the error's number and place. -/
def paF (s : Bs) : Except (Int × Int) (Array Value) := match un s with
  | .error p => .error (4, (p : Nat))
  | .ok ls => match rdF (ls.length + 2) ls (List.range 18) z18 0 with
    | .error p => .error (29, (p : Nat))
    | .ok cs => .ok cs
theorem one17 : z17.all (·.oneCell') = true := by kernel_rfl
theorem info39 : (Tryd.prog.info? 39).map (·.size) = some z17.size := by kernel_rfl
theorem results_ctc {P : Program} {fn : Func} {t p q : Tmp} {ty tz : TypeId} (h : fn.results = #[.cell p ty, .tmp t, .cell q tz]) (tmps : Array Value) (w : World) (g : Nat) (et : TypeId) (cs : Array Value) (fr : Nat × Nat) (d : TypeDesc) (g' : Nat) (et' : TypeId) (cs' : Array Value) (fr' : Nat × Nat) (d' : TypeDesc)
    (hp : tmps.getD p undef = .pointer (some ⟨g, 0, none⟩)) (hg : w.heap[g]? = some (.cells cs et fr))
    (hu : P.underlying ty = some d) (hd : (match d with | .struct _ | .array _ _ => true | _ => false) = true) (hi : (P.info? ty).map (·.size) = some cs.size)
    (hp' : tmps.getD q undef = .pointer (some ⟨g', 0, none⟩)) (hg' : w.heap[g']? = some (.cells cs' et' fr'))
    (hu' : P.underlying tz = some d') (hd' : (match d' with | .struct _ | .array _ _ => true | _ => false) = true) (hi' : (P.info? tz).map (·.size) = some cs'.size) :
    (results fn tmps).run P w = .ok (.tuple #[.agg cs, tmps.getD t undef, .agg cs']) w := by
  have hp1 : tmps[p]?.getD undef = .pointer (some ⟨g, 0, none⟩) := by simpa using hp
  have hp2 : tmps[q]?.getD undef = .pointer (some ⟨g', 0, none⟩) := by simpa using hp'
  simp [results, h, hp1, hp2, asAddr, run_loadVar_row w g et ty cs fr d hg hu hd hi, run_loadVar_row w g' et' tz cs' fr' d' hg' hu' hd' hi']
theorem step_store_row {P : Program} {ops : Array Oper} {o : Oper} {a : Act} {w : World} {K : Act → World → Prop} {Q : Exit → Act → World → Prop} {E : Prop} (hg0 : o.guard = none) (ty : TypeId) (x y : Operand) (ho : o.op = .store ty x y)
    (g : Nat) (cells : Array Value) (hx : a.eval x = .pointer (some ⟨g, 0, none⟩)) (hy : a.eval y = .agg cells)
    (t : TypeId) (old : Array Value) (hg : w.heap[g]? = some (.cells old t (0, 0))) (hi : (P.info? ty).map (·.size) = some cells.size)
    (hold : old.size = cells.size) (h1 : cells.all (·.oneCell') = true)
    (h : K (a.put o.dst undef) (w.setRow g cells)) : if Region.wanted o (yielded ops a.tmps) = true then Oper.wp P o a w K Q else E := by
  have hw : Region.wanted o (yielded ops a.tmps) = true := by simp [Region.wanted, hg0]
  rw [if_pos hw]
  exact wp_store_row ty x y ho g cells hx hy t old hg hi hold h1 h
theorem Touch.setRow {S : Nat → Prop} {a w : World} (h : Touch S a w) {g : Nat} (hp : g < a.heap.size → S g) (cs : Array Value) : Touch S a (w.setRow g cs) :=
  h.trans (S' := fun k => k = g) ⟨rfl, rfl, rfl, by show _ ≤ (w.heap.modify g _).size; simp, fun k _ hk => setRow_other w g k cs hk⟩ (fun i hi e => by subst e; exact hp hi)
theorem fin_p {w : World} {qp qf : Nat} {cs old : Array Value} {ty : TypeId} (h : w.heap[qp]? = some (.cells old ty (0, 0))) (hne : qp < qf) (x y : Value) : (((w.setRow qp cs).setCell ⟨qf, 0, none⟩ x).setCell ⟨qf, 1, none⟩ y).heap[qp]? = some (.cells cs ty (0, 0)) := by
  rw [Below.heap_setCell _ _ _ _ (show qp ≠ qf by omega), Below.heap_setCell _ _ _ _ (show qp ≠ qf by omega)]
  exact setRow_heap w qp old cs ty (0, 0) h
theorem fin_r {w : World} {qp qf : Nat} {cs : Array Value} {o : Obj} (h : w.heap[qf]? = some o) (hne : qp < qf) : (w.setRow qp cs).heap[qf]? = some o := (setRow_other w qp qf cs (by omega)).trans h
theorem fin_t {S : Nat → Prop} {w w' : World} {qp qf : Nat} (T : Touch S w w') (hp : w.heap.size ≤ qp) (hf : w.heap.size ≤ qf) (cs : Array Value) (x y : Value) : Touch S w (((w'.setRow qp cs).setCell ⟨qf, 0, none⟩ x).setCell ⟨qf, 1, none⟩ y) :=
  ftouch (T.setRow (fun h => absurd h (Nat.not_lt.2 hp)) cs) hf x y
set_option maxRecDepth 100000 in
set_option maxHeartbeats 4000000 in
theorem keysD_any (w : World) : Calls Tryd.prog 18 #[] w fun e w' => e = .returned (.slice (some ⟨w.heap.size, 0, none⟩) 18 18) ∧ w' = w.alloc (.cells (words.map sv).toArray 9) := by
  go_enter Tryd.func18, Tryd.ntmps18
  go_wp2
  go_ret
  exact ⟨rfl, rfl⟩
set_option maxRecDepth 100000 in
set_option maxHeartbeats 4000000 in
theorem parse_bad (s : ByteArray) (p : Nat) (w : World) (hs : s.size ≤ 1099511627776) (hx : Sx w) (hu : un s.data.toList = .error p) :
    Calls Tryd.prog 13 #[.string s] w fun e w' => e = .returned (.tuple #[.agg z17, .string ⟨#[]⟩, .agg #[.int .i64 4, .int .i64 (p : Nat)]]) ∧ Touch (fun _ => False) w w' := by
  have TA := hid (((Touch.refl (fun _ => False) w).alloc (.cells z17 39)).alloc (.cells #[.int .i64 0, .int .i64 0] 27))
  have B2 := hid (show ((w.alloc (.cells z17 39)).alloc (.cells #[.int .i64 0, .int .i64 0] 27)).heap[w.heap.size]? = some (.cells z17 39 (0, 0)) from by
    rw [Below.heap_alloc _ _ _ (by show _ < (w.heap.push _).size; simp)]
    show (w.heap.push _)[_]? = _
    simp)
  have B4 := hid (show ((w.alloc (.cells z17 39)).alloc (.cells #[.int .i64 0, .int .i64 0] 27)).heap[w.heap.size + 1]? = some (.cells #[.int .i64 0, .int .i64 0] 27 (0, 0)) from by
    have := two_new (w := w.alloc (.cells z17 39)) (.int .i64 0) (.int .i64 0) 27
    rw [show (w.alloc (.cells z17 39)).heap.size = w.heap.size + 1 from by show (w.heap.push _).size = _; simp] at this
    exact this)
  have K := hid (unpack_any s _ hs (hx.new TA.out))
  rw [hu] at K
  unfold faE faA okL at K
  dsimp only at K
  clear hx hu
  go_enter Tryd.func13, Tryd.ntmps13
  go_wp2_with fail
  change Calls _ _ _ ((w.alloc (.cells z17 39)).alloc (.cells #[.int .i64 0, .int .i64 0] 27)) _
  generalize (w.alloc (.cells z17 39)).alloc (.cells #[.int .i64 0, .int .i64 0] 27) = wa at *
  obtain ⟨q2, hq2⟩ : ∃ q2, q2 = w.heap.size := ⟨_, rfl⟩
  obtain ⟨q4, hq4⟩ : ∃ q4, q4 = w.heap.size + 1 := ⟨_, rfl⟩
  rw [← hq4] at B4 ⊢
  rw [← hq2] at B2 ⊢
  have HQ := hid (show w.heap.size ≤ q2 ∧ q2 < q4 from ⟨by omega, by omega⟩)
  clear hq2 hq4
  refine K.out.mono ?_
  rintro e w1 ⟨v1, rfl, ow1⟩
  obtain ⟨a1, c1, hv1⟩ := own_shape ow1.own
  subst hv1
  have TT := hid (ow1.touch.alloc (.cells #[.int .i64 4, .int .i64 (p : Nat)] 27))
  have F6 := hid (two_new (w := w1) (.int .i64 4) (.int .i64 (p : Nat)) 27)
  have B2b := hid ((TT.out.block q2 (lt_of_block B2.out) id).trans B2.out)
  have B4b := hid ((TT.out.block q4 (lt_of_block B4.out) id).trans B4.out)
  have T2 := hid (TA.out.trans TT.out (fun _ _ e => e))
  have HQ6 := hid (show q4 < w1.heap.size from Nat.lt_of_lt_of_le (lt_of_block B4.out) ow1.touch.size)
  clear ow1 K TT B2 B4 TA
  go_upto_region 2 with fail
  generalize w1.alloc (.cells #[.int .i64 4, .int .i64 (p : Nat)] 27) = w2 at *
  generalize w1.heap.size = q6 at *
  have f0 := cell_two0 F6.out
  have f1 := cell_two1 F6.out
  go_upto_region 3 with fail
  have d0 : w2.drew.cell? ⟨q6, 0, none⟩ = some (.int .i64 4) := f0
  have d1 : w2.drew.cell? ⟨q6, 1, none⟩ = some (.int .i64 (p : Nat)) := f1
  have B2c := hid (show w2.drew.heap[q2]? = some (.cells z17 39 (0, 0)) from B2b.out)
  have B4c := hid (show w2.drew.heap[q4]? = some (.cells #[.int .i64 0, .int .i64 0] 27 (0, 0)) from B4b.out)
  have T3 := hid (T2.out.drew)
  have FF9 := hid (fin_r (qp := q2) (cs := z17) B4c.out HQ.out.2)
  have hq6 : q6 ≠ q2 := by have h1 := HQ6.out; have h2 := HQ.out; omega
  have hq64 : q6 ≠ q4 := by have h1 := HQ6.out; omega
  have e0 : (w2.drew.setRow q2 z17).cell? ⟨q6, 0, none⟩ = some (.int .i64 4) := by
    rw [World.cell?_of_block (w := w2.drew) (setRow_other w2.drew q2 q6 z17 hq6)]
    exact d0
  have e1 : (w2.drew.setRow q2 z17).cell? ⟨q6, 1, none⟩ = some (.int .i64 (p : Nat)) := by
    rw [World.cell?_of_block (w := w2.drew) (setRow_other w2.drew q2 q6 z17 hq6)]
    exact d1
  have g0 := cell_two0 FF9.out
  have g1 := cell_two1 FF9.out
  have gf0 := free_two (i := 0) FF9.out
  have gf1 := free_two (i := 1) FF9.out
  have mixed : Tryd.prog.follows Departure.mixedOrders = true := by kernel_rfl
  clear f0 f1
  refine wp_region_held (S := fun w' => w'.cell? ⟨q6, 0, none⟩ = some (.int .i64 4) ∧ w'.cell? ⟨q6, 1, none⟩ = some (.int .i64 (p : Nat))) mixed ?_
  change wpAnyH _ _ _ _ _ _ _ _ w2.drew
  refine wpAnyH_take (i := 0) (v := .agg z17) rfl (by kernel_rfl) (by kernel_rfl) (by kernel_rfl) (fun _ _ _ h => h) (.inl ⟨rfl, fun w' _ => ?_⟩) ⟨d0, d1⟩ ?_
  · go_simp
    rfl
  refine wpAnyH_take (i := 1) (v := .agg #[.int .i64 4, .int .i64 (p : Nat)]) rfl (by kernel_rfl) (by kernel_rfl) (by kernel_rfl) (fun _ _ _ h => h) (.inl ⟨rfl, fun w' hS => ?_⟩) ⟨d0, d1⟩ ?_
  · obtain ⟨s0, s1⟩ := hS
    go_simp
  refine wpAnyH_all (rs := [2]) (by kernel_rfl) (by simp) ?_
  refine AllReadyH.cons rfl (fun K hK => ?_) AllReadyH.nil
  refine step_store_row rfl 39 (.tmp 2) (.tmp 18) rfl q2 z17 rfl rfl 39 z17 B2c.out info39 rfl one17 ?_
  refine hK.out _ _ ⟨e0, e1⟩ (fun _ => ?_)
  clear hK K
  refine wpAnyH_all (rs := [3]) (by kernel_rfl) (by simp) ?_
  refine AllReadyH.cons rfl (fun K hK => ?_) AllReadyH.nil
  go_simp
  refine hK.out _ _ ⟨e0, e1⟩ (fun _ => ?_)
  clear hK K
  refine wpAnyH_all (rs := [4]) (by kernel_rfl) (by simp) ?_
  refine AllReadyH.cons rfl (fun K hK => ?_) AllReadyH.nil
  go_simp
  have TS := hid (((Touch.refl (fun k => k = q4) (w2.drew.setRow q2 z17)).setCell (p := ⟨q4, 0, none⟩) (fun _ => rfl) (.int .i64 4)).setCell (p := ⟨q4, 1, none⟩) (fun _ => rfl) (.int .i64 (p : Nat)))
  refine hK.out _ _ ⟨(TS.out.cell (p := ⟨q6, 0, none⟩) (Lib.lt_of_cell e0) hq64).trans e0, (TS.out.cell (p := ⟨q6, 1, none⟩) (Lib.lt_of_cell e1) hq64).trans e1⟩ (fun _ => ?_)
  clear hK K e0 e1 g0 g1 gf0 gf1 d0 d1 TS
  refine wpAnyH_done (by kernel_rfl) ?_ _
  go_wp2
  refine bodyPost_ret (results_ctc rfl _ _ q2 39 _ (0, 0) _ q4 27 _ (0, 0) _ rfl (fin_p B2c.out HQ.out.2 _ _) Tryd.underlying39 rfl (by kernel_rfl) rfl (fset FF9.out _ _) Tryd.underlying27 rfl (by kernel_rfl)) rfl ?_
  exact ⟨rfl, fin_t T3.out HQ.out.1 (by have := HQ.out; omega) _ _ _⟩
end Go.Proofs.YtmeekjfnmdbnpaaDoor
