/- A statement of the law ArgsTwice that draws its order: two calls, and two blocks that may be made at any time; no condition. -/
import Derived.Test.YtmeekjfnmdbnpaaDoorLw
import Derived.Great.Frames
namespace Go.Proofs.YtmeekjfnmdbnpaaDoor
open Go.RowKit
open Go.Lib

def opsA : Code → Nat → List Oper
  | .region id ops _, i => if id = i then ops.toList else []
  | .seq a b, i => opsA a i ++ opsA b i
  | .cond _ a b, i => opsA a i ++ opsA b i
  | .block _ b, i => opsA b i
  | .loop b, i => opsA b i
  | _, _ => []
noncomputable def R21 : Array Oper := match Tryd.f7.body with
  | some c => (opsA c 21).toArray
  | none => #[]
noncomputable def o21 (i : Nat) : Oper := (R21[i]?).getD { dst := none, op := .move (.tmp 0), type := 0, pos := "", after := #[], guard := none }
theorem d12 : (o21 12).dst = some 134 := by kernel_rfl
theorem d13 : (o21 13).dst = some 135 := by kernel_rfl
theorem d14 : (o21 14).dst = some 136 := by kernel_rfl
theorem d15 : (o21 15).dst = some 137 := by kernel_rfl
theorem d16 : (o21 16).dst = some 121 := by kernel_rfl
theorem d17 : (o21 17).dst = some 138 := by kernel_rfl
theorem d18 : (o21 18).dst = some 139 := by kernel_rfl
theorem d19 : (o21 19).dst = some 140 := by kernel_rfl
theorem d20 : (o21 20).dst = some 16 := by kernel_rfl
theorem d21 : (o21 21).dst = some 18 := by kernel_rfl
theorem d22 : (o21 22).dst = none := by kernel_rfl
theorem d23 : (o21 23).dst = some 17 := by kernel_rfl
theorem d24 : (o21 24).dst = none := by kernel_rfl
theorem k14 : (o21 14).op = .binOp .add 9 (.tmp 122) (.tmp 135) 9 := by kernel_rfl
theorem k16 : (o21 16).op = .move (.tmp 137) := by kernel_rfl
theorem k17 : (o21 17).op = .extract (.tmp 121) 0 := by kernel_rfl
theorem k18 : (o21 18).op = .extract (.tmp 121) 1 := by kernel_rfl
theorem k19 : (o21 19).op = .extract (.tmp 121) 2 := by kernel_rfl
theorem k12 : (o21 12).op = .buildSlice 24 2 #[(0, .tmp 127), (1, .tmp 133)] := by kernel_rfl
theorem k20 : (o21 20).op = .alloc 39 := by kernel_rfl
theorem k21 : (o21 21).op = .alloc 27 := by kernel_rfl
theorem k22 : (o21 22).op = .store 39 (.tmp 16) (.tmp 138) := by kernel_rfl
theorem k23 : (o21 23).op = .assign (.tmp 139) := by kernel_rfl
theorem k24 : (o21 24).op = .store 27 (.tmp 18) (.tmp 140) := by kernel_rfl
theorem put_size (a : Act) (d : Option Tmp) (v : Value) : (a.put d v).tmps.size = a.tmps.size := by
  unfold Act.put
  split <;> simp
theorem put_none (a : Act) (v : Value) : a.put none v = a := rfl
theorem pc16 (a : Act) {d : Nat} (h : d ≠ 16) (u v : Value) : (a.put (some 16) u).put (some d) v = (a.put (some d) v).put (some 16) u := Act.put_comm a u v (fun e he => by cases he; intro e2; exact h (Option.some.inj e2))
theorem pc18 (a : Act) {d : Nat} (h : d ≠ 18) (u v : Value) : (a.put (some 18) u).put (some d) v = (a.put (some d) v).put (some 18) u := Act.put_comm a u v (fun e he => by cases he; intro e2; exact h (Option.some.inj e2))
/-- An operation that runs and yields a value. -/
theorem AllReadyH.run {P : Program} {ops : Array Oper} {Q : Exit → Act → World → Prop} {md : Region.Mode} {S : World → Prop} {fuel : Nat} {listed : Array Bool} {a : Act} {w : World} {i : Nat} {rs : List Nat} (o : Oper) (ho : ops[i]? = some o) (hw : Region.wanted o (yielded ops a.tmps) = true) (v : Value) (w' : World)
    (hr : (execOp a.eval o).run P w = .ok (.value v) w') (hS : S w') (h : wpAnyH P md ops Q S fuel (listed.setIfInBounds i true) (a.put o.dst v) w')
    (hs : AllReadyH P md ops Q S fuel listed a w rs) : AllReadyH P md ops Q S fuel listed a w (i :: rs) :=
  AllReadyH.cons ho (fun K hK => by
    rw [if_pos hw]
    unfold Oper.wp
    rw [hr]
    exact hK.out _ _ hS (fun _ => h)) hs
theorem AllReadyH.skip {P : Program} {ops : Array Oper} {Q : Exit → Act → World → Prop} {md : Region.Mode} {S : World → Prop} {fuel : Nat} {listed : Array Bool} {a : Act} {w : World} {i : Nat} {rs : List Nat} (o : Oper) (ho : ops[i]? = some o) (hw : Region.wanted o (yielded ops a.tmps) = true) (w' : World)
    (hr : (execOp a.eval o).run P w = .ok .skip w') (hS : S w') (h : wpAnyH P md ops Q S fuel (listed.setIfInBounds i true) (a.put o.dst undef) w')
    (hs : AllReadyH P md ops Q S fuel listed a w rs) : AllReadyH P md ops Q S fuel listed a w (i :: rs) :=
  AllReadyH.cons ho (fun K hK => by
    rw [if_pos hw]
    unfold Oper.wp
    rw [hr]
    exact hK.out _ _ hS (fun _ => h)) hs
theorem run_12 (a : Act) (w : World) (x y : ByteArray) (e1 : a.eval (.tmp 127) = .string x) (e2 : a.eval (.tmp 133) = .string y) : (execOp a.eval (o21 12)).run Tryd.prog w = .ok (.value (.slice (some ⟨w.heap.size, 0, none⟩) 2 2)) (w.alloc (.cells #[.string x, .string y] 9)) := by
  have e1 : a.tmps[127]?.getD undef = .string x := by simpa [Act.eval] using e1
  have e2 : a.tmps[133]?.getD undef = .string y := by simpa [Act.eval] using e2
  unfold execOp
  simp only [k12]
  go_simp
theorem run_20 (a : Act) (w : World) : (execOp a.eval (o21 20)).run Tryd.prog w = .ok (.value (.pointer (some ⟨w.heap.size, 0, none⟩))) (w.alloc (.cells z17 39)) := by
  unfold execOp
  simp only [k20]
  go_simp
  rfl
theorem run_21 (a : Act) (w : World) : (execOp a.eval (o21 21)).run Tryd.prog w = .ok (.value (.pointer (some ⟨w.heap.size, 0, none⟩))) (w.alloc (.cells #[.int .i64 0, .int .i64 0] 27)) := by
  unfold execOp
  simp only [k21]
  go_simp
theorem run_23 (a : Act) (w : World) (e : a.eval (.tmp 139) = .string ⟨#[]⟩) : (execOp a.eval (o21 23)).run Tryd.prog w = .ok (.value (.string ⟨#[]⟩)) w := by
  have e : a.tmps[139]?.getD undef = .string ⟨#[]⟩ := by simpa [Act.eval] using e
  unfold execOp
  simp only [k23]
  go_simp
theorem run_14 (a : Act) (w : World) (x y : ByteArray) (e1 : a.eval (.tmp 122) = .string x) (e2 : a.eval (.tmp 135) = .string y) (hb : x.size + y.size ≤ 9223372036854775807) : (execOp a.eval (o21 14)).run Tryd.prog w = .ok (.value (.string (x ++ y))) w := by
  have e1 : a.tmps[122]?.getD undef = .string x := by simpa [Act.eval] using e1
  have e2 : a.tmps[135]?.getD undef = .string y := by simpa [Act.eval] using e2
  unfold execOp
  simp only [k14]
  go_simp
theorem run_16 (a : Act) (w : World) (v : Value) (e : a.eval (.tmp 137) = v) : (execOp a.eval (o21 16)).run Tryd.prog w = .ok (.value v) w := by
  have e : a.tmps[137]?.getD undef = v := by simpa [Act.eval] using e
  unfold execOp
  simp only [k16]
  go_simp
theorem run_17 (a : Act) (w : World) (x y z : Value) (e : a.eval (.tmp 121) = .tuple #[x, y, z]) : (execOp a.eval (o21 17)).run Tryd.prog w = .ok (.value x) w := by
  have e : a.tmps[121]?.getD undef = .tuple #[x, y, z] := by simpa [Act.eval] using e
  unfold execOp
  simp only [k17]
  go_simp
theorem run_18 (a : Act) (w : World) (x y z : Value) (e : a.eval (.tmp 121) = .tuple #[x, y, z]) : (execOp a.eval (o21 18)).run Tryd.prog w = .ok (.value y) w := by
  have e : a.tmps[121]?.getD undef = .tuple #[x, y, z] := by simpa [Act.eval] using e
  unfold execOp
  simp only [k18]
  go_simp
theorem run_19 (a : Act) (w : World) (x y z : Value) (e : a.eval (.tmp 121) = .tuple #[x, y, z]) : (execOp a.eval (o21 19)).run Tryd.prog w = .ok (.value z) w := by
  have e : a.tmps[121]?.getD undef = .tuple #[x, y, z] := by simpa [Act.eval] using e
  unfold execOp
  simp only [k19]
  go_simp
theorem run_store39 (a : Act) (w : World) (q : Nat) (e1 : a.eval (.tmp 16) = .pointer (some ⟨q, 0, none⟩)) (e2 : a.eval (.tmp 138) = .agg z17) (h : w.heap[q]? = some (.cells z17 39 (0, 0))) : (execOp a.eval (o21 22)).run Tryd.prog w = .ok .skip (w.setRow q z17) := by
  unfold execOp
  simp only [k22, e1, e2, Instr.storeAt, Instr.sureAddr, Sem.run_bind, Sem.run_pure, Result.andThen_ok, run_storeVar_row w q 39 39 z17 z17 h info39 rfl one17]
theorem run_store27 (a : Act) (w : World) (q : Nat) (Nn : Int) (e1 : a.eval (.tmp 18) = .pointer (some ⟨q, 0, none⟩)) (e2 : a.eval (.tmp 140) = .agg #[.int .i64 29, .int .i64 Nn]) (h : w.heap[q]? = some (.cells #[.int .i64 0, .int .i64 0] 27 (0, 0))) : (execOp a.eval (o21 24)).run Tryd.prog w = .ok .skip ((w.setCell ⟨q, 0, none⟩ (.int .i64 29)).setCell ⟨q, 1, none⟩ (.int .i64 Nn)) := by
  have c0 := cell_two0 h
  have c1 := cell_two1 h
  have f0 := free_two (i := 0) h
  have f1 := free_two (i := 1) h
  have e1 : a.tmps[18]?.getD undef = .pointer (some ⟨q, 0, none⟩) := by simpa [Act.eval] using e1
  have e2 : a.tmps[140]?.getD undef = .agg #[.int .i64 29, .int .i64 Nn] := by simpa [Act.eval] using e2
  unfold execOp
  simp only [k24]
  go_simp
set_option maxRecDepth 100000 in
set_option maxHeartbeats 8000000 in
theorem reg21 {Q : Exit → Act → World → Prop} {S : World → Prop} (a0 : Act) (w : World) (X XB YB PB : ByteArray) (Nn : Int) (hz : a0.tmps.size = 177) (e122 : a0.eval (.tmp 122) = .string X) (e127 : a0.eval (.tmp 127) = .string XB) (e133 : a0.eval (.tmp 133) = .string YB)
    (hXP : X.size + PB.size ≤ 9223372036854775807) (hS : ∀ W, Touch (fun _ => False) w W → S W) (hQp : ∀ c a (d : Tmp) v w, Q (.panic c) (a.put (some d) v) w → Q (.panic c) a w)
    (KP : ∀ W q, Touch (fun _ => False) w W → W.heap[q]? = some (.cells #[.string XB, .string YB] 9 (0, 0)) → Calls Tryd.prog 9 #[.slice (some ⟨q, 0, none⟩) 2 2] W fun e w' => e = .returned (.string PB) ∧ Touch (fun _ => False) W w')
    (KX : ∀ W, Touch (fun _ => False) w W → Calls Tryd.prog 13 #[.string (X ++ PB)] W fun e w' => e = .returned (.tuple #[.agg z17, .string ⟨#[]⟩, .agg #[.int .i64 29, .int .i64 Nn]]) ∧ Touch (fun _ => False) W w')
    (hQ : ∀ q q16 q18 W, Touch (fun _ => False) w W → W.heap[q18]? = some (.cells #[.int .i64 29, .int .i64 Nn] 27 (0, 0)) → w.heap.size ≤ q18 → Q .normal (((((((((((a0.put (some 134) (.slice (some ⟨q, 0, none⟩) 2 2)).put (some 135) (.string PB)).put (some 136) (.string (X ++ PB))).put (some 137) (.tuple #[.agg z17, .string ⟨#[]⟩, .agg #[.int .i64 29, .int .i64 Nn]])).put (some 121) (.tuple #[.agg z17, .string ⟨#[]⟩, .agg #[.int .i64 29, .int .i64 Nn]])).put (some 138) (.agg z17)).put (some 139) (.string ⟨#[]⟩)).put (some 140) (.agg #[.int .i64 29, .int .i64 Nn])).put (some 16) (.pointer (some ⟨q16, 0, none⟩))).put (some 18) (.pointer (some ⟨q18, 0, none⟩))).put (some 17) (.string ⟨#[]⟩)) W) : wpAnyH Tryd.prog .any R21 Q S 13 #[true, true, true, true, true, true, true, true, true, true, true, true, false, false, false, false, false, false, false, false, false, false, false, false, false] a0 w := by
  have st20tt : ∀ (L : Array Bool) (a : Act) (Wd : World) (q : Nat) (q16 : Nat) (q18 : Nat) , L = #[true, true, true, true, true, true, true, true, true, true, true, true, true, true, true, true, true, true, true, true, true, true, false, false, false] → a = ((((((((((a0.put (some 134) (.slice (some ⟨q, 0, none⟩) 2 2)).put (some 135) (.string PB)).put (some 136) (.string (X ++ PB))).put (some 137) (.tuple #[.agg z17, .string ⟨#[]⟩, .agg #[.int .i64 29, .int .i64 Nn]])).put (some 121) (.tuple #[.agg z17, .string ⟨#[]⟩, .agg #[.int .i64 29, .int .i64 Nn]])).put (some 138) (.agg z17)).put (some 139) (.string ⟨#[]⟩)).put (some 140) (.agg #[.int .i64 29, .int .i64 Nn])).put (some 16) (.pointer (some ⟨q16, 0, none⟩))).put (some 18) (.pointer (some ⟨q18, 0, none⟩))) → Touch (fun _ => False) w Wd → Wd.heap[q16]? = some (.cells z17 39 (0, 0)) ∧ w.heap.size ≤ q16 → Wd.heap[q18]? = some (.cells #[.int .i64 0, .int .i64 0] 27 (0, 0)) ∧ w.heap.size ≤ q18 → wpAnyH Tryd.prog .any R21 Q S 3 L a Wd := by
    intro L a Wd q q16 q18 hL ha hT h16 h18 
    subst hL
    refine wpAnyH_ready (rs := [22]) (by kernel_rfl) (by simp) ?_
    have hne : q18 ≠ q16 := fun e => by
      have h1 := h16.1
      have h2 := h18.1
      rw [e, h1] at h2
      cases h2
    have e2 : a.eval (.tmp 16) = (.pointer (some ⟨q16, 0, none⟩)) := by rw [ha]; exact (Act.eval_put_ne _ _ _ _ (by decide)).trans (Act.eval_put_same _ _ _ (by simp only [put_size, hz]; decide))
    have e138 : a.eval (.tmp 138) = .agg z17 := by rw [ha]; exact (Act.eval_put_ne _ _ _ _ (by decide)).trans ((Act.eval_put_ne _ _ _ _ (by decide)).trans ((Act.eval_put_ne _ _ _ _ (by decide)).trans ((Act.eval_put_ne _ _ _ _ (by decide)).trans (Act.eval_put_same _ _ _ (by simp only [put_size, hz]; decide)))))
    have e139 : a.eval (.tmp 139) = .string ⟨#[]⟩ := by rw [ha]; exact (Act.eval_put_ne _ _ _ _ (by decide)).trans ((Act.eval_put_ne _ _ _ _ (by decide)).trans ((Act.eval_put_ne _ _ _ _ (by decide)).trans (Act.eval_put_same _ _ _ (by simp only [put_size, hz]; decide))))
    have e140 : a.eval (.tmp 140) = .agg #[.int .i64 29, .int .i64 Nn] := by rw [ha]; exact (Act.eval_put_ne _ _ _ _ (by decide)).trans ((Act.eval_put_ne _ _ _ _ (by decide)).trans (Act.eval_put_same _ _ _ (by simp only [put_size, hz]; decide)))
    have e18 : a.eval (.tmp 18) = (.pointer (some ⟨q18, 0, none⟩)) := by rw [ha]; exact Act.eval_put_same _ _ _ (by simp only [put_size, hz]; decide)
    have hr22 := run_store39 a Wd q16 e2 e138 h16.1
    have T3 := hT.setRow (g := q16) (fun h => absurd h (Nat.not_lt.2 h16.2)) z17
    have h18' := (setRow_other Wd q16 q18 z17 hne).trans h18.1
    refine AllReadyH.skip (o21 22) (by kernel_rfl) (by kernel_rfl) (Wd.setRow q16 z17) hr22 (hS _ T3) ?_ AllReadyH.nil
    rw [d22, put_none]
    refine wpAnyH_ready (rs := [23]) (by kernel_rfl) (by simp) ?_
    refine AllReadyH.run (o21 23) (by kernel_rfl) (by kernel_rfl) (.string ⟨#[]⟩) (Wd.setRow q16 z17) (run_23 a _ e139) (hS _ T3) ?_ AllReadyH.nil
    rw [d23]
    refine wpAnyH_ready (rs := [24]) (by kernel_rfl) (by simp) ?_
    have T4 := ftouch T3 (q := q18) h18.2 (.int .i64 29) (.int .i64 Nn)
    have hr24 := run_store27 (a.put (some 17) (.string ⟨#[]⟩)) (Wd.setRow q16 z17) q18 Nn ((Act.eval_put_ne _ _ _ _ (by decide)).trans e18) ((Act.eval_put_ne _ _ _ _ (by decide)).trans e140) h18'
    refine AllReadyH.skip (o21 24) (by kernel_rfl) (by kernel_rfl) _ hr24 (hS _ T4) ?_ AllReadyH.nil
    rw [d24, put_none]
    refine wpAnyH_done (by kernel_rfl) ?_ _
    rw [ha]
    exact hQ q q16 q18 _ T4 (fset h18' _ _) h18.2
  have st20ft : ∀ (L : Array Bool) (a : Act) (Wd : World) (q : Nat) (q18 : Nat) , L = #[true, true, true, true, true, true, true, true, true, true, true, true, true, true, true, true, true, true, true, true, false, true, false, false, false] → a = (((((((((a0.put (some 134) (.slice (some ⟨q, 0, none⟩) 2 2)).put (some 135) (.string PB)).put (some 136) (.string (X ++ PB))).put (some 137) (.tuple #[.agg z17, .string ⟨#[]⟩, .agg #[.int .i64 29, .int .i64 Nn]])).put (some 121) (.tuple #[.agg z17, .string ⟨#[]⟩, .agg #[.int .i64 29, .int .i64 Nn]])).put (some 138) (.agg z17)).put (some 139) (.string ⟨#[]⟩)).put (some 140) (.agg #[.int .i64 29, .int .i64 Nn])).put (some 18) (.pointer (some ⟨q18, 0, none⟩))) → Touch (fun _ => False) w Wd → Wd.heap[q18]? = some (.cells #[.int .i64 0, .int .i64 0] 27 (0, 0)) ∧ w.heap.size ≤ q18 → wpAnyH Tryd.prog .any R21 Q S 4 L a Wd := by
    intro L a Wd q q18 hL ha hT h18 
    refine wpAnyH_ready (rs := [20]) (by subst hL; kernel_rfl) (by simp) ?_
    exact (AllReadyH.run (o21 20) (by kernel_rfl) (by kernel_rfl) (.pointer (some ⟨Wd.heap.size, 0, none⟩)) (Wd.alloc (.cells z17 39)) (run_20 a Wd) (hS _ (hT.alloc _)) (st20tt _ _ _ q Wd.heap.size q18 (by subst hL; kernel_rfl) (by rw [d20, ha]; exact pc18 _ (by decide) _ _) (hT.alloc _) ⟨blk_new _ _, hT.size⟩ ⟨(((Touch.refl (fun _ => False) Wd).alloc (.cells z17 39)).block q18 (lt_of_block h18.1) id).trans h18.1, h18.2⟩ ) AllReadyH.nil)
  have st20tf : ∀ (L : Array Bool) (a : Act) (Wd : World) (q : Nat) (q16 : Nat) , L = #[true, true, true, true, true, true, true, true, true, true, true, true, true, true, true, true, true, true, true, true, true, false, false, false, false] → a = (((((((((a0.put (some 134) (.slice (some ⟨q, 0, none⟩) 2 2)).put (some 135) (.string PB)).put (some 136) (.string (X ++ PB))).put (some 137) (.tuple #[.agg z17, .string ⟨#[]⟩, .agg #[.int .i64 29, .int .i64 Nn]])).put (some 121) (.tuple #[.agg z17, .string ⟨#[]⟩, .agg #[.int .i64 29, .int .i64 Nn]])).put (some 138) (.agg z17)).put (some 139) (.string ⟨#[]⟩)).put (some 140) (.agg #[.int .i64 29, .int .i64 Nn])).put (some 16) (.pointer (some ⟨q16, 0, none⟩))) → Touch (fun _ => False) w Wd → Wd.heap[q16]? = some (.cells z17 39 (0, 0)) ∧ w.heap.size ≤ q16 → wpAnyH Tryd.prog .any R21 Q S 4 L a Wd := by
    intro L a Wd q q16 hL ha hT h16 
    refine wpAnyH_ready (rs := [21]) (by subst hL; kernel_rfl) (by simp) ?_
    exact (AllReadyH.run (o21 21) (by kernel_rfl) (by kernel_rfl) (.pointer (some ⟨Wd.heap.size, 0, none⟩)) (Wd.alloc (.cells #[.int .i64 0, .int .i64 0] 27)) (run_21 a Wd) (hS _ (hT.alloc _)) (st20tt _ _ _ q q16 Wd.heap.size (by subst hL; kernel_rfl) (by rw [d21, ha]) (hT.alloc _) ⟨(((Touch.refl (fun _ => False) Wd).alloc (.cells #[.int .i64 0, .int .i64 0] 27)).block q16 (lt_of_block h16.1) id).trans h16.1, h16.2⟩ ⟨blk_new _ _, hT.size⟩ ) AllReadyH.nil)
  have st20ff : ∀ (L : Array Bool) (a : Act) (Wd : World) (q : Nat) , L = #[true, true, true, true, true, true, true, true, true, true, true, true, true, true, true, true, true, true, true, true, false, false, false, false, false] → a = ((((((((a0.put (some 134) (.slice (some ⟨q, 0, none⟩) 2 2)).put (some 135) (.string PB)).put (some 136) (.string (X ++ PB))).put (some 137) (.tuple #[.agg z17, .string ⟨#[]⟩, .agg #[.int .i64 29, .int .i64 Nn]])).put (some 121) (.tuple #[.agg z17, .string ⟨#[]⟩, .agg #[.int .i64 29, .int .i64 Nn]])).put (some 138) (.agg z17)).put (some 139) (.string ⟨#[]⟩)).put (some 140) (.agg #[.int .i64 29, .int .i64 Nn])) → Touch (fun _ => False) w Wd → wpAnyH Tryd.prog .any R21 Q S 5 L a Wd := by
    intro L a Wd q hL ha hT 
    refine wpAnyH_ready (rs := [20, 21]) (by subst hL; kernel_rfl) (by simp) ?_
    exact (AllReadyH.run (o21 20) (by kernel_rfl) (by kernel_rfl) (.pointer (some ⟨Wd.heap.size, 0, none⟩)) (Wd.alloc (.cells z17 39)) (run_20 a Wd) (hS _ (hT.alloc _)) (st20tf _ _ _ q Wd.heap.size (by subst hL; kernel_rfl) (by rw [d20, ha]) (hT.alloc _) ⟨blk_new _ _, hT.size⟩ ) (AllReadyH.run (o21 21) (by kernel_rfl) (by kernel_rfl) (.pointer (some ⟨Wd.heap.size, 0, none⟩)) (Wd.alloc (.cells #[.int .i64 0, .int .i64 0] 27)) (run_21 a Wd) (hS _ (hT.alloc _)) (st20ft _ _ _ q Wd.heap.size (by subst hL; kernel_rfl) (by rw [d21, ha]) (hT.alloc _) ⟨blk_new _ _, hT.size⟩ ) AllReadyH.nil))
  have st15tt : ∀ (L : Array Bool) (a : Act) (Wd : World) (q : Nat) (q16 : Nat) (q18 : Nat) , L = #[true, true, true, true, true, true, true, true, true, true, true, true, true, true, true, false, false, false, false, false, true, true, false, false, false] → a = (((((a0.put (some 134) (.slice (some ⟨q, 0, none⟩) 2 2)).put (some 135) (.string PB)).put (some 136) (.string (X ++ PB))).put (some 16) (.pointer (some ⟨q16, 0, none⟩))).put (some 18) (.pointer (some ⟨q18, 0, none⟩))) → Touch (fun _ => False) w Wd → Wd.heap[q16]? = some (.cells z17 39 (0, 0)) ∧ w.heap.size ≤ q16 → Wd.heap[q18]? = some (.cells #[.int .i64 0, .int .i64 0] 27 (0, 0)) ∧ w.heap.size ≤ q18 → wpAnyH Tryd.prog .any R21 Q S 8 L a Wd := by
    intro L a Wd q q16 q18 hL ha hT h16 h18 
    refine wpAnyH_ready (rs := [15]) (by subst hL; kernel_rfl) (by simp) ?_
    have e1 : a.eval (.tmp 136) = .string (X ++ PB) := by rw [ha]; exact (Act.eval_put_ne _ _ _ _ (by decide)).trans ((Act.eval_put_ne _ _ _ _ (by decide)).trans (Act.eval_put_same _ _ _ (by simp only [put_size, hz]; decide)))
    refine AllReadyH.call (o21 15) (by kernel_rfl) (by kernel_rfl) 13 #[.tmp 136] #[9] (by kernel_rfl) #[.string (X ++ PB)] (by simp [e1]) (fun _ _ => by kernel_rfl) (fun v w' => v = (.tuple #[.agg z17, .string ⟨#[]⟩, .agg #[.int .i64 29, .int .i64 Nn]]) ∧ Touch (fun _ => False) Wd w') ((KX Wd hT).mono (fun e w' h => ⟨_, h.1, rfl, h.2⟩)) ?_ (AllReadyH.nil)
    rintro v W2 ⟨rfl, t2⟩
    have T2 := hT.trans t2 (fun _ _ e => e)
    refine ⟨hS _ T2, ?_⟩
    rw [d15]
    have e3 : (a.put (some 137) (.tuple #[.agg z17, .string ⟨#[]⟩, .agg #[.int .i64 29, .int .i64 Nn]])).eval (.tmp 137) = (.tuple #[.agg z17, .string ⟨#[]⟩, .agg #[.int .i64 29, .int .i64 Nn]]) := by rw [ha]; exact Act.eval_put_same _ _ _ (by simp only [put_size, hz]; decide)
    refine wpAnyH_take (i := 16) (oi := o21 16) (v := (.tuple #[.agg z17, .string ⟨#[]⟩, .agg #[.int .i64 29, .int .i64 Nn]])) (by kernel_rfl) (by kernel_rfl) (by subst hL; kernel_rfl) (by subst hL; kernel_rfl) (fun c a w h => hQp c a _ _ w (by rw [d16] at h; exact h)) (.inl ⟨by kernel_rfl, fun w' _ => run_16 _ _ _ e3⟩) (hS _ T2) ?_
    rw [d16]
    have e4 : ((a.put (some 137) (.tuple #[.agg z17, .string ⟨#[]⟩, .agg #[.int .i64 29, .int .i64 Nn]])).put (some 121) (.tuple #[.agg z17, .string ⟨#[]⟩, .agg #[.int .i64 29, .int .i64 Nn]])).eval (.tmp 121) = (.tuple #[.agg z17, .string ⟨#[]⟩, .agg #[.int .i64 29, .int .i64 Nn]]) := by rw [ha]; exact Act.eval_put_same _ _ _ (by simp only [put_size, hz]; decide)
    refine wpAnyH_take (i := 17) (oi := o21 17) (v := .agg z17) (by kernel_rfl) (by kernel_rfl) (by subst hL; kernel_rfl) (by subst hL; kernel_rfl) (fun c a w h => hQp c a _ _ w (by rw [d17] at h; exact h)) (.inl ⟨by kernel_rfl, fun w' _ => run_17 _ _ _ _ _ e4⟩) (hS _ T2) ?_
    rw [d17]
    have e5 : (((a.put (some 137) (.tuple #[.agg z17, .string ⟨#[]⟩, .agg #[.int .i64 29, .int .i64 Nn]])).put (some 121) (.tuple #[.agg z17, .string ⟨#[]⟩, .agg #[.int .i64 29, .int .i64 Nn]])).put (some 138) (.agg z17)).eval (.tmp 121) = (.tuple #[.agg z17, .string ⟨#[]⟩, .agg #[.int .i64 29, .int .i64 Nn]]) := by rw [ha]; exact (Act.eval_put_ne _ _ _ _ (by decide)).trans (Act.eval_put_same _ _ _ (by simp only [put_size, hz]; decide))
    refine wpAnyH_take (i := 18) (oi := o21 18) (v := .string ⟨#[]⟩) (by kernel_rfl) (by kernel_rfl) (by subst hL; kernel_rfl) (by subst hL; kernel_rfl) (fun c a w h => hQp c a _ _ w (by rw [d18] at h; exact h)) (.inl ⟨by kernel_rfl, fun w' _ => run_18 _ _ _ _ _ e5⟩) (hS _ T2) ?_
    rw [d18]
    have e6 : ((((a.put (some 137) (.tuple #[.agg z17, .string ⟨#[]⟩, .agg #[.int .i64 29, .int .i64 Nn]])).put (some 121) (.tuple #[.agg z17, .string ⟨#[]⟩, .agg #[.int .i64 29, .int .i64 Nn]])).put (some 138) (.agg z17)).put (some 139) (.string ⟨#[]⟩)).eval (.tmp 121) = (.tuple #[.agg z17, .string ⟨#[]⟩, .agg #[.int .i64 29, .int .i64 Nn]]) := by rw [ha]; exact (Act.eval_put_ne _ _ _ _ (by decide)).trans ((Act.eval_put_ne _ _ _ _ (by decide)).trans (Act.eval_put_same _ _ _ (by simp only [put_size, hz]; decide)))
    refine wpAnyH_take (i := 19) (oi := o21 19) (v := .agg #[.int .i64 29, .int .i64 Nn]) (by kernel_rfl) (by kernel_rfl) (by subst hL; kernel_rfl) (by subst hL; kernel_rfl) (fun c a w h => hQp c a _ _ w (by rw [d19] at h; exact h)) (.inl ⟨by kernel_rfl, fun w' _ => run_19 _ _ _ _ _ e6⟩) (hS _ T2) ?_
    rw [d19]
    exact st20tt _ _ _ q q16 q18 (by subst hL; kernel_rfl) (by rw [ha]; simp only [pc16 _ (d := 137) (by decide), pc16 _ (d := 121) (by decide), pc16 _ (d := 138) (by decide), pc16 _ (d := 139) (by decide), pc16 _ (d := 140) (by decide), pc18 _ (d := 137) (by decide), pc18 _ (d := 121) (by decide), pc18 _ (d := 138) (by decide), pc18 _ (d := 139) (by decide), pc18 _ (d := 140) (by decide)]) T2 ⟨(t2.block q16 (lt_of_block h16.1) id).trans h16.1, h16.2⟩ ⟨(t2.block q18 (lt_of_block h18.1) id).trans h18.1, h18.2⟩ 
  have st15ft : ∀ (L : Array Bool) (a : Act) (Wd : World) (q : Nat) (q18 : Nat) , L = #[true, true, true, true, true, true, true, true, true, true, true, true, true, true, true, false, false, false, false, false, false, true, false, false, false] → a = ((((a0.put (some 134) (.slice (some ⟨q, 0, none⟩) 2 2)).put (some 135) (.string PB)).put (some 136) (.string (X ++ PB))).put (some 18) (.pointer (some ⟨q18, 0, none⟩))) → Touch (fun _ => False) w Wd → Wd.heap[q18]? = some (.cells #[.int .i64 0, .int .i64 0] 27 (0, 0)) ∧ w.heap.size ≤ q18 → wpAnyH Tryd.prog .any R21 Q S 9 L a Wd := by
    intro L a Wd q q18 hL ha hT h18 
    refine wpAnyH_ready (rs := [15, 20]) (by subst hL; kernel_rfl) (by simp) ?_
    have e1 : a.eval (.tmp 136) = .string (X ++ PB) := by rw [ha]; exact (Act.eval_put_ne _ _ _ _ (by decide)).trans (Act.eval_put_same _ _ _ (by simp only [put_size, hz]; decide))
    refine AllReadyH.call (o21 15) (by kernel_rfl) (by kernel_rfl) 13 #[.tmp 136] #[9] (by kernel_rfl) #[.string (X ++ PB)] (by simp [e1]) (fun _ _ => by kernel_rfl) (fun v w' => v = (.tuple #[.agg z17, .string ⟨#[]⟩, .agg #[.int .i64 29, .int .i64 Nn]]) ∧ Touch (fun _ => False) Wd w') ((KX Wd hT).mono (fun e w' h => ⟨_, h.1, rfl, h.2⟩)) ?_ ((AllReadyH.run (o21 20) (by kernel_rfl) (by kernel_rfl) (.pointer (some ⟨Wd.heap.size, 0, none⟩)) (Wd.alloc (.cells z17 39)) (run_20 a Wd) (hS _ (hT.alloc _)) (st15tt _ _ _ q Wd.heap.size q18 (by subst hL; kernel_rfl) (by rw [d20, ha]; exact pc18 _ (by decide) _ _) (hT.alloc _) ⟨blk_new _ _, hT.size⟩ ⟨(((Touch.refl (fun _ => False) Wd).alloc (.cells z17 39)).block q18 (lt_of_block h18.1) id).trans h18.1, h18.2⟩ ) AllReadyH.nil))
    rintro v W2 ⟨rfl, t2⟩
    have T2 := hT.trans t2 (fun _ _ e => e)
    refine ⟨hS _ T2, ?_⟩
    rw [d15]
    have e3 : (a.put (some 137) (.tuple #[.agg z17, .string ⟨#[]⟩, .agg #[.int .i64 29, .int .i64 Nn]])).eval (.tmp 137) = (.tuple #[.agg z17, .string ⟨#[]⟩, .agg #[.int .i64 29, .int .i64 Nn]]) := by rw [ha]; exact Act.eval_put_same _ _ _ (by simp only [put_size, hz]; decide)
    refine wpAnyH_take (i := 16) (oi := o21 16) (v := (.tuple #[.agg z17, .string ⟨#[]⟩, .agg #[.int .i64 29, .int .i64 Nn]])) (by kernel_rfl) (by kernel_rfl) (by subst hL; kernel_rfl) (by subst hL; kernel_rfl) (fun c a w h => hQp c a _ _ w (by rw [d16] at h; exact h)) (.inl ⟨by kernel_rfl, fun w' _ => run_16 _ _ _ e3⟩) (hS _ T2) ?_
    rw [d16]
    have e4 : ((a.put (some 137) (.tuple #[.agg z17, .string ⟨#[]⟩, .agg #[.int .i64 29, .int .i64 Nn]])).put (some 121) (.tuple #[.agg z17, .string ⟨#[]⟩, .agg #[.int .i64 29, .int .i64 Nn]])).eval (.tmp 121) = (.tuple #[.agg z17, .string ⟨#[]⟩, .agg #[.int .i64 29, .int .i64 Nn]]) := by rw [ha]; exact Act.eval_put_same _ _ _ (by simp only [put_size, hz]; decide)
    refine wpAnyH_take (i := 17) (oi := o21 17) (v := .agg z17) (by kernel_rfl) (by kernel_rfl) (by subst hL; kernel_rfl) (by subst hL; kernel_rfl) (fun c a w h => hQp c a _ _ w (by rw [d17] at h; exact h)) (.inl ⟨by kernel_rfl, fun w' _ => run_17 _ _ _ _ _ e4⟩) (hS _ T2) ?_
    rw [d17]
    have e5 : (((a.put (some 137) (.tuple #[.agg z17, .string ⟨#[]⟩, .agg #[.int .i64 29, .int .i64 Nn]])).put (some 121) (.tuple #[.agg z17, .string ⟨#[]⟩, .agg #[.int .i64 29, .int .i64 Nn]])).put (some 138) (.agg z17)).eval (.tmp 121) = (.tuple #[.agg z17, .string ⟨#[]⟩, .agg #[.int .i64 29, .int .i64 Nn]]) := by rw [ha]; exact (Act.eval_put_ne _ _ _ _ (by decide)).trans (Act.eval_put_same _ _ _ (by simp only [put_size, hz]; decide))
    refine wpAnyH_take (i := 18) (oi := o21 18) (v := .string ⟨#[]⟩) (by kernel_rfl) (by kernel_rfl) (by subst hL; kernel_rfl) (by subst hL; kernel_rfl) (fun c a w h => hQp c a _ _ w (by rw [d18] at h; exact h)) (.inl ⟨by kernel_rfl, fun w' _ => run_18 _ _ _ _ _ e5⟩) (hS _ T2) ?_
    rw [d18]
    have e6 : ((((a.put (some 137) (.tuple #[.agg z17, .string ⟨#[]⟩, .agg #[.int .i64 29, .int .i64 Nn]])).put (some 121) (.tuple #[.agg z17, .string ⟨#[]⟩, .agg #[.int .i64 29, .int .i64 Nn]])).put (some 138) (.agg z17)).put (some 139) (.string ⟨#[]⟩)).eval (.tmp 121) = (.tuple #[.agg z17, .string ⟨#[]⟩, .agg #[.int .i64 29, .int .i64 Nn]]) := by rw [ha]; exact (Act.eval_put_ne _ _ _ _ (by decide)).trans ((Act.eval_put_ne _ _ _ _ (by decide)).trans (Act.eval_put_same _ _ _ (by simp only [put_size, hz]; decide)))
    refine wpAnyH_take (i := 19) (oi := o21 19) (v := .agg #[.int .i64 29, .int .i64 Nn]) (by kernel_rfl) (by kernel_rfl) (by subst hL; kernel_rfl) (by subst hL; kernel_rfl) (fun c a w h => hQp c a _ _ w (by rw [d19] at h; exact h)) (.inl ⟨by kernel_rfl, fun w' _ => run_19 _ _ _ _ _ e6⟩) (hS _ T2) ?_
    rw [d19]
    exact st20ft _ _ _ q q18 (by subst hL; kernel_rfl) (by rw [ha]; simp only [pc18 _ (d := 137) (by decide), pc18 _ (d := 121) (by decide), pc18 _ (d := 138) (by decide), pc18 _ (d := 139) (by decide), pc18 _ (d := 140) (by decide)]) T2 ⟨(t2.block q18 (lt_of_block h18.1) id).trans h18.1, h18.2⟩ 
  have st15tf : ∀ (L : Array Bool) (a : Act) (Wd : World) (q : Nat) (q16 : Nat) , L = #[true, true, true, true, true, true, true, true, true, true, true, true, true, true, true, false, false, false, false, false, true, false, false, false, false] → a = ((((a0.put (some 134) (.slice (some ⟨q, 0, none⟩) 2 2)).put (some 135) (.string PB)).put (some 136) (.string (X ++ PB))).put (some 16) (.pointer (some ⟨q16, 0, none⟩))) → Touch (fun _ => False) w Wd → Wd.heap[q16]? = some (.cells z17 39 (0, 0)) ∧ w.heap.size ≤ q16 → wpAnyH Tryd.prog .any R21 Q S 9 L a Wd := by
    intro L a Wd q q16 hL ha hT h16 
    refine wpAnyH_ready (rs := [15, 21]) (by subst hL; kernel_rfl) (by simp) ?_
    have e1 : a.eval (.tmp 136) = .string (X ++ PB) := by rw [ha]; exact (Act.eval_put_ne _ _ _ _ (by decide)).trans (Act.eval_put_same _ _ _ (by simp only [put_size, hz]; decide))
    refine AllReadyH.call (o21 15) (by kernel_rfl) (by kernel_rfl) 13 #[.tmp 136] #[9] (by kernel_rfl) #[.string (X ++ PB)] (by simp [e1]) (fun _ _ => by kernel_rfl) (fun v w' => v = (.tuple #[.agg z17, .string ⟨#[]⟩, .agg #[.int .i64 29, .int .i64 Nn]]) ∧ Touch (fun _ => False) Wd w') ((KX Wd hT).mono (fun e w' h => ⟨_, h.1, rfl, h.2⟩)) ?_ ((AllReadyH.run (o21 21) (by kernel_rfl) (by kernel_rfl) (.pointer (some ⟨Wd.heap.size, 0, none⟩)) (Wd.alloc (.cells #[.int .i64 0, .int .i64 0] 27)) (run_21 a Wd) (hS _ (hT.alloc _)) (st15tt _ _ _ q q16 Wd.heap.size (by subst hL; kernel_rfl) (by rw [d21, ha]) (hT.alloc _) ⟨(((Touch.refl (fun _ => False) Wd).alloc (.cells #[.int .i64 0, .int .i64 0] 27)).block q16 (lt_of_block h16.1) id).trans h16.1, h16.2⟩ ⟨blk_new _ _, hT.size⟩ ) AllReadyH.nil))
    rintro v W2 ⟨rfl, t2⟩
    have T2 := hT.trans t2 (fun _ _ e => e)
    refine ⟨hS _ T2, ?_⟩
    rw [d15]
    have e3 : (a.put (some 137) (.tuple #[.agg z17, .string ⟨#[]⟩, .agg #[.int .i64 29, .int .i64 Nn]])).eval (.tmp 137) = (.tuple #[.agg z17, .string ⟨#[]⟩, .agg #[.int .i64 29, .int .i64 Nn]]) := by rw [ha]; exact Act.eval_put_same _ _ _ (by simp only [put_size, hz]; decide)
    refine wpAnyH_take (i := 16) (oi := o21 16) (v := (.tuple #[.agg z17, .string ⟨#[]⟩, .agg #[.int .i64 29, .int .i64 Nn]])) (by kernel_rfl) (by kernel_rfl) (by subst hL; kernel_rfl) (by subst hL; kernel_rfl) (fun c a w h => hQp c a _ _ w (by rw [d16] at h; exact h)) (.inl ⟨by kernel_rfl, fun w' _ => run_16 _ _ _ e3⟩) (hS _ T2) ?_
    rw [d16]
    have e4 : ((a.put (some 137) (.tuple #[.agg z17, .string ⟨#[]⟩, .agg #[.int .i64 29, .int .i64 Nn]])).put (some 121) (.tuple #[.agg z17, .string ⟨#[]⟩, .agg #[.int .i64 29, .int .i64 Nn]])).eval (.tmp 121) = (.tuple #[.agg z17, .string ⟨#[]⟩, .agg #[.int .i64 29, .int .i64 Nn]]) := by rw [ha]; exact Act.eval_put_same _ _ _ (by simp only [put_size, hz]; decide)
    refine wpAnyH_take (i := 17) (oi := o21 17) (v := .agg z17) (by kernel_rfl) (by kernel_rfl) (by subst hL; kernel_rfl) (by subst hL; kernel_rfl) (fun c a w h => hQp c a _ _ w (by rw [d17] at h; exact h)) (.inl ⟨by kernel_rfl, fun w' _ => run_17 _ _ _ _ _ e4⟩) (hS _ T2) ?_
    rw [d17]
    have e5 : (((a.put (some 137) (.tuple #[.agg z17, .string ⟨#[]⟩, .agg #[.int .i64 29, .int .i64 Nn]])).put (some 121) (.tuple #[.agg z17, .string ⟨#[]⟩, .agg #[.int .i64 29, .int .i64 Nn]])).put (some 138) (.agg z17)).eval (.tmp 121) = (.tuple #[.agg z17, .string ⟨#[]⟩, .agg #[.int .i64 29, .int .i64 Nn]]) := by rw [ha]; exact (Act.eval_put_ne _ _ _ _ (by decide)).trans (Act.eval_put_same _ _ _ (by simp only [put_size, hz]; decide))
    refine wpAnyH_take (i := 18) (oi := o21 18) (v := .string ⟨#[]⟩) (by kernel_rfl) (by kernel_rfl) (by subst hL; kernel_rfl) (by subst hL; kernel_rfl) (fun c a w h => hQp c a _ _ w (by rw [d18] at h; exact h)) (.inl ⟨by kernel_rfl, fun w' _ => run_18 _ _ _ _ _ e5⟩) (hS _ T2) ?_
    rw [d18]
    have e6 : ((((a.put (some 137) (.tuple #[.agg z17, .string ⟨#[]⟩, .agg #[.int .i64 29, .int .i64 Nn]])).put (some 121) (.tuple #[.agg z17, .string ⟨#[]⟩, .agg #[.int .i64 29, .int .i64 Nn]])).put (some 138) (.agg z17)).put (some 139) (.string ⟨#[]⟩)).eval (.tmp 121) = (.tuple #[.agg z17, .string ⟨#[]⟩, .agg #[.int .i64 29, .int .i64 Nn]]) := by rw [ha]; exact (Act.eval_put_ne _ _ _ _ (by decide)).trans ((Act.eval_put_ne _ _ _ _ (by decide)).trans (Act.eval_put_same _ _ _ (by simp only [put_size, hz]; decide)))
    refine wpAnyH_take (i := 19) (oi := o21 19) (v := .agg #[.int .i64 29, .int .i64 Nn]) (by kernel_rfl) (by kernel_rfl) (by subst hL; kernel_rfl) (by subst hL; kernel_rfl) (fun c a w h => hQp c a _ _ w (by rw [d19] at h; exact h)) (.inl ⟨by kernel_rfl, fun w' _ => run_19 _ _ _ _ _ e6⟩) (hS _ T2) ?_
    rw [d19]
    exact st20tf _ _ _ q q16 (by subst hL; kernel_rfl) (by rw [ha]; simp only [pc16 _ (d := 137) (by decide), pc16 _ (d := 121) (by decide), pc16 _ (d := 138) (by decide), pc16 _ (d := 139) (by decide), pc16 _ (d := 140) (by decide)]) T2 ⟨(t2.block q16 (lt_of_block h16.1) id).trans h16.1, h16.2⟩ 
  have st15ff : ∀ (L : Array Bool) (a : Act) (Wd : World) (q : Nat) , L = #[true, true, true, true, true, true, true, true, true, true, true, true, true, true, true, false, false, false, false, false, false, false, false, false, false] → a = (((a0.put (some 134) (.slice (some ⟨q, 0, none⟩) 2 2)).put (some 135) (.string PB)).put (some 136) (.string (X ++ PB))) → Touch (fun _ => False) w Wd → wpAnyH Tryd.prog .any R21 Q S 10 L a Wd := by
    intro L a Wd q hL ha hT 
    refine wpAnyH_ready (rs := [15, 20, 21]) (by subst hL; kernel_rfl) (by simp) ?_
    have e1 : a.eval (.tmp 136) = .string (X ++ PB) := by rw [ha]; exact Act.eval_put_same _ _ _ (by simp only [put_size, hz]; decide)
    refine AllReadyH.call (o21 15) (by kernel_rfl) (by kernel_rfl) 13 #[.tmp 136] #[9] (by kernel_rfl) #[.string (X ++ PB)] (by simp [e1]) (fun _ _ => by kernel_rfl) (fun v w' => v = (.tuple #[.agg z17, .string ⟨#[]⟩, .agg #[.int .i64 29, .int .i64 Nn]]) ∧ Touch (fun _ => False) Wd w') ((KX Wd hT).mono (fun e w' h => ⟨_, h.1, rfl, h.2⟩)) ?_ ((AllReadyH.run (o21 20) (by kernel_rfl) (by kernel_rfl) (.pointer (some ⟨Wd.heap.size, 0, none⟩)) (Wd.alloc (.cells z17 39)) (run_20 a Wd) (hS _ (hT.alloc _)) (st15tf _ _ _ q Wd.heap.size (by subst hL; kernel_rfl) (by rw [d20, ha]) (hT.alloc _) ⟨blk_new _ _, hT.size⟩ ) (AllReadyH.run (o21 21) (by kernel_rfl) (by kernel_rfl) (.pointer (some ⟨Wd.heap.size, 0, none⟩)) (Wd.alloc (.cells #[.int .i64 0, .int .i64 0] 27)) (run_21 a Wd) (hS _ (hT.alloc _)) (st15ft _ _ _ q Wd.heap.size (by subst hL; kernel_rfl) (by rw [d21, ha]) (hT.alloc _) ⟨blk_new _ _, hT.size⟩ ) AllReadyH.nil)))
    rintro v W2 ⟨rfl, t2⟩
    have T2 := hT.trans t2 (fun _ _ e => e)
    refine ⟨hS _ T2, ?_⟩
    rw [d15]
    have e3 : (a.put (some 137) (.tuple #[.agg z17, .string ⟨#[]⟩, .agg #[.int .i64 29, .int .i64 Nn]])).eval (.tmp 137) = (.tuple #[.agg z17, .string ⟨#[]⟩, .agg #[.int .i64 29, .int .i64 Nn]]) := by rw [ha]; exact Act.eval_put_same _ _ _ (by simp only [put_size, hz]; decide)
    refine wpAnyH_take (i := 16) (oi := o21 16) (v := (.tuple #[.agg z17, .string ⟨#[]⟩, .agg #[.int .i64 29, .int .i64 Nn]])) (by kernel_rfl) (by kernel_rfl) (by subst hL; kernel_rfl) (by subst hL; kernel_rfl) (fun c a w h => hQp c a _ _ w (by rw [d16] at h; exact h)) (.inl ⟨by kernel_rfl, fun w' _ => run_16 _ _ _ e3⟩) (hS _ T2) ?_
    rw [d16]
    have e4 : ((a.put (some 137) (.tuple #[.agg z17, .string ⟨#[]⟩, .agg #[.int .i64 29, .int .i64 Nn]])).put (some 121) (.tuple #[.agg z17, .string ⟨#[]⟩, .agg #[.int .i64 29, .int .i64 Nn]])).eval (.tmp 121) = (.tuple #[.agg z17, .string ⟨#[]⟩, .agg #[.int .i64 29, .int .i64 Nn]]) := by rw [ha]; exact Act.eval_put_same _ _ _ (by simp only [put_size, hz]; decide)
    refine wpAnyH_take (i := 17) (oi := o21 17) (v := .agg z17) (by kernel_rfl) (by kernel_rfl) (by subst hL; kernel_rfl) (by subst hL; kernel_rfl) (fun c a w h => hQp c a _ _ w (by rw [d17] at h; exact h)) (.inl ⟨by kernel_rfl, fun w' _ => run_17 _ _ _ _ _ e4⟩) (hS _ T2) ?_
    rw [d17]
    have e5 : (((a.put (some 137) (.tuple #[.agg z17, .string ⟨#[]⟩, .agg #[.int .i64 29, .int .i64 Nn]])).put (some 121) (.tuple #[.agg z17, .string ⟨#[]⟩, .agg #[.int .i64 29, .int .i64 Nn]])).put (some 138) (.agg z17)).eval (.tmp 121) = (.tuple #[.agg z17, .string ⟨#[]⟩, .agg #[.int .i64 29, .int .i64 Nn]]) := by rw [ha]; exact (Act.eval_put_ne _ _ _ _ (by decide)).trans (Act.eval_put_same _ _ _ (by simp only [put_size, hz]; decide))
    refine wpAnyH_take (i := 18) (oi := o21 18) (v := .string ⟨#[]⟩) (by kernel_rfl) (by kernel_rfl) (by subst hL; kernel_rfl) (by subst hL; kernel_rfl) (fun c a w h => hQp c a _ _ w (by rw [d18] at h; exact h)) (.inl ⟨by kernel_rfl, fun w' _ => run_18 _ _ _ _ _ e5⟩) (hS _ T2) ?_
    rw [d18]
    have e6 : ((((a.put (some 137) (.tuple #[.agg z17, .string ⟨#[]⟩, .agg #[.int .i64 29, .int .i64 Nn]])).put (some 121) (.tuple #[.agg z17, .string ⟨#[]⟩, .agg #[.int .i64 29, .int .i64 Nn]])).put (some 138) (.agg z17)).put (some 139) (.string ⟨#[]⟩)).eval (.tmp 121) = (.tuple #[.agg z17, .string ⟨#[]⟩, .agg #[.int .i64 29, .int .i64 Nn]]) := by rw [ha]; exact (Act.eval_put_ne _ _ _ _ (by decide)).trans ((Act.eval_put_ne _ _ _ _ (by decide)).trans (Act.eval_put_same _ _ _ (by simp only [put_size, hz]; decide)))
    refine wpAnyH_take (i := 19) (oi := o21 19) (v := .agg #[.int .i64 29, .int .i64 Nn]) (by kernel_rfl) (by kernel_rfl) (by subst hL; kernel_rfl) (by subst hL; kernel_rfl) (fun c a w h => hQp c a _ _ w (by rw [d19] at h; exact h)) (.inl ⟨by kernel_rfl, fun w' _ => run_19 _ _ _ _ _ e6⟩) (hS _ T2) ?_
    rw [d19]
    exact st20ff _ _ _ q (by subst hL; kernel_rfl) (by rw [ha]) T2 
  have st13tt : ∀ (L : Array Bool) (a : Act) (Wd : World) (q : Nat) (q16 : Nat) (q18 : Nat) , L = #[true, true, true, true, true, true, true, true, true, true, true, true, true, false, false, false, false, false, false, false, true, true, false, false, false] → a = (((a0.put (some 134) (.slice (some ⟨q, 0, none⟩) 2 2)).put (some 16) (.pointer (some ⟨q16, 0, none⟩))).put (some 18) (.pointer (some ⟨q18, 0, none⟩))) → Touch (fun _ => False) w Wd → Wd.heap[q]? = some (.cells #[.string XB, .string YB] 9 (0, 0)) → Wd.heap[q16]? = some (.cells z17 39 (0, 0)) ∧ w.heap.size ≤ q16 → Wd.heap[q18]? = some (.cells #[.int .i64 0, .int .i64 0] 27 (0, 0)) ∧ w.heap.size ≤ q18 → wpAnyH Tryd.prog .any R21 Q S 10 L a Wd := by
    intro L a Wd q q16 q18 hL ha hT hq h16 h18 
    refine wpAnyH_ready (rs := [13]) (by subst hL; kernel_rfl) (by simp) ?_
    have e1 : a.eval (.tmp 134) = .slice (some ⟨q, 0, none⟩) 2 2 := by rw [ha]; exact (Act.eval_put_ne _ _ _ _ (by decide)).trans ((Act.eval_put_ne _ _ _ _ (by decide)).trans (Act.eval_put_same _ _ _ (by rw [hz]; decide)))
    refine AllReadyH.call (o21 13) (by kernel_rfl) (by kernel_rfl) 9 #[.tmp 134] #[24] (by kernel_rfl) #[.slice (some ⟨q, 0, none⟩) 2 2] (by simp [e1]) (fun _ _ => by kernel_rfl) (fun v w' => v = .string PB ∧ Touch (fun _ => False) Wd w') ((KP Wd q hT hq).mono (fun e w' h => ⟨_, h.1, rfl, h.2⟩)) ?_ (AllReadyH.nil)
    rintro v W2 ⟨rfl, t2⟩
    have T2 := hT.trans t2 (fun _ _ e => e)
    refine ⟨hS _ T2, ?_⟩
    rw [d13]
    have e3 : (a.put (some 135) (.string PB)).eval (.tmp 122) = .string X := by rw [ha]; exact (Act.eval_put_ne _ _ _ _ (by decide)).trans ((Act.eval_put_ne _ _ _ _ (by decide)).trans ((Act.eval_put_ne _ _ _ _ (by decide)).trans ((Act.eval_put_ne _ _ _ _ (by decide)).trans (e122))))
    have e4 : (a.put (some 135) (.string PB)).eval (.tmp 135) = .string PB := by rw [ha]; exact Act.eval_put_same _ _ _ (by simp only [put_size, hz]; decide)
    refine wpAnyH_take (i := 14) (oi := o21 14) (v := .string (X ++ PB)) (by kernel_rfl) (by kernel_rfl) (by subst hL; kernel_rfl) (by subst hL; kernel_rfl) (fun c a w h => hQp c a _ _ w (by rw [d14] at h; exact h)) (.inl ⟨by kernel_rfl, fun w' _ => run_14 _ _ _ _ e3 e4 hXP⟩) (hS _ T2) ?_
    rw [d14]
    exact st15tt _ _ _ q q16 q18 (by subst hL; kernel_rfl) (by rw [ha]; simp only [pc16 _ (d := 135) (by decide), pc16 _ (d := 136) (by decide), pc18 _ (d := 135) (by decide), pc18 _ (d := 136) (by decide)]) T2 ⟨(t2.block q16 (lt_of_block h16.1) id).trans h16.1, h16.2⟩ ⟨(t2.block q18 (lt_of_block h18.1) id).trans h18.1, h18.2⟩ 
  have st13ft : ∀ (L : Array Bool) (a : Act) (Wd : World) (q : Nat) (q18 : Nat) , L = #[true, true, true, true, true, true, true, true, true, true, true, true, true, false, false, false, false, false, false, false, false, true, false, false, false] → a = ((a0.put (some 134) (.slice (some ⟨q, 0, none⟩) 2 2)).put (some 18) (.pointer (some ⟨q18, 0, none⟩))) → Touch (fun _ => False) w Wd → Wd.heap[q]? = some (.cells #[.string XB, .string YB] 9 (0, 0)) → Wd.heap[q18]? = some (.cells #[.int .i64 0, .int .i64 0] 27 (0, 0)) ∧ w.heap.size ≤ q18 → wpAnyH Tryd.prog .any R21 Q S 11 L a Wd := by
    intro L a Wd q q18 hL ha hT hq h18 
    refine wpAnyH_ready (rs := [13, 20]) (by subst hL; kernel_rfl) (by simp) ?_
    have e1 : a.eval (.tmp 134) = .slice (some ⟨q, 0, none⟩) 2 2 := by rw [ha]; exact (Act.eval_put_ne _ _ _ _ (by decide)).trans (Act.eval_put_same _ _ _ (by rw [hz]; decide))
    refine AllReadyH.call (o21 13) (by kernel_rfl) (by kernel_rfl) 9 #[.tmp 134] #[24] (by kernel_rfl) #[.slice (some ⟨q, 0, none⟩) 2 2] (by simp [e1]) (fun _ _ => by kernel_rfl) (fun v w' => v = .string PB ∧ Touch (fun _ => False) Wd w') ((KP Wd q hT hq).mono (fun e w' h => ⟨_, h.1, rfl, h.2⟩)) ?_ ((AllReadyH.run (o21 20) (by kernel_rfl) (by kernel_rfl) (.pointer (some ⟨Wd.heap.size, 0, none⟩)) (Wd.alloc (.cells z17 39)) (run_20 a Wd) (hS _ (hT.alloc _)) (st13tt _ _ _ q Wd.heap.size q18 (by subst hL; kernel_rfl) (by rw [d20, ha]; exact pc18 _ (by decide) _ _) (hT.alloc _) ((((Touch.refl (fun _ => False) Wd).alloc (.cells z17 39)).block q (lt_of_block hq) id).trans hq) ⟨blk_new _ _, hT.size⟩ ⟨(((Touch.refl (fun _ => False) Wd).alloc (.cells z17 39)).block q18 (lt_of_block h18.1) id).trans h18.1, h18.2⟩ ) AllReadyH.nil))
    rintro v W2 ⟨rfl, t2⟩
    have T2 := hT.trans t2 (fun _ _ e => e)
    refine ⟨hS _ T2, ?_⟩
    rw [d13]
    have e3 : (a.put (some 135) (.string PB)).eval (.tmp 122) = .string X := by rw [ha]; exact (Act.eval_put_ne _ _ _ _ (by decide)).trans ((Act.eval_put_ne _ _ _ _ (by decide)).trans ((Act.eval_put_ne _ _ _ _ (by decide)).trans (e122)))
    have e4 : (a.put (some 135) (.string PB)).eval (.tmp 135) = .string PB := by rw [ha]; exact Act.eval_put_same _ _ _ (by simp only [put_size, hz]; decide)
    refine wpAnyH_take (i := 14) (oi := o21 14) (v := .string (X ++ PB)) (by kernel_rfl) (by kernel_rfl) (by subst hL; kernel_rfl) (by subst hL; kernel_rfl) (fun c a w h => hQp c a _ _ w (by rw [d14] at h; exact h)) (.inl ⟨by kernel_rfl, fun w' _ => run_14 _ _ _ _ e3 e4 hXP⟩) (hS _ T2) ?_
    rw [d14]
    exact st15ft _ _ _ q q18 (by subst hL; kernel_rfl) (by rw [ha]; simp only [pc18 _ (d := 135) (by decide), pc18 _ (d := 136) (by decide)]) T2 ⟨(t2.block q18 (lt_of_block h18.1) id).trans h18.1, h18.2⟩ 
  have st13tf : ∀ (L : Array Bool) (a : Act) (Wd : World) (q : Nat) (q16 : Nat) , L = #[true, true, true, true, true, true, true, true, true, true, true, true, true, false, false, false, false, false, false, false, true, false, false, false, false] → a = ((a0.put (some 134) (.slice (some ⟨q, 0, none⟩) 2 2)).put (some 16) (.pointer (some ⟨q16, 0, none⟩))) → Touch (fun _ => False) w Wd → Wd.heap[q]? = some (.cells #[.string XB, .string YB] 9 (0, 0)) → Wd.heap[q16]? = some (.cells z17 39 (0, 0)) ∧ w.heap.size ≤ q16 → wpAnyH Tryd.prog .any R21 Q S 11 L a Wd := by
    intro L a Wd q q16 hL ha hT hq h16 
    refine wpAnyH_ready (rs := [13, 21]) (by subst hL; kernel_rfl) (by simp) ?_
    have e1 : a.eval (.tmp 134) = .slice (some ⟨q, 0, none⟩) 2 2 := by rw [ha]; exact (Act.eval_put_ne _ _ _ _ (by decide)).trans (Act.eval_put_same _ _ _ (by rw [hz]; decide))
    refine AllReadyH.call (o21 13) (by kernel_rfl) (by kernel_rfl) 9 #[.tmp 134] #[24] (by kernel_rfl) #[.slice (some ⟨q, 0, none⟩) 2 2] (by simp [e1]) (fun _ _ => by kernel_rfl) (fun v w' => v = .string PB ∧ Touch (fun _ => False) Wd w') ((KP Wd q hT hq).mono (fun e w' h => ⟨_, h.1, rfl, h.2⟩)) ?_ ((AllReadyH.run (o21 21) (by kernel_rfl) (by kernel_rfl) (.pointer (some ⟨Wd.heap.size, 0, none⟩)) (Wd.alloc (.cells #[.int .i64 0, .int .i64 0] 27)) (run_21 a Wd) (hS _ (hT.alloc _)) (st13tt _ _ _ q q16 Wd.heap.size (by subst hL; kernel_rfl) (by rw [d21, ha]) (hT.alloc _) ((((Touch.refl (fun _ => False) Wd).alloc (.cells #[.int .i64 0, .int .i64 0] 27)).block q (lt_of_block hq) id).trans hq) ⟨(((Touch.refl (fun _ => False) Wd).alloc (.cells #[.int .i64 0, .int .i64 0] 27)).block q16 (lt_of_block h16.1) id).trans h16.1, h16.2⟩ ⟨blk_new _ _, hT.size⟩ ) AllReadyH.nil))
    rintro v W2 ⟨rfl, t2⟩
    have T2 := hT.trans t2 (fun _ _ e => e)
    refine ⟨hS _ T2, ?_⟩
    rw [d13]
    have e3 : (a.put (some 135) (.string PB)).eval (.tmp 122) = .string X := by rw [ha]; exact (Act.eval_put_ne _ _ _ _ (by decide)).trans ((Act.eval_put_ne _ _ _ _ (by decide)).trans ((Act.eval_put_ne _ _ _ _ (by decide)).trans (e122)))
    have e4 : (a.put (some 135) (.string PB)).eval (.tmp 135) = .string PB := by rw [ha]; exact Act.eval_put_same _ _ _ (by simp only [put_size, hz]; decide)
    refine wpAnyH_take (i := 14) (oi := o21 14) (v := .string (X ++ PB)) (by kernel_rfl) (by kernel_rfl) (by subst hL; kernel_rfl) (by subst hL; kernel_rfl) (fun c a w h => hQp c a _ _ w (by rw [d14] at h; exact h)) (.inl ⟨by kernel_rfl, fun w' _ => run_14 _ _ _ _ e3 e4 hXP⟩) (hS _ T2) ?_
    rw [d14]
    exact st15tf _ _ _ q q16 (by subst hL; kernel_rfl) (by rw [ha]; simp only [pc16 _ (d := 135) (by decide), pc16 _ (d := 136) (by decide)]) T2 ⟨(t2.block q16 (lt_of_block h16.1) id).trans h16.1, h16.2⟩ 
  have st13ff : ∀ (L : Array Bool) (a : Act) (Wd : World) (q : Nat) , L = #[true, true, true, true, true, true, true, true, true, true, true, true, true, false, false, false, false, false, false, false, false, false, false, false, false] → a = (a0.put (some 134) (.slice (some ⟨q, 0, none⟩) 2 2)) → Touch (fun _ => False) w Wd → Wd.heap[q]? = some (.cells #[.string XB, .string YB] 9 (0, 0)) → wpAnyH Tryd.prog .any R21 Q S 12 L a Wd := by
    intro L a Wd q hL ha hT hq 
    refine wpAnyH_ready (rs := [13, 20, 21]) (by subst hL; kernel_rfl) (by simp) ?_
    have e1 : a.eval (.tmp 134) = .slice (some ⟨q, 0, none⟩) 2 2 := by rw [ha]; exact Act.eval_put_same _ _ _ (by rw [hz]; decide)
    refine AllReadyH.call (o21 13) (by kernel_rfl) (by kernel_rfl) 9 #[.tmp 134] #[24] (by kernel_rfl) #[.slice (some ⟨q, 0, none⟩) 2 2] (by simp [e1]) (fun _ _ => by kernel_rfl) (fun v w' => v = .string PB ∧ Touch (fun _ => False) Wd w') ((KP Wd q hT hq).mono (fun e w' h => ⟨_, h.1, rfl, h.2⟩)) ?_ ((AllReadyH.run (o21 20) (by kernel_rfl) (by kernel_rfl) (.pointer (some ⟨Wd.heap.size, 0, none⟩)) (Wd.alloc (.cells z17 39)) (run_20 a Wd) (hS _ (hT.alloc _)) (st13tf _ _ _ q Wd.heap.size (by subst hL; kernel_rfl) (by rw [d20, ha]) (hT.alloc _) ((((Touch.refl (fun _ => False) Wd).alloc (.cells z17 39)).block q (lt_of_block hq) id).trans hq) ⟨blk_new _ _, hT.size⟩ ) (AllReadyH.run (o21 21) (by kernel_rfl) (by kernel_rfl) (.pointer (some ⟨Wd.heap.size, 0, none⟩)) (Wd.alloc (.cells #[.int .i64 0, .int .i64 0] 27)) (run_21 a Wd) (hS _ (hT.alloc _)) (st13ft _ _ _ q Wd.heap.size (by subst hL; kernel_rfl) (by rw [d21, ha]) (hT.alloc _) ((((Touch.refl (fun _ => False) Wd).alloc (.cells #[.int .i64 0, .int .i64 0] 27)).block q (lt_of_block hq) id).trans hq) ⟨blk_new _ _, hT.size⟩ ) AllReadyH.nil)))
    rintro v W2 ⟨rfl, t2⟩
    have T2 := hT.trans t2 (fun _ _ e => e)
    refine ⟨hS _ T2, ?_⟩
    rw [d13]
    have e3 : (a.put (some 135) (.string PB)).eval (.tmp 122) = .string X := by rw [ha]; exact (Act.eval_put_ne _ _ _ _ (by decide)).trans ((Act.eval_put_ne _ _ _ _ (by decide)).trans (e122))
    have e4 : (a.put (some 135) (.string PB)).eval (.tmp 135) = .string PB := by rw [ha]; exact Act.eval_put_same _ _ _ (by simp only [put_size, hz]; decide)
    refine wpAnyH_take (i := 14) (oi := o21 14) (v := .string (X ++ PB)) (by kernel_rfl) (by kernel_rfl) (by subst hL; kernel_rfl) (by subst hL; kernel_rfl) (fun c a w h => hQp c a _ _ w (by rw [d14] at h; exact h)) (.inl ⟨by kernel_rfl, fun w' _ => run_14 _ _ _ _ e3 e4 hXP⟩) (hS _ T2) ?_
    rw [d14]
    exact st15ff _ _ _ q (by subst hL; kernel_rfl) (by rw [ha]) T2 
  have st12tt : ∀ (L : Array Bool) (a : Act) (Wd : World) (q16 : Nat) (q18 : Nat) , L = #[true, true, true, true, true, true, true, true, true, true, true, true, false, false, false, false, false, false, false, false, true, true, false, false, false] → a = ((a0.put (some 16) (.pointer (some ⟨q16, 0, none⟩))).put (some 18) (.pointer (some ⟨q18, 0, none⟩))) → Touch (fun _ => False) w Wd → Wd.heap[q16]? = some (.cells z17 39 (0, 0)) ∧ w.heap.size ≤ q16 → Wd.heap[q18]? = some (.cells #[.int .i64 0, .int .i64 0] 27 (0, 0)) ∧ w.heap.size ≤ q18 → wpAnyH Tryd.prog .any R21 Q S 11 L a Wd := by
    intro L a Wd q16 q18 hL ha hT h16 h18 
    refine wpAnyH_ready (rs := [12]) (by subst hL; kernel_rfl) (by simp) ?_
    have e1 : a.eval (.tmp 127) = .string XB := by rw [ha]; exact (Act.eval_put_ne _ _ _ _ (by decide)).trans ((Act.eval_put_ne _ _ _ _ (by decide)).trans (e127))
    have e2 : a.eval (.tmp 133) = .string YB := by rw [ha]; exact (Act.eval_put_ne _ _ _ _ (by decide)).trans ((Act.eval_put_ne _ _ _ _ (by decide)).trans (e133))
    exact AllReadyH.run (o21 12) (by kernel_rfl) (by kernel_rfl) (.slice (some ⟨Wd.heap.size, 0, none⟩) 2 2) (Wd.alloc (.cells #[.string XB, .string YB] 9)) (run_12 a Wd XB YB e1 e2) (hS _ (hT.alloc _)) (st13tt _ _ _ Wd.heap.size q16 q18 (by subst hL; kernel_rfl) (by rw [d12, ha]; simp only [pc16 _ (d := 134) (by decide), pc18 _ (d := 134) (by decide)]) (hT.alloc _) (blk_new _ _) ⟨(((Touch.refl (fun _ => False) Wd).alloc (.cells #[.string XB, .string YB] 9)).block q16 (lt_of_block h16.1) id).trans h16.1, h16.2⟩ ⟨(((Touch.refl (fun _ => False) Wd).alloc (.cells #[.string XB, .string YB] 9)).block q18 (lt_of_block h18.1) id).trans h18.1, h18.2⟩ ) (AllReadyH.nil)
  have st12ft : ∀ (L : Array Bool) (a : Act) (Wd : World) (q18 : Nat) , L = #[true, true, true, true, true, true, true, true, true, true, true, true, false, false, false, false, false, false, false, false, false, true, false, false, false] → a = (a0.put (some 18) (.pointer (some ⟨q18, 0, none⟩))) → Touch (fun _ => False) w Wd → Wd.heap[q18]? = some (.cells #[.int .i64 0, .int .i64 0] 27 (0, 0)) ∧ w.heap.size ≤ q18 → wpAnyH Tryd.prog .any R21 Q S 12 L a Wd := by
    intro L a Wd q18 hL ha hT h18 
    refine wpAnyH_ready (rs := [12, 20]) (by subst hL; kernel_rfl) (by simp) ?_
    have e1 : a.eval (.tmp 127) = .string XB := by rw [ha]; exact (Act.eval_put_ne _ _ _ _ (by decide)).trans (e127)
    have e2 : a.eval (.tmp 133) = .string YB := by rw [ha]; exact (Act.eval_put_ne _ _ _ _ (by decide)).trans (e133)
    exact AllReadyH.run (o21 12) (by kernel_rfl) (by kernel_rfl) (.slice (some ⟨Wd.heap.size, 0, none⟩) 2 2) (Wd.alloc (.cells #[.string XB, .string YB] 9)) (run_12 a Wd XB YB e1 e2) (hS _ (hT.alloc _)) (st13ft _ _ _ Wd.heap.size q18 (by subst hL; kernel_rfl) (by rw [d12, ha]; simp only [pc18 _ (d := 134) (by decide)]) (hT.alloc _) (blk_new _ _) ⟨(((Touch.refl (fun _ => False) Wd).alloc (.cells #[.string XB, .string YB] 9)).block q18 (lt_of_block h18.1) id).trans h18.1, h18.2⟩ ) ((AllReadyH.run (o21 20) (by kernel_rfl) (by kernel_rfl) (.pointer (some ⟨Wd.heap.size, 0, none⟩)) (Wd.alloc (.cells z17 39)) (run_20 a Wd) (hS _ (hT.alloc _)) (st12tt _ _ _ Wd.heap.size q18 (by subst hL; kernel_rfl) (by rw [d20, ha]; exact pc18 _ (by decide) _ _) (hT.alloc _) ⟨blk_new _ _, hT.size⟩ ⟨(((Touch.refl (fun _ => False) Wd).alloc (.cells z17 39)).block q18 (lt_of_block h18.1) id).trans h18.1, h18.2⟩ ) AllReadyH.nil))
  have st12tf : ∀ (L : Array Bool) (a : Act) (Wd : World) (q16 : Nat) , L = #[true, true, true, true, true, true, true, true, true, true, true, true, false, false, false, false, false, false, false, false, true, false, false, false, false] → a = (a0.put (some 16) (.pointer (some ⟨q16, 0, none⟩))) → Touch (fun _ => False) w Wd → Wd.heap[q16]? = some (.cells z17 39 (0, 0)) ∧ w.heap.size ≤ q16 → wpAnyH Tryd.prog .any R21 Q S 12 L a Wd := by
    intro L a Wd q16 hL ha hT h16 
    refine wpAnyH_ready (rs := [12, 21]) (by subst hL; kernel_rfl) (by simp) ?_
    have e1 : a.eval (.tmp 127) = .string XB := by rw [ha]; exact (Act.eval_put_ne _ _ _ _ (by decide)).trans (e127)
    have e2 : a.eval (.tmp 133) = .string YB := by rw [ha]; exact (Act.eval_put_ne _ _ _ _ (by decide)).trans (e133)
    exact AllReadyH.run (o21 12) (by kernel_rfl) (by kernel_rfl) (.slice (some ⟨Wd.heap.size, 0, none⟩) 2 2) (Wd.alloc (.cells #[.string XB, .string YB] 9)) (run_12 a Wd XB YB e1 e2) (hS _ (hT.alloc _)) (st13tf _ _ _ Wd.heap.size q16 (by subst hL; kernel_rfl) (by rw [d12, ha]; simp only [pc16 _ (d := 134) (by decide)]) (hT.alloc _) (blk_new _ _) ⟨(((Touch.refl (fun _ => False) Wd).alloc (.cells #[.string XB, .string YB] 9)).block q16 (lt_of_block h16.1) id).trans h16.1, h16.2⟩ ) ((AllReadyH.run (o21 21) (by kernel_rfl) (by kernel_rfl) (.pointer (some ⟨Wd.heap.size, 0, none⟩)) (Wd.alloc (.cells #[.int .i64 0, .int .i64 0] 27)) (run_21 a Wd) (hS _ (hT.alloc _)) (st12tt _ _ _ q16 Wd.heap.size (by subst hL; kernel_rfl) (by rw [d21, ha]) (hT.alloc _) ⟨(((Touch.refl (fun _ => False) Wd).alloc (.cells #[.int .i64 0, .int .i64 0] 27)).block q16 (lt_of_block h16.1) id).trans h16.1, h16.2⟩ ⟨blk_new _ _, hT.size⟩ ) AllReadyH.nil))
  have st12ff : ∀ (L : Array Bool) (a : Act) (Wd : World) , L = #[true, true, true, true, true, true, true, true, true, true, true, true, false, false, false, false, false, false, false, false, false, false, false, false, false] → a = a0 → Touch (fun _ => False) w Wd → wpAnyH Tryd.prog .any R21 Q S 13 L a Wd := by
    intro L a Wd hL ha hT 
    refine wpAnyH_ready (rs := [12, 20, 21]) (by subst hL; kernel_rfl) (by simp) ?_
    have e1 : a.eval (.tmp 127) = .string XB := by rw [ha]; exact e127
    have e2 : a.eval (.tmp 133) = .string YB := by rw [ha]; exact e133
    exact AllReadyH.run (o21 12) (by kernel_rfl) (by kernel_rfl) (.slice (some ⟨Wd.heap.size, 0, none⟩) 2 2) (Wd.alloc (.cells #[.string XB, .string YB] 9)) (run_12 a Wd XB YB e1 e2) (hS _ (hT.alloc _)) (st13ff _ _ _ Wd.heap.size (by subst hL; kernel_rfl) (by rw [d12, ha]) (hT.alloc _) (blk_new _ _) ) ((AllReadyH.run (o21 20) (by kernel_rfl) (by kernel_rfl) (.pointer (some ⟨Wd.heap.size, 0, none⟩)) (Wd.alloc (.cells z17 39)) (run_20 a Wd) (hS _ (hT.alloc _)) (st12tf _ _ _ Wd.heap.size (by subst hL; kernel_rfl) (by rw [d20, ha]) (hT.alloc _) ⟨blk_new _ _, hT.size⟩ ) (AllReadyH.run (o21 21) (by kernel_rfl) (by kernel_rfl) (.pointer (some ⟨Wd.heap.size, 0, none⟩)) (Wd.alloc (.cells #[.int .i64 0, .int .i64 0] 27)) (run_21 a Wd) (hS _ (hT.alloc _)) (st12ft _ _ _ Wd.heap.size (by subst hL; kernel_rfl) (by rw [d21, ha]) (hT.alloc _) ⟨blk_new _ _, hT.size⟩ ) AllReadyH.nil)))
  exact st12ff _ _ _ rfl rfl (Touch.refl _ _)
end Go.Proofs.YtmeekjfnmdbnpaaDoor
