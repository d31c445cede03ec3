/- The walk of the law ArgsParses; conditions: the text fits into memory, the library's variables lie there. -/
import Derived.Test.YtmeekjfnmdbnpaaDoorOz
import Derived.Test.YtmeekjfnmdbnpaaDoorPg
namespace Go.Proofs.YtmeekjfnmdbnpaaDoor
open Go.RowKit
open Go.Lib

theorem step_callG {P : Program} {ops : Array Oper} {o : Oper} {a : Act} {w : World} {K : Act → World → Prop} {Q : Exit → Act → World → Prop} {E : Prop} (hw : Region.wanted o (yielded ops a.tmps) = true) (f : FuncId) (opnds : Array Operand) (ats : Array TypeId)
    (ho : o.op = .call { callee := .value (.func f), args := opnds, argTypes := ats }) (vs : Array Value) (hvl : opnds.toList.map a.eval = vs.toList) (hen : ∀ args w, (callFunc f args).run P w = .ok (.enter f args) w)
    (R : Value → World → Prop) (hc : Calls P f vs w (fun e w' => ∃ v, e = .returned v ∧ R v w')) (h : ∀ v w', R v w' → K (a.put o.dst v) w') :
    if Region.wanted o (yielded ops a.tmps) = true then Oper.wp P o a w K Q else E := by
  rw [if_pos hw]
  have hv : opnds.map a.eval = vs := by
    apply Array.toList_inj.1
    rw [Array.toList_map]
    exact hvl
  subst hv
  unfold Oper.wp execOp
  have e1 : a.eval (Operand.func f) = .func (.func f) #[] #[] := rfl
  simp only [ho, resolve, invoke, Sem.run_bind, Sem.run_pure, Result.andThen_ok, hen, e1, Deferred.ofValue, Array.empty_append, Array.append_empty]
  rw [Oper.upon_enter]
  refine hc.mono ?_
  rintro e w' ⟨v, rfl, hr⟩
  exact h v w' hr
theorem AllReadyH.call {P : Program} {ops : Array Oper} {Q : Exit → Act → World → Prop} {md : Region.Mode} {S : World → Prop} {fuel : Nat} {listed : Array Bool} {a : Act} {w : World} {i : Nat} {rs : List Nat} (o : Oper) (ho : ops[i]? = some o) (hw : Region.wanted o (yielded ops a.tmps) = true) (f : FuncId) (opnds : Array Operand) (ats : Array TypeId)
    (hop : o.op = .call { callee := .value (.func f), args := opnds, argTypes := ats }) (vs : Array Value) (hvl : opnds.toList.map a.eval = vs.toList) (hen : ∀ args w, (callFunc f args).run P w = .ok (.enter f args) w)
    (R : Value → World → Prop) (hc : Calls P f vs w (fun e w' => ∃ v, e = .returned v ∧ R v w')) (h : ∀ v w', R v w' → S w' ∧ wpAnyH P md ops Q S fuel (listed.setIfInBounds i true) (a.put o.dst v) w')
    (hs : AllReadyH P md ops Q S fuel listed a w rs) : AllReadyH P md ops Q S fuel listed a w (i :: rs) :=
  AllReadyH.cons ho (fun _ hK => step_callG hw f opnds ats hop vs hvl hen R hc (fun v w' hr => hK.out _ _ (h v w' hr).1 (fun _ => (h v w' hr).2))) hs
theorem opts_eq : z17 = opts 0 0 0 0 0 false false false false false false false false false false ⟨#[]⟩ ⟨#[]⟩ := rfl
theorem vals_eq : v18 = vals 0 0 0 0 0 false false false false false false false false false false ⟨#[]⟩ ⟨#[]⟩ ⟨#[]⟩ := rfl
theorem words_opts {cs : Array Value} (n0 n1 n2 n3 n4 : Int) (b0 b1 b2 b3 b4 b5 b6 b7 b8 b9 : Bool) (s0 s1 s2 : ByteArray) (h1 : cs.size = 18) (h : ∀ k, k < 18 → cs[offK k]? = (vals n0 n1 n2 n3 n4 b0 b1 b2 b3 b4 b5 b6 b7 b8 b9 s0 s1 s2)[k]?) {c17 : List Value} {bv : Value} (hc : cs.toList = c17 ++ [bv]) (_hl : c17.length = 17) : c17.toArray = opts n0 n1 n2 n3 n4 b0 b1 b2 b3 b4 b5 b6 b7 b8 b9 s0 s1 ∧ bv = .string s2 := by
  obtain ⟨l⟩ := cs
  match l, h1 with
  | [a0, a1, a2, a3, a4, a5, a6, a7, a8, a9, a10, a11, a12, a13, a14, a15, a16, a17], _ =>
    obtain rfl : .int .i64 n0 = a0 := (Option.some.inj (h 0 (by decide))).symm
    obtain rfl : .int .i64 n1 = a1 := (Option.some.inj (h 1 (by decide))).symm
    obtain rfl : .int .i64 n2 = a2 := (Option.some.inj (h 2 (by decide))).symm
    obtain rfl : .int .i64 n3 = a3 := (Option.some.inj (h 3 (by decide))).symm
    obtain rfl : .bool b0 = a4 := (Option.some.inj (h 5 (by decide))).symm
    obtain rfl : .bool b1 = a5 := (Option.some.inj (h 6 (by decide))).symm
    obtain rfl : .bool b2 = a6 := (Option.some.inj (h 7 (by decide))).symm
    obtain rfl : .bool b3 = a7 := (Option.some.inj (h 8 (by decide))).symm
    obtain rfl : .bool b4 = a8 := (Option.some.inj (h 9 (by decide))).symm
    obtain rfl : .bool b5 = a9 := (Option.some.inj (h 10 (by decide))).symm
    obtain rfl : .bool b6 = a10 := (Option.some.inj (h 11 (by decide))).symm
    obtain rfl : .bool b7 = a11 := (Option.some.inj (h 12 (by decide))).symm
    obtain rfl : .bool b8 = a12 := (Option.some.inj (h 13 (by decide))).symm
    obtain rfl : .bool b9 = a13 := (Option.some.inj (h 14 (by decide))).symm
    obtain rfl : .int .i64 n4 = a14 := (Option.some.inj (h 4 (by decide))).symm
    obtain rfl : .string s0 = a15 := (Option.some.inj (h 15 (by decide))).symm
    obtain rfl : .string s1 = a16 := (Option.some.inj (h 16 (by decide))).symm
    obtain rfl : .string s2 = a17 := (Option.some.inj (h 17 (by decide))).symm
    have e1 := congrArg List.dropLast hc
    have e2 := congrArg List.getLast? hc
    rw [List.dropLast_concat] at e1
    rw [List.getLast?_concat] at e2
    refine ⟨by rw [← e1]; rfl, ?_⟩
    exact (Option.some.inj e2).symm
theorem zero_same : ∀ k, k < 18 → z18[offK k]? = v18[k]? := fun k hk => match k, hk with
  | 0, _ => rfl
  | 1, _ => rfl
  | 2, _ => rfl
  | 3, _ => rfl
  | 4, _ => rfl
  | 5, _ => rfl
  | 6, _ => rfl
  | 7, _ => rfl
  | 8, _ => rfl
  | 9, _ => rfl
  | 10, _ => rfl
  | 11, _ => rfl
  | 12, _ => rfl
  | 13, _ => rfl
  | 14, _ => rfl
  | 15, _ => rfl
  | 16, _ => rfl
  | 17, _ => rfl
  | k + 18, h => absurd h (by omega)
/-- Both tell the same. -/
theorem both (s : ByteArray) (hs : s.size ≤ 1099511627776) : ∃ n0 n1 n2 n3 n4 b0 b1 b2 b3 b4 b5 b6 b7 b8 b9 s0 s1 s2 E A, (∀ w, Sx w → Calls Tryd.prog 13 #[.string s] w fun e w' => e = .returned (.tuple #[.agg (opts n0 n1 n2 n3 n4 b0 b1 b2 b3 b4 b5 b6 b7 b8 b9 s0 s1), .string s2, .agg #[.int .i64 E, .int .i64 A]]) ∧ Touch (fun _ => False) w w') ∧ (∀ w, Calls Tryd.prog 14 #[.string s] w fun e w' => e = .returned (.tuple #[.agg (vals n0 n1 n2 n3 n4 b0 b1 b2 b3 b4 b5 b6 b7 b8 b9 s0 s1 s2), .int .i64 E, .int .i64 A]) ∧ Touch (fun _ => False) w w') := by
  cases hu : un s.data.toList with
  | error p =>
    refine ⟨0, 0, 0, 0, 0, false, false, false, false, false, false, false, false, false, false, ⟨#[]⟩, ⟨#[]⟩, ⟨#[]⟩, 4, (p : Nat), fun w hx => ?_, fun w => ?_⟩
    · rw [← opts_eq]
      exact parse_bad s p w hs hx hu
    · rw [← vals_eq]
      exact dparse_bad s p w hs hu
  | ok ls =>
    have hb := bth (ls.length + 2) ls (List.range 18) (List.replicate 18 false) z18 v18 0 List.nodup_range (fun k => by
      rw [List.mem_range]
      constructor
      · intro h
        refine ⟨h, ?_⟩
        rw [List.getD_eq_getElem?_getD, List.getElem?_replicate, if_pos h]
        rfl
      · exact fun h => h.1) rfl rfl rfl zero_same
    generalize hR : rdF (ls.length + 2) ls (List.range 18) z18 0 = R at hb
    generalize hD : dpF (ls.length + 2) ls (List.replicate 18 false) v18 0 = D at hb
    cases hb with
    | err p =>
      refine ⟨0, 0, 0, 0, 0, false, false, false, false, false, false, false, false, false, false, ⟨#[]⟩, ⟨#[]⟩, ⟨#[]⟩, 29, (p : Nat), fun w hx => ?_, fun w => ?_⟩
      · rw [← opts_eq]
        exact parse_word s ls p w hs hx hu hR
      · rw [← vals_eq]
        exact dparse_list s ls w hs hu _ hD
    | ok cs vs h1 h2 h =>
      obtain ⟨n0, n1, n2, n3, n4, b0, b1, b2, b3, b4, b5, b6, b7, b8, b9, s0, s1, s2, rfl⟩ := ty_vals (dp_ty _ _ _ _ _ _ v18_ty hD)
      refine ⟨n0, n1, n2, n3, n4, b0, b1, b2, b3, b4, b5, b6, b7, b8, b9, s0, s1, s2, 0, 0, fun w hx => ?_, fun w => ?_⟩
      · refine (parse_good s ls cs w hs hx hu hR).mono ?_
        rintro e w' ⟨c17, bv, hcs, hl, rfl, t⟩
        obtain ⟨e1, rfl⟩ := words_opts n0 n1 n2 n3 n4 b0 b1 b2 b3 b4 b5 b6 b7 b8 b9 s0 s1 s2 h1 h hcs hl
        rw [e1]
        exact ⟨rfl, t⟩
      · exact dparse_list s ls w hs hu _ hD
theorem range_of {w : World} {g : Nat} {cs : Array Value} {t : TypeId} {fr : Nat × Nat} (h : w.heap[g]? = some (.cells cs t fr)) : w.rangeAt g 0 cs.toList := fun j v hv => by
  rw [Nat.zero_add]
  have : cs[j]? = some v := by rw [← Array.getElem?_toList]; exact hv
  simp [World.cell?, h, this]
theorem vals_one (n0 n1 n2 n3 n4 : Int) (b0 b1 b2 b3 b4 b5 b6 b7 b8 b9 : Bool) (s0 s1 s2 : ByteArray) : (vals n0 n1 n2 n3 n4 b0 b1 b2 b3 b4 b5 b6 b7 b8 b9 s0 s1 s2).all (·.oneCell') = true := by kernel_rfl
theorem vals_info (n0 n1 n2 n3 n4 : Int) (b0 b1 b2 b3 b4 b5 b6 b7 b8 b9 : Bool) (s0 s1 s2 : ByteArray) : (Tryd.prog.info? 46).map (·.size) = some (vals n0 n1 n2 n3 n4 b0 b1 b2 b3 b4 b5 b6 b7 b8 b9 s0 s1 s2).size := by kernel_rfl
set_option maxRecDepth 100000 in
set_option maxHeartbeats 8000000 in
theorem argsParses_walk (s : ByteArray) (w : World) (hs : s.size ≤ 1099511627776) (hx : Sx w) :
    Calls Tryd.prog 5 #[.string s] w fun e w' => e = .returned (.bool true) ∧ Below w.heap.size w w' := by
  obtain ⟨n0, n1, n2, n3, n4, b0, b1, b2, b3, b4, b5, b6, b7, b8, b9, s0, s1, s2, E, A, hk1, hk2⟩ := both s hs
  have K13 := hid hk1
  have K14 := hid hk2
  have KS := hid (speaks_yes w hx)
  have HX := hid hx
  clear hx hk1 hk2
  go_enter Tryd.func5, Tryd.ntmps5
  go_wp2_with fail
  refine KS.out.mono ?_
  rintro e w0 ⟨rfl, t0⟩
  have T0 := hid t0
  clear t0 KS
  go_wp2_with fail
  refine (K13.out w0 (HX.out.new T0.out)).mono ?_
  rintro e w1 ⟨rfl, t1⟩
  have T1 := hid (((T0.out.trans t1 (fun _ _ e => e)).alloc (.cells z17 39)).alloc (.cells #[.int .i64 0, .int .i64 0] 27))
  have B3 := hid (show ((w1.alloc (.cells z17 39)).alloc (.cells #[.int .i64 0, .int .i64 0] 27)).heap[w1.heap.size]? = some (.cells z17 39 (0, 0)) from by
    rw [Below.heap_alloc _ _ _ (by show _ < (w1.heap.push _).size; simp)]
    show (w1.heap.push _)[_]? = _
    simp)
  have B5 := hid (show ((w1.alloc (.cells z17 39)).alloc (.cells #[.int .i64 0, .int .i64 0] 27)).heap[w1.heap.size + 1]? = some (.cells #[.int .i64 0, .int .i64 0] 27 (0, 0)) from by
    have := two_new (w := w1.alloc (.cells z17 39)) (.int .i64 0) (.int .i64 0) 27
    rw [show (w1.alloc (.cells z17 39)).heap.size = w1.heap.size + 1 from by show (w1.heap.push _).size = _; simp] at this
    exact this)
  have HQ := hid (show w.heap.size ≤ w1.heap.size from Nat.le_trans T0.out.size t1.size)
  clear t1 T0 K13
  have HC := hid (fin_r (qp := w1.heap.size) (cs := opts n0 n1 n2 n3 n4 b0 b1 b2 b3 b4 b5 b6 b7 b8 b9 s0 s1) B5.out (Nat.lt_succ_self _))
  have F3 := hid (setRow_heap _ w1.heap.size _ (opts n0 n1 n2 n3 n4 b0 b1 b2 b3 b4 b5 b6 b7 b8 b9 s0 s1) 39 (0, 0) B3.out)
  have T2 := hid (T1.out.setRow (g := w1.heap.size) (fun h => absurd h (Nat.not_lt.2 HQ.out)) (opts n0 n1 n2 n3 n4 b0 b1 b2 b3 b4 b5 b6 b7 b8 b9 s0 s1))
  go_wp2_with (first | (refine wpList_store_row (P := Tryd.prog) rfl 39 (.tmp 3) (.tmp 14) rfl w1.heap.size (opts n0 n1 n2 n3 n4 b0 b1 b2 b3 b4 b5 b6 b7 b8 b9 s0 s1) rfl rfl 39 z17 B3.out (opts_info ..) rfl (opts_one ..) ?_; change wpList _ _ _ _ _ (((w1.alloc (.cells z17 39)).alloc (.cells #[.int .i64 0, .int .i64 0] 27)).setRow w1.heap.size (opts n0 n1 n2 n3 n4 b0 b1 b2 b3 b4 b5 b6 b7 b8 b9 s0 s1)); generalize ((w1.alloc (.cells z17 39)).alloc (.cells #[.int .i64 0, .int .i64 0] 27)).setRow w1.heap.size (opts n0 n1 n2 n3 n4 b0 b1 b2 b3 b4 b5 b6 b7 b8 b9 s0 s1) = wz at *; have g0 := cell_two0 HC.out; have g1 := cell_two1 HC.out; have gf0 := free_two (i := 0) HC.out; have gf1 := free_two (i := 1) HC.out) | fail)
  have F5 := hid (fset HC.out (.int .i64 E) (.int .i64 A))
  have F3 := hid (show ((wz.setCell ⟨w1.heap.size + 1, 0, none⟩ (.int .i64 E)).setCell ⟨w1.heap.size + 1, 1, none⟩ (.int .i64 A)).heap[w1.heap.size]? = some (.cells (opts n0 n1 n2 n3 n4 b0 b1 b2 b3 b4 b5 b6 b7 b8 b9 s0 s1) 39 (0, 0)) from by
    rw [Below.heap_setCell _ _ _ _ (show w1.heap.size ≠ w1.heap.size + 1 by omega), Below.heap_setCell _ _ _ _ (show w1.heap.size ≠ w1.heap.size + 1 by omega)]
    exact F3.out)
  have T2 := hid (ftouch T2.out (q := w1.heap.size + 1) (by have := HQ.out; omega) (.int .i64 E) (.int .i64 A))
  generalize (wz.setCell ⟨w1.heap.size + 1, 0, none⟩ (.int .i64 E)).setCell ⟨w1.heap.size + 1, 1, none⟩ (.int .i64 A) = w2 at *
  obtain ⟨q3, hq3⟩ : ∃ q3, q3 = w1.heap.size := ⟨_, rfl⟩
  obtain ⟨q5, hq5⟩ : ∃ q5, q5 = w1.heap.size + 1 := ⟨_, rfl⟩
  rw [← hq5] at F5 ⊢
  rw [← hq3] at F3 ⊢
  have HQ3 := hid (show w.heap.size ≤ q3 ∧ q3 < q5 from ⟨by have := HQ.out; omega, by omega⟩)
  clear hq3 hq5 HC B3 B5 T1 HQ
  refine (K14.out w2).mono ?_
  rintro e w3 ⟨rfl, t3⟩
  have T3 := hid ((Touch.refl (fun _ => False) w3).alloc (.cells v18 46))
  have B6 := hid (blk_new (w := w3) v18 46)
  have HW3 := hid (show w.heap.size ≤ w3.heap.size ∧ q3 < w3.heap.size ∧ q5 < w3.heap.size from ⟨Nat.le_trans T2.out.size t3.size, Nat.lt_of_lt_of_le (lt_of_block F3.out) t3.size, Nat.lt_of_lt_of_le (lt_of_block F5.out) t3.size⟩)
  have T4 := hid ((T2.out.trans t3 (fun _ _ e => e)).trans T3.out (fun _ _ e => e))
  have F34 := hid (((t3.trans T3.out (fun _ _ e => e)).block q3 (lt_of_block F3.out) id).trans F3.out)
  have F54 := hid (((t3.trans T3.out (fun _ _ e => e)).block q5 (lt_of_block F5.out) id).trans F5.out)
  clear t3 T3 T2 F3 F5 K14
  go_upto_region 5 with (first | refine wpList_store_row (P := Tryd.prog) rfl 46 (.tmp 6) (.tmp 20) rfl w3.heap.size (vals n0 n1 n2 n3 n4 b0 b1 b2 b3 b4 b5 b6 b7 b8 b9 s0 s1 s2) rfl rfl 46 v18 B6.out (vals_info ..) rfl (vals_one ..) ?_ | fail)
  change Code.wp _ _ _ _ ((w3.alloc (.cells v18 46)).setRow w3.heap.size (vals n0 n1 n2 n3 n4 b0 b1 b2 b3 b4 b5 b6 b7 b8 b9 s0 s1 s2))
  have F6 := hid (setRow_heap _ w3.heap.size _ (vals n0 n1 n2 n3 n4 b0 b1 b2 b3 b4 b5 b6 b7 b8 b9 s0 s1 s2) 46 (0, 0) B6.out)
  have F3 := hid ((setRow_other (w3.alloc (.cells v18 46)) w3.heap.size q3 (vals n0 n1 n2 n3 n4 b0 b1 b2 b3 b4 b5 b6 b7 b8 b9 s0 s1 s2) (by have := HW3.out; omega)).trans F34.out)
  have F5 := hid ((setRow_other (w3.alloc (.cells v18 46)) w3.heap.size q5 (vals n0 n1 n2 n3 n4 b0 b1 b2 b3 b4 b5 b6 b7 b8 b9 s0 s1 s2) (by have := HW3.out; omega)).trans F54.out)
  have T5 := hid (T4.out.setRow (g := w3.heap.size) (fun h => absurd h (Nat.not_lt.2 HW3.out.1)) (vals n0 n1 n2 n3 n4 b0 b1 b2 b3 b4 b5 b6 b7 b8 b9 s0 s1 s2))
  generalize (w3.alloc (.cells v18 46)).setRow w3.heap.size (vals n0 n1 n2 n3 n4 b0 b1 b2 b3 b4 b5 b6 b7 b8 b9 s0 s1 s2) = w5 at *
  generalize w3.heap.size = q6 at *
  clear F34 F54 T4 B6
  have mixed : Tryd.prog.follows Departure.mixedOrders = true := by kernel_rfl
  have SW := hid (show (fun w' => w'.heap[q3]? = some (.cells (opts n0 n1 n2 n3 n4 b0 b1 b2 b3 b4 b5 b6 b7 b8 b9 s0 s1) 39 (0, 0)) ∧ w'.heap[q5]? = some (.cells #[.int .i64 E, .int .i64 A] 27 (0, 0)) ∧ w'.heap[q6]? = some (.cells (vals n0 n1 n2 n3 n4 b0 b1 b2 b3 b4 b5 b6 b7 b8 b9 s0 s1 s2) 46 (0, 0))) w5.drew from ⟨F3.out, F5.out, F6.out⟩)
  refine wp_region_held (S := fun w' => w'.heap[q3]? = some (.cells (opts n0 n1 n2 n3 n4 b0 b1 b2 b3 b4 b5 b6 b7 b8 b9 s0 s1) 39 (0, 0)) ∧ w'.heap[q5]? = some (.cells #[.int .i64 E, .int .i64 A] 27 (0, 0)) ∧ w'.heap[q6]? = some (.cells (vals n0 n1 n2 n3 n4 b0 b1 b2 b3 b4 b5 b6 b7 b8 b9 s0 s1 s2) 46 (0, 0))) mixed ?_
  change wpAnyH _ _ _ _ _ _ _ _ w5.drew
  refine wpAnyH_take (i := 0) (v := .agg #[.int .i64 E, .int .i64 A]) rfl (by kernel_rfl) (by kernel_rfl) (by kernel_rfl) (fun _ _ _ h => h) (.inl ⟨by kernel_rfl, fun w' hS => ?_⟩) SW.out ?_
  · have s0 := cell_two0 hS.2.1
    have s1 := cell_two1 hS.2.1
    clear hS
    go_simp
  refine wpAnyH_take (i := 1) (v := .int .i64 E) rfl (by kernel_rfl) (by kernel_rfl) (by kernel_rfl) (fun _ _ _ h => h) (.inl ⟨by kernel_rfl, fun w' hS => ?_⟩) SW.out ?_
  · go_simp
  refine wpAnyH_take (i := 2) (v := .int .i64 A) rfl (by kernel_rfl) (by kernel_rfl) (by kernel_rfl) (fun _ _ _ h => h) (.inl ⟨by kernel_rfl, fun w' hS => ?_⟩) SW.out ?_
  · go_simp
  refine wpAnyH_take (i := 3) (v := .agg #[.int .i64 E, .int .i64 A]) rfl (by kernel_rfl) (by kernel_rfl) (by kernel_rfl) (fun _ _ _ h => h) (.inl ⟨by kernel_rfl, fun w' hS => ?_⟩) SW.out ?_
  · go_simp
  refine wpAnyH_take (i := 4) (v := .bool true) rfl (by kernel_rfl) (by kernel_rfl) (by kernel_rfl) (fun _ _ _ h => h) (.inl ⟨by kernel_rfl, fun w' hS => ?_⟩) SW.out ?_
  · go_simp
  refine wpAnyH_take (i := 5) (v := .bool true) rfl (by kernel_rfl) (by kernel_rfl) (by kernel_rfl) (fun _ _ _ h => h) (.inl ⟨by kernel_rfl, fun w' hS => ?_⟩) SW.out ?_
  · go_simp
  refine wpAnyH_take (i := 6) (v := .string s2) rfl (by kernel_rfl) (by kernel_rfl) (by kernel_rfl) (fun _ _ _ h => h) (.inl ⟨by kernel_rfl, fun w' hS => ?_⟩) SW.out ?_
  · go_simp
  refine wpAnyH_take (i := 7) (v := .pointer (some ⟨q6, 15, none⟩)) rfl (by kernel_rfl) (by kernel_rfl) (by kernel_rfl) (fun _ _ _ h => h) (.inl ⟨by kernel_rfl, fun w' hS => ?_⟩) SW.out ?_
  · go_simp
  refine wpAnyH_take (i := 8) (v := .pointer (some ⟨q6, 17, none⟩)) rfl (by kernel_rfl) (by kernel_rfl) (by kernel_rfl) (fun _ _ _ h => h) (.inl ⟨by kernel_rfl, fun w' hS => ?_⟩) SW.out ?_
  · go_simp
  refine wpAnyH_take (i := 9) (v := .string s2) rfl (by kernel_rfl) (by kernel_rfl) (by kernel_rfl) (fun _ _ _ h => h) (.inl ⟨by kernel_rfl, fun w' hS => ?_⟩) SW.out ?_
  · have s0 : w'.cell? ⟨q6, 17, none⟩ = some (.string s2) := cell_of hS.2.2 17 (show 17 < 18 by decide)
    clear hS
    go_simp
  refine wpAnyH_take (i := 10) (v := .bool true) rfl (by kernel_rfl) (by kernel_rfl) (by kernel_rfl) (fun _ _ _ h => h) (.inl ⟨by kernel_rfl, fun w' hS => ?_⟩) SW.out ?_
  · go_simp
  refine wpAnyH_take (i := 11) (v := .bool true) rfl (by kernel_rfl) (by kernel_rfl) (by kernel_rfl) (fun _ _ _ h => h) (.inl ⟨by kernel_rfl, fun w' hS => ?_⟩) SW.out ?_
  · go_simp
  refine wpAnyH_take (i := 12) (v := .bool true) rfl (by kernel_rfl) (by kernel_rfl) (by kernel_rfl) (fun _ _ _ h => h) (.inl ⟨by kernel_rfl, fun w' hS => ?_⟩) SW.out ?_
  · go_simp
  refine wpAnyH_take (i := 13) (v := .agg (opts n0 n1 n2 n3 n4 b0 b1 b2 b3 b4 b5 b6 b7 b8 b9 s0 s1)) rfl (by kernel_rfl) (by kernel_rfl) (by kernel_rfl) (fun _ _ _ h => h) (yieldsIf_load_mid (by kernel_rfl) 39 (.tmp 3) (by kernel_rfl) q3 0 (by kernel_rfl) (opts n0 n1 n2 n3 n4 b0 b1 b2 b3 b4 b5 b6 b7 b8 b9 s0 s1).toList _ (fun w h => range_of h.1) Tryd.underlying39 rfl (opts_info ..)) SW.out ?_
  refine wpAnyH_take (i := 14) (v := .agg (vals n0 n1 n2 n3 n4 b0 b1 b2 b3 b4 b5 b6 b7 b8 b9 s0 s1 s2)) rfl (by kernel_rfl) (by kernel_rfl) (by kernel_rfl) (fun _ _ _ h => h) (yieldsIf_load_mid (by kernel_rfl) 46 (.tmp 6) (by kernel_rfl) q6 0 (by kernel_rfl) (vals n0 n1 n2 n3 n4 b0 b1 b2 b3 b4 b5 b6 b7 b8 b9 s0 s1 s2).toList _ (fun w h => range_of h.2.2) Tryd.underlying46 rfl (vals_info ..)) SW.out ?_
  refine wpAnyH_ready (rs := [15]) (by kernel_rfl) (by simp) ?_
  refine AllReadyH.call _ rfl (by kernel_rfl) 15 #[.tmp 37] #[50] (by kernel_rfl) #[.agg (vals n0 n1 n2 n3 n4 b0 b1 b2 b3 b4 b5 b6 b7 b8 b9 s0 s1 s2)] (by kernel_rfl) (fun _ _ => by kernel_rfl) (fun v w' => v = .agg (opts n0 n1 n2 n3 n4 b0 b1 b2 b3 b4 b5 b6 b7 b8 b9 s0 s1) ∧ Touch (fun _ => False) w5.drew w') ((options_any n0 n1 n2 n3 n4 b0 b1 b2 b3 b4 b5 b6 b7 b8 b9 s0 s1 s2 w5.drew).mono (fun e w' h => ⟨_, h.1, rfl, h.2⟩)) ?_ AllReadyH.nil
  rintro v w6 ⟨rfl, t6⟩
  have SW6 := hid (show (fun w' => w'.heap[q3]? = some (.cells (opts n0 n1 n2 n3 n4 b0 b1 b2 b3 b4 b5 b6 b7 b8 b9 s0 s1) 39 (0, 0)) ∧ w'.heap[q5]? = some (.cells #[.int .i64 E, .int .i64 A] 27 (0, 0)) ∧ w'.heap[q6]? = some (.cells (vals n0 n1 n2 n3 n4 b0 b1 b2 b3 b4 b5 b6 b7 b8 b9 s0 s1 s2) 46 (0, 0))) w6 from ⟨(t6.block q3 (lt_of_block SW.out.1) id).trans SW.out.1, (t6.block q5 (lt_of_block SW.out.2.1) id).trans SW.out.2.1, (t6.block q6 (lt_of_block SW.out.2.2) id).trans SW.out.2.2⟩)
  have T6 := hid (T5.out.drew.trans t6 (fun _ _ e => e))
  clear t6 SW T5
  refine ⟨SW6.out, ?_⟩
  refine wpAnyH_take (i := 16) (v := .bool true) rfl (by kernel_rfl) (by kernel_rfl) (by kernel_rfl) (fun _ _ _ h => h) (.inl ⟨by kernel_rfl, fun w' hS => ?_⟩) SW6.out ?_
  · have s0 := opts_same n0 n1 n2 n3 n4 b0 b1 b2 b3 b4 b5 b6 b7 b8 b9 s0 s1
    go_simp
  refine wpAnyH_take (i := 17) (v := .bool true) rfl (by kernel_rfl) (by kernel_rfl) (by kernel_rfl) (fun _ _ _ h => h) (.inl ⟨by kernel_rfl, fun w' hS => ?_⟩) SW6.out ?_
  · go_simp
  refine wpAnyH_take (i := 18) (v := .bool true) rfl (by kernel_rfl) (by kernel_rfl) (by kernel_rfl) (fun _ _ _ h => h) (.inl ⟨by kernel_rfl, fun w' hS => ?_⟩) SW6.out ?_
  · go_simp
  refine wpAnyH_done (by kernel_rfl) ?_ _
  go_wp2
  go_ret
  exact ⟨rfl, T6.out.below _ (Nat.le_refl _) (fun _ e => e.elim)⟩
end Go.Proofs.YtmeekjfnmdbnpaaDoor
