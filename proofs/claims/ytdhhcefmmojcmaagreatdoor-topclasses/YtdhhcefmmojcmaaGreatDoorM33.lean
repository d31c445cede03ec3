/- Texts of this proof, one behind the other: what each says stands ahead of it. -/
import Derived.Test.YtdhhcefmmojcmaaGreatDoorYr
import Derived.Test.YtdhhcefmmojcmaaGreatDoorM7
import Derived.Test.YtdhhcefmmojcmaaGreatDoorM31
/- A parser of patterns: an atom that is a dot; conditions: as told. -/
namespace Go.Proofs.YtdhhcefmmojcmaaGreatDoor
open Go.RowKit
open Go.Lib

theorem less_dot (a1 a2 : Option Addr) (c1 c2 : Nat) (w : World) (h1 : Rg w a1 (cnR [(0, 1114111)])) (h2 : Rg w a2 (cnR [(10, 10)])) (k1 : (cnR [(0, 1114111)]).length ≤ c1) :
    Calls Tryz.prog 115 #[.slice a1 (cnR [(0, 1114111)]).length c1, .slice a2 (cnR [(10, 10)]).length c2] w fun e w' => ∃ v, e = .returned v ∧ OwE w w' 60 v (cnR lDot) :=
  (less_says a1 a2 c1 c2 _ _ w h1 h2 k1 (cn_good _).1 (cn_good _).1).mono (fun e w' ⟨v, n, g1, g2, g3, g4⟩ => ⟨v, g1, by
    have : n = cnR lDot := cn_of g2 (fun x => by
      rw [g3, (cn_good _).2, (cn_good _).2]
      unfold In lDot
      simp
      omega)
    rw [← this]
    exact g4⟩)
theorem own_cap6 {w : World} {e : TypeId} {sz n c : Nat} {a : Option Addr} {xs : List Value} (h : w.ownsRow 0 e sz (.slice a n c) n xs) : n ≤ c := by
  rcases h.2 with ⟨h1, h2⟩ | ⟨g, cap, cur, hv, hg, hh, hn, _⟩
  · cases h1
    omega
  · cases hv
    exact hn
theorem run_store28 (a : Act) (w : World) (o : Oper) (x y : Operand) (ho : o.op = .store 28 x y) (q : Nat) (cs old : Array Value) (e1 : a.eval x = .pointer (some ⟨q, 0, none⟩)) (e2 : a.eval y = .agg cs) (h : w.heap[q]? = some (.cells old 28 (0, 0))) (hl : cs.size = 9) (hz : old.size = 9) (h1 : cs.all (·.oneCell') = true) :
    (execOp a.eval o).run Tryz.prog w = .ok .skip (w.setRow q cs) := by
  unfold execOp
  simp only [ho, e1, e2, Instr.storeAt, Instr.sureAddr, Sem.run_bind, Sem.run_pure, Result.andThen_ok, run_storeVar_row (P := Tryz.prog) w q 28 28 old cs h (by rw [hl]; exact info28) (by rw [hl, hz]) h1]
theorem step_callG {P : Program} {ops : Array Oper} {o : Oper} {a : Act} {w : World} {K : Act → World → Prop} {Q : Exit → Act → World → Prop} {E : Prop} (hw : Region.wanted o (yielded ops a.tmps) = true) (f : FuncId) (opnds : Array Operand) (ats : Array TypeId)
    (ho : o.op = .call { callee := .value (.func f), args := opnds, argTypes := ats }) (vs : Array Value) (hvl : opnds.toList.map a.eval = vs.toList) (hen : ∀ args w, (callFunc f args).run P w = .ok (.enter f args) w)
    (R : Value → World → Prop) (hc : Calls P f vs w (fun e w' => ∃ v, e = .returned v ∧ R v w')) (h : ∀ v w', R v w' → K (a.put o.dst v) w') :
    if Region.wanted o (yielded ops a.tmps) = true then Oper.wp P o a w K Q else E := by
  rw [if_pos hw]
  have hv : opnds.map a.eval = vs := by
    apply Array.toList_inj.1
    rw [Array.toList_map]
    exact hvl
  subst hv
  unfold Oper.wp execOp
  have e1 : a.eval (Operand.func f) = .func (.func f) #[] #[] := rfl
  simp only [ho, resolve, invoke, Sem.run_bind, Sem.run_pure, Result.andThen_ok, hen, e1, Deferred.ofValue, Array.empty_append, Array.append_empty]
  rw [Oper.upon_enter]
  refine hc.mono ?_
  rintro e w' ⟨v, rfl, hr⟩
  exact h v w' hr
theorem AllReadyH.callD {P : Program} {ops : Array Oper} {Q : Exit → Act → World → Prop} {md : Region.Mode} {S : World → Prop} {fuel : Nat} {listed : Array Bool} {a : Act} {w : World} {i : Nat} {rs : List Nat} {o : Oper} (d : Option Tmp) (ho : ops[i]? = some o) (hw : Region.wanted o (yielded ops a.tmps) = true) (f : FuncId) (opnds : Array Operand) (ats : Array TypeId)
    (hop : o.op = .call { callee := .value (.func f), args := opnds, argTypes := ats }) (vs : Array Value) (hvl : opnds.toList.map a.eval = vs.toList) (hen : ∀ args w, (callFunc f args).run P w = .ok (.enter f args) w)
    (R : Value → World → Prop) (hc : Calls P f vs w (fun e w' => ∃ v, e = .returned v ∧ R v w')) (hd : o.dst = d) (h : ∀ v w', R v w' → S w' ∧ wpAnyH P md ops Q S fuel (listed.setIfInBounds i true) (a.put d v) w')
    (hs : AllReadyH P md ops Q S fuel listed a w rs) : AllReadyH P md ops Q S fuel listed a w (i :: rs) :=
  AllReadyH.cons ho (fun _ hK => step_callG hw f opnds ats hop vs hvl hen R hc (fun v w' hr => by rw [hd]; exact hK.out _ _ (h v w' hr).1 (fun _ => (h v w' hr).2))) hs
set_option maxRecDepth 100000 in
set_option maxHeartbeats 8000000 in
theorem atom_dot (b : Nat) (X : Px) (k : Nat) (f : Fl) (vn : Value) (ns : List ByteArray) (op : Nat) (w : World) (h : PS w b X k f vn ns op) (hX : X.Good) (hk : k ≤ X.R.length) (hc : lkR X.R k = 46) :
    Calls Tryz.prog 95 #[.pointer (some ⟨b, 0, none⟩)] w fun e w' => OptP b X vn op (fun _ => False) w (.ok (some (.cls f (if f.s then cnR lAny else cnR lDot)), ⟨k + 1, f, ns⟩)) e w' := by
  have TA := hid (((Touch.refl (fun _ => False) w).alloc (.cells Cel.zero.arr 28)).mono (S' := fun g => g = b) (fun _ _ e => e.elim))
  have QB := hid (block_new w Cel.zero.arr 28)
  have HP := hid (h.new ((Touch.refl (fun _ => False) w).alloc (.cells Cel.zero.arr 28)))
  have hlt := h.lt
  have hk2 : k ≤ 1024 := by have := hX.lenR; omega
  clear h
  obtain ⟨L, hL⟩ : ∃ L, L = (if f.s = true then cnR lAny else cnR lDot) := ⟨_, rfl⟩
  rw [← hL]
  have HL := hid hL
  clear hL
  go_enter Tryz.func95, Tryz.ntmps95
  go_upto_region 1 with fail
  unfold Cel.zero Cel.arr at TA QB HP
  generalize w.alloc (.cells _ 28) = w1 at *
  obtain ⟨q, hq⟩ : ∃ q, q = w.heap.size := ⟨_, rfl⟩
  have HQ := hid (show w.heap.size ≤ q ∧ b < q by omega)
  rw [← hq] at QB ⊢
  clear hq hlt
  have c5 := HP.out.c5
  go_wp2_with fail
  refine (take_y HP.out (by omega) 46 hc (by decide)).mono ?_
  rintro e w2 ⟨rfl, hp, tt⟩
  replace QB := hid ((tt.block q (lt_of_block QB.out) (fun e => by have := HQ.out; omega)).trans QB.out)
  replace HP := hid hp
  replace TA := hid (TA.out.trans tt (fun _ _ e => e))
  clear hp tt c5
  have K1 := hid (between_any 0 1114111 w2)
  go_wp2_with fail
  refine K1.out.mono ?_
  rintro e w3 ⟨v, rfl, ow⟩
  obtain ⟨a2, c2, hv, r2⟩ := ow.slice
  subst hv
  have O6 := hid ow.own
  have N6 := hid (fun g e => Nat.le_trans TA.out.size (ow.new g e))
  have R6 := hid r2
  replace QB := hid ((ow.touch.block q (lt_of_block QB.out) id).trans QB.out)
  replace HP := hid (HP.out.new ow.touch)
  replace TA := hid (TA.out.trans ow.touch (fun _ _ e => e.elim))
  have C6 := hid (show (cnR [(0, 1114111)]).length ≤ c2 from own_cap6 ow.own)
  clear ow K1 r2
  have c8 := HP.out.c8
  have SW := hid (show w3.drew.cell? ⟨b, 8, none⟩ = some (.bool f.s) from c8)
  have RW := hid (R6.out.new ((Touch.refl (fun _ => False) w3).drew))
  have OW := hid (rowKept O6.out ((Touch.refl (fun _ => False) w3).drew) (fun _ _ e => e))
  clear c8
  go_upto_region 13 with fail
  have mixed : Tryz.prog.follows Departure.mixedOrders = true := by kernel_rfl
  refine wp_region_held (S := fun w' => w'.cell? ⟨b, 8, none⟩ = some (.bool f.s)) mixed ?_
  change wpAnyH _ _ _ _ _ _ _ _ w3.drew
  refine takeD (i := 0) (v := .pointer (some ⟨b, 0, none⟩)) (some 43) rfl (by kernel_rfl) (by kernel_rfl) (by kernel_rfl) (fun _ _ _ h => h) (.inl ⟨by kernel_rfl, fun w' hS => ?_⟩) SW.out (by kernel_rfl) ?_
  · go_simp
  refine takeD (i := 1) (v := .pointer (some ⟨b, 0, none⟩)) (some 44) rfl (by kernel_rfl) (by kernel_rfl) (by kernel_rfl) (fun _ _ _ h => h) (.inl ⟨by kernel_rfl, fun w' hS => ?_⟩) SW.out (by kernel_rfl) ?_
  · go_simp
  refine takeD (i := 2) (v := .pointer (some ⟨b, 0, none⟩)) (some 45) rfl (by kernel_rfl) (by kernel_rfl) (by kernel_rfl) (fun _ _ _ h => h) (.inl ⟨by kernel_rfl, fun w' hS => ?_⟩) SW.out (by kernel_rfl) ?_
  · go_simp
  refine takeD (i := 3) (v := .pointer (some ⟨b, 6, none⟩)) (some 46) rfl (by kernel_rfl) (by kernel_rfl) (by kernel_rfl) (fun _ _ _ h => h) (.inl ⟨by kernel_rfl, fun w' hS => ?_⟩) SW.out (by kernel_rfl) ?_
  · go_simp
  refine takeD (i := 4) (v := .pointer (some ⟨b, 8, none⟩)) (some 47) rfl (by kernel_rfl) (by kernel_rfl) (by kernel_rfl) (fun _ _ _ h => h) (.inl ⟨by kernel_rfl, fun w' hS => ?_⟩) SW.out (by kernel_rfl) ?_
  · go_simp
  refine takeD (i := 5) (v := .bool f.s) (some 48) rfl (by kernel_rfl) (by kernel_rfl) (by kernel_rfl) (fun _ _ _ h => h) (.inl ⟨by kernel_rfl, fun w' hS => ?_⟩) SW.out (by kernel_rfl) ?_
  · go_simp
  refine takeD (i := 6) (v := .slice a2 (cnR [(0, 1114111)]).length c2) (some 49) rfl (by kernel_rfl) (by kernel_rfl) (by kernel_rfl) (fun _ _ _ h => h) (.inl ⟨by kernel_rfl, fun w' hS => ?_⟩) SW.out (by kernel_rfl) ?_
  · go_simp
  refine takeD (i := 7) (v := .slice a2 (cnR [(0, 1114111)]).length c2) (some 50) rfl (by kernel_rfl) (by kernel_rfl) (by kernel_rfl) (fun _ _ _ h => h) (.inl ⟨by kernel_rfl, fun w' hS => ?_⟩) SW.out (by kernel_rfl) ?_
  · go_simp
  refine wpAnyH_ready (rs := [8]) (by kernel_rfl) (by simp) ?_
  refine AllReadyH.callD (some 51) rfl (by kernel_rfl) 116 _ _ rfl #[.int .i64 10] (by kernel_rfl) (fun _ _ => by kernel_rfl) (fun v w' => OwE w3.drew w' 60 v (cnR [(10, 10)])) ((only_any 10 w3.drew).mono (fun e w' ⟨v, h1, h2⟩ => ⟨v, h1, h2⟩)) (by kernel_rfl) ?_ AllReadyH.nil
  intro v51 w4 ow4
  obtain ⟨a4, c4, hv4, r4⟩ := ow4.slice
  subst hv4
  have SW4 := hid (show w4.cell? ⟨b, 8, none⟩ = some (.bool f.s) from (ow4.touch.cell (p := ⟨b, 8, none⟩) HP.out.lt id).trans SW.out)
  refine ⟨SW4.out, ?_⟩
  have RW4 := hid (RW.out.new ow4.touch)
  have OW4 := hid (rowKept OW.out ow4.touch (fun _ _ e => e))
  have T4 := hid (((Touch.refl (fun _ => False) w3).drew).trans ow4.touch (fun _ _ e => e))
  have R4 := hid r4
  clear r4 ow4 SW RW OW
  refine wpAnyH_ready (rs := [9]) (by kernel_rfl) (by simp) ?_
  refine AllReadyH.callD (some 52) rfl (by kernel_rfl) 115 _ _ rfl #[.slice a2 (cnR [(0, 1114111)]).length c2, .slice a4 (cnR [(10, 10)]).length c4] (by kernel_rfl) (fun _ _ => by kernel_rfl) (fun v w' => OwE w4 w' 60 v (cnR lDot)) ((less_dot a2 a4 c2 c4 w4 RW4.out R4.out C6.out).mono (fun e w' ⟨v, h1, h2⟩ => ⟨v, h1, h2⟩)) (by kernel_rfl) ?_ AllReadyH.nil
  intro v52 w5 ow5
  have SW5 := hid (show w5.cell? ⟨b, 8, none⟩ = some (.bool f.s) from (ow5.touch.cell (p := ⟨b, 8, none⟩) (Nat.lt_of_lt_of_le HP.out.lt T4.out.size) id).trans SW4.out)
  refine ⟨SW5.out, ?_⟩
  have OW5 := hid (rowKept OW4.out ow5.touch (fun _ _ e => e))
  have T5 := hid (T4.out.trans ow5.touch (fun _ _ e => e))
  have OV := hid ow5.own
  have NV := hid (fun g e => Nat.le_trans (Nat.le_trans TA.out.size T4.out.size) (ow5.new g e))
  clear ow5 OW4 RW4 R4 SW4 T4
  refine wpAnyH_ready (rs := [10]) (by kernel_rfl) (by simp) ?_
  refine AllReadyH.callD (some 53) rfl (by kernel_rfl) 114 _ _ rfl #[.bool f.s, .slice a2 (cnR [(0, 1114111)]).length c2, v52] (by kernel_rfl) (fun _ _ => by kernel_rfl) (fun v w' => v = (if f.s = true then .slice a2 (cnR [(0, 1114111)]).length c2 else v52) ∧ w' = w5) ((pick_set f.s _ v52 w5).mono (fun e w' h => ⟨_, h.1, rfl, h.2⟩)) (by kernel_rfl) ?_ AllReadyH.nil
  rintro v53 w6 ⟨hv53, rfl⟩
  refine ⟨SW5.out, ?_⟩
  have OP := hid (show w6.ownsRow 0 60 2 v53 L.length (flatR L) from by
    rw [hv53, HL.out]
    cases f.s
    · exact OV.out
    · exact OW5.out)
  have NP := hid (show ∀ g, v53.ownBlock = some g → w.heap.size ≤ g from by
    rw [hv53]
    cases f.s
    · exact NV.out
    · exact N6.out)
  clear hv53 OV OW5 NV N6 HL C6
  obtain ⟨a3, c3, hv3⟩ := own_shape OP.out
  subst hv3
  have HP6 := hid (HP.out.new T5.out)
  refine wpAnyH_ready (rs := [11]) (by kernel_rfl) (by simp) ?_
  refine AllReadyH.callD (some 54) rfl (by kernel_rfl) 110 _ _ rfl #[.pointer (some ⟨b, 0, none⟩), .slice a3 L.length c3] (by kernel_rfl) (fun _ _ => by kernel_rfl) (fun v w' => v = .agg (clsC f.i a3 L.length c3).arr ∧ Touch (fun _ => False) w6 w') ((ndclass_any b X (k + 1) f vn ns op a3 L.length c3 w6 HP6.out).mono (fun e w' h => ⟨_, h.1, rfl, h.2⟩)) (by kernel_rfl) ?_ AllReadyH.nil
  rintro v54 w7 ⟨rfl, t7⟩
  have SW7 := hid (show w7.cell? ⟨b, 8, none⟩ = some (.bool f.s) from (t7.cell (p := ⟨b, 8, none⟩) HP6.out.lt id).trans SW5.out)
  refine ⟨SW7.out, ?_⟩
  have T7 := hid (T5.out.trans t7 (fun _ _ e => e))
  have HP7 := hid (HP6.out.new t7)
  have O7 := hid (rowKept OP.out t7 (fun _ _ e => e))
  have Q7 := hid ((T7.out.block q (lt_of_block QB.out) id).trans QB.out)
  replace TA := hid (TA.out.trans T7.out (fun _ _ e => e.elim))
  clear t7 OP HP6 T5 T7 HP QB SW5
  have TR := touch_row w7 q (clsC f.i a3 L.length c3).arr
  have QR := setRow_heap w7 q _ (clsC f.i a3 L.length c3).arr 28 (0, 0) Q7.out
  refine wpAnyH_ready (rs := [12]) (by kernel_rfl) (by simp) ?_
  refine AllReadyH.skip rfl (by kernel_rfl) (w7.setRow q (clsC f.i a3 L.length c3).arr) (run_store28 _ _ _ (.tmp 2) (.tmp 54) (by kernel_rfl) q (clsC f.i a3 L.length c3).arr _ (by kernel_rfl) (by kernel_rfl) Q7.out rfl rfl (Cel.one _)) ?_ (by kernel_rfl) ?_ AllReadyH.nil
  · exact (TR.cell (p := ⟨b, 8, none⟩) HP7.out.lt (fun e => by have := HQ.out; simp only at e; omega)).trans SW7.out
  refine wpAnyH_ready (rs := [13]) (by kernel_rfl) (by simp) ?_
  refine AllReadyH.runD (some 3) rfl (by kernel_rfl) (.bool true) (w7.setRow q (clsC f.i a3 L.length c3).arr) (by go_simp) ((TR.cell (p := ⟨b, 8, none⟩) HP7.out.lt (fun e => by have := HQ.out; simp only at e; omega)).trans SW7.out) (by kernel_rfl) ?_ AllReadyH.nil
  refine wpAnyH_done (by kernel_rfl) ?_ _
  simp only [Act.put, List.setIfInBounds_toArray, List.set_cons_succ, List.set_cons_zero]
  have O8 := rowKept O7.out TR (fun g e s => by
    subst s
    obtain ⟨cs, fr, hh⟩ := own_type O7.out g e
    rw [Q7.out] at hh
    cases hh)
  have H8 := hid (HP7.out.row (cs := (clsC f.i a3 L.length c3).arr) HQ.out.2 Q7.out)
  have T8 := hid (TA.out.trans TR (fun i hi e => by have := HQ.out; omega))
  have X8 := hid (cls_tn (f := f) (B := fun g => w.heap.size ≤ g ∧ g < (w7.setRow q (clsC f.i a3 L.length c3).arr).heap.size) O8 (fun g e => ⟨NP.out g e, by obtain ⟨cs, fr, hh⟩ := own_type O8 g e; exact lt_of_block hh⟩))
  generalize w7.setRow q (clsC f.i a3 L.length c3).arr = w8 at *
  clear O7 Q7 HP7 O8 NP
  go_wp2
  refine bodyPost_ret (results_ct rfl _ _ q 28 _ (0, 0) _ rfl QR Tryz.underlying28 rfl (by kernel_rfl)) rfl ?_
  exact ⟨clsC f.i a3 L.length c3, vn, rfl, X8.out.more (fun g e => .inr e), H8.out, .inl rfl, T8.out.mono (fun _ _ e => .inl e)⟩
end Go.Proofs.YtdhhcefmmojcmaaGreatDoor

/- A parser of patterns, plain: no more names come than scalars are read; no condition. -/
namespace Go.Proofs.YtdhhcefmmojcmaaGreatDoor
open Go.RowKit

/-- No more names come than scalars are read. -/
def Grw (R : List Int) (f : Sub) : Prop := ∀ st x s1, st.k ≤ R.length → f st = .ok (x, s1) → s1.ns.length + st.k ≤ st.ns.length + s1.k
theorem with_grw {R : List Int} {alt : Sub} (G : Grw R alt) {k0 : Nat} {st s1 : St} {f : Fl} {x : Nd} (hk : st.k ≤ R.length) (h : withF R alt k0 st f = .ok (x, s1)) : s1.ns.length + st.k + 1 ≤ st.ns.length + s1.k := by
  unfold withF at h
  split at h
  · cases h
  · rename_i y s2 hs
    have := G { st with f := f } y s2 hk hs
    split at h
    · cases h
      simp only at *
      omega
    · cases h
theorem group_grw {R : List Int} {alt : Sub} (G : Grw R alt) {k0 : Nat} {st s1 : St} {name : ByteArray} {x : Nd} (hk : st.k ≤ R.length) (h : groupF R alt k0 st name = .ok (x, s1)) : s1.ns.length + st.k ≤ st.ns.length + s1.k := by
  unfold groupF at h
  split at h
  · cases h
  · rename_i y s2 hs
    have := with_grw G (st := { st with ns := st.ns ++ [name] }) hk hs
    cases h
    simp only [List.length_append, List.length_singleton] at this
    omega
theorem brack_grw {R : List Int} {sub : Option Sub} (G : ∀ f, sub = some f → Grw R f) {st s1 : St} {o : Option Nd} (hk : st.k < R.length) (h : brackF R sub st = .ok (o, s1)) : s1.ns.length + st.k ≤ st.ns.length + s1.k := by
  unfold brackF at h
  split at h
  · cases h
  rename_i alt
  have GA := G alt rfl
  split at h
  · rename_i e1
    have g1 := lk_is e1 (by decide)
    split at h
    · rename_i e2
      have g2 := lk_is e2 (by decide)
      split at h
      · cases h
      · rename_i nm k1 hn
        have := name_fwd hn
        split at h
        · cases h
        · rename_i hg
          have := group_grw GA (by simp only; omega) hg
          cases h
          simp only at *
          omega
    split at h
    · rename_i e2
      have g2 := lk_is e2 (by decide)
      split at h
      · cases h
      · rename_i hg
        have := with_grw GA (by simp only; omega) hg
        cases h
        simp only at *
        omega
    · simp only at h
      have gf := flags_fwd st.f (st.k + 2) g1
      split at h
      · rename_i e3
        have g3 := lk_is e3.2 (by decide)
        split at h
        · cases h
        · rename_i hg
          have := with_grw GA (by simp only; omega) hg
          cases h
          simp only at *
          omega
      split at h
      · cases h
        simp only
        omega
      · cases h
  · split at h
    · cases h
    · rename_i hg
      have := group_grw GA (by simp only; omega) hg
      cases h
      simp only at *
      omega
theorem stroke_ns {R : List Int} {tab : List (ByteArray × List R2)} {st s1 : St} {o : Option Nd} (h : strokeF R tab st = .ok (o, s1)) : s1.ns = st.ns := by
  unfold strokeF strokeC at h
  split at h
  · cases h; rfl
  split at h
  · cases h; rfl
  split at h
  · cases h; rfl
  split at h
  · cases h; rfl
  split at h
  · cases h
  · cases h; rfl
theorem atom_grw {R : List Int} {tab : List (ByteArray × List R2)} {sub : Option Sub} (H : ∀ f, sub = some f → Fwd R f) (G : ∀ f, sub = some f → Grw R f) {st s1 : St} {o : Option Nd} (hk : st.k < R.length) (h : atomF R tab sub st = .ok (o, s1)) : s1.ns.length + st.k ≤ st.ns.length + s1.k := by
  have hf := atom_fwd H hk h
  unfold atomF atomC at h
  split at h
  · exact brack_grw G hk h
  split at h
  · unfold clsF at h
    split at h
    · cases h
    · cases h
      simp only at *
      omega
  split at h
  · rw [stroke_ns h]
    omega
  split at h
  · cases h; simp only; omega
  split at h
  · cases h; simp only; omega
  split at h
  · cases h; simp only; omega
  · cases h; simp only; omega
theorem rep_ns {R : List Int} {x y : Nd} {st s1 : St} (h : repF R x st = .ok (y, s1)) : s1.ns = st.ns := by
  unfold repF at h
  split at h
  · cases h
  · cases h; rfl
  · cases h; rfl
theorem piece_grw {R : List Int} {tab : List (ByteArray × List R2)} {sub : Option Sub} (H : ∀ f, sub = some f → Fwd R f) (G : ∀ f, sub = some f → Grw R f) {st s1 : St} {o : Option Nd} (hk : st.k < R.length) (h : pieceF R tab sub st = .ok (o, s1)) : s1.ns.length + st.k ≤ st.ns.length + s1.k := by
  unfold pieceF at h
  split at h
  · cases h
  split at h
  · cases h
  · rename_i ha
    have := atom_grw H G hk ha
    cases h
    exact this
  · rename_i x s2 ha
    have g := atom_grw H G hk ha
    have g2 := atom_fwd H hk ha
    split at h
    · cases h
    · rename_i hr
      have := rep_fwd g2.2 hr
      have e := rep_ns hr
      cases h
      rw [e]
      omega
theorem row_grw {R : List Int} {tab : List (ByteArray × List R2)} {sub : Option Sub} (H : ∀ f, sub = some f → Fwd R f) (G : ∀ f, sub = some f → Grw R f) : ∀ (f : Nat) (st : St) (l m : List Nd) (s1 : St), st.k ≤ R.length → rowF R tab sub f st l = .ok (m, s1) → s1.ns.length + st.k ≤ st.ns.length + s1.k
  | 0, st, l, m, s1, hk, h => by
    rw [rowF] at h
    cases h
    omega
  | f + 1, st, l, m, s1, hk, h => by
    rw [rowF] at h
    split at h
    · cases h
      omega
    rename_i he
    have hlt : st.k < R.length := lk_lt (fun e => he (by rw [e]; rfl))
    split at h
    · cases h
    · rename_i s2 hp
      have g := piece_grw H G hlt hp
      have := row_grw H G f s2 l m s1 (piece_fwd H hlt hp).2 h
      omega
    · rename_i x s2 hp
      have g := piece_grw H G hlt hp
      have := row_grw H G f s2 _ m s1 (piece_fwd H hlt hp).2 h
      omega
theorem cat_grw {R : List Int} {tab : List (ByteArray × List R2)} {sub : Option Sub} (H : ∀ f, sub = some f → Fwd R f) (G : ∀ f, sub = some f → Grw R f) : Grw R (catF R tab sub) := by
  intro st x s1 hk h
  unfold catF at h
  split at h
  · cases h
  · rename_i l s2 hr
    have := row_grw H G _ _ _ _ _ hk hr
    cases h
    exact this
theorem alts_grw {R : List Int} {tab : List (ByteArray × List R2)} {sub : Option Sub} (H : ∀ f, sub = some f → Fwd R f) (G : ∀ f, sub = some f → Grw R f) : ∀ (f : Nat) (st : St) (l : List Nd) (x : Nd) (s1 : St), st.k ≤ R.length → altsF R tab sub f st l = .ok (x, s1) → s1.ns.length + st.k ≤ st.ns.length + s1.k
  | 0, st, l, x, s1, hk, h => by
    rw [altsF] at h
    cases h
    omega
  | f + 1, st, l, x, s1, hk, h => by
    rw [altsF] at h
    split at h
    · rename_i e
      have hlt := lk_is e (by decide)
      split at h
      · cases h
      · rename_i y s2 hc
        have g := cat_grw H G { st with k := st.k + 1 } _ _ (by simp only; omega) hc
        have g2 := cat_fwd H { st with k := st.k + 1 } _ _ (by simp only; omega) hc
        have := alts_grw H G f s2 _ x s1 g2.2 h
        simp only at g
        omega
    · cases h
      omega
theorem altB_grw {R : List Int} {tab : List (ByteArray × List R2)} {sub : Option Sub} (H : ∀ f, sub = some f → Fwd R f) (G : ∀ f, sub = some f → Grw R f) : Grw R (altB R tab sub) := by
  intro st x s1 hk h
  unfold altB at h
  split at h
  · cases h
  · rename_i y s2 hc
    have g := cat_grw H G st _ _ hk hc
    have g2 := cat_fwd H st _ _ hk hc
    have := alts_grw H G _ s2 _ x s1 g2.2 h
    omega
theorem altN_grw (R : List Int) (tab : List (ByteArray × List R2)) : ∀ n, Grw R (altN R tab n)
  | 0 => fun st x s1 hk h => altB_grw (sub := none) (fun f e => by cases e) (fun f e => by cases e) st x s1 hk (by rw [altN] at h; exact h)
  | n + 1 => fun st x s1 hk h => altB_grw (sub := some (altN R tab n)) (fun f e => by cases e; exact altN_fwd R tab n) (fun f e => by cases e; exact altN_grw R tab n) st x s1 hk (by rw [altN] at h; exact h)
end Go.Proofs.YtdhhcefmmojcmaaGreatDoor

/- A parser of patterns: nodes that are collected; conditions: as told. -/
namespace Go.Proofs.YtdhhcefmmojcmaaGreatDoor
open Go.RowKit
open Go.Lib

/-- Nodes that are collected in a list of the call's own. -/
structure PcL (lo : Nat) (w : World) (v : Value) (cs : List Cel) (l : List Nd) : Prop where
  own : CL w v cs
  new : ∀ g, v.ownBlock = some g → lo ≤ g
  len : cs.length = l.length
  tn : ∀ (i : Nat) (c : Cel) (x : Nd), cs[i]? = some c → l[i]? = some x → TN w (fun g => (lo ≤ g ∧ g < w.heap.size) ∧ v.ownBlock ≠ some g) c x
theorem PcL.nil (lo : Nat) (w : World) : PcL lo w (.slice none 0 0) [] [] := ⟨cl_nil w, fun g e => by (cases e), rfl, fun i c x e => by simp at e⟩
theorem PcL.kept {lo : Nat} {w w' : World} {v : Value} {cs : List Cel} {l : List Nd} {S : Nat → Prop} (h : PcL lo w v cs l) (t : Touch S w w') (hS : ∀ g, S g → NT w g) : PcL lo w' v cs l :=
  ⟨rowKept h.own t (fun g e s => by obtain ⟨cs, fr, hh⟩ := own_type h.own g e; exact (hS g s _ _ _ hh).2 rfl), h.new, h.len,
    fun i c x e1 e2 => ((h.tn i c x e1 e2).kept t (fun g _ s => hS g s)).more (fun g e => ⟨⟨e.1.1, Nat.lt_of_lt_of_le e.1.2 t.size⟩, e.2⟩)⟩
theorem PcL.still {lo : Nat} {w w' : World} {v : Value} {cs : List Cel} {l : List Nd} (h : PcL lo w v cs l) (t : Touch (fun _ => False) w w') : PcL lo w' v cs l := h.kept t (fun _ e => e.elim)
theorem PcL.lt {lo : Nat} {w : World} {v : Value} {cs : List Cel} {l : List Nd} (h : PcL lo w v cs l) {g : Nat} (e : v.ownBlock = some g) : g < w.heap.size := by
  obtain ⟨cs, fr, hh⟩ := own_type h.own g e
  exact lt_of_block hh
theorem PcL.push {lo : Nat} {w w4 : World} {v v' : Value} {cs : List Cel} {l : List Nd} {c : Cel} {x : Nd} {B : Nat → Prop} {o : Obj} (h : PcL lo w v cs l) (hx : TN w B c x) (hB : ∀ g, B g → (lo ≤ g ∧ g < w.heap.size) ∧ v.ownBlock ≠ some g) (hlo : lo ≤ w.heap.size)
    (hown : w4.ownsRow 0 28 9 v' (cs.length + 1) (cs.flatMap Cel.list ++ c.list)) (hg : (w.alloc o).grownBy w4 v.ownBlock) (hat : v'.ownBlock = v.ownBlock ∨ v'.ownBlock = some (w.heap.size + 1)) : PcL lo w4 v' (cs ++ [c]) (l ++ [x]) ∧ Touch (fun g => v.ownBlock = some g) w w4 := by
  have TG : Touch (fun k => v.ownBlock = some k) w w4 := Touch.grown ((Touch.refl _ w).alloc o) hg (fun k e _ => e)
  have hm : ∀ g, (lo ≤ g ∧ g < w.heap.size) ∧ v.ownBlock ≠ some g → (lo ≤ g ∧ g < w4.heap.size) ∧ v'.ownBlock ≠ some g := fun g e => ⟨⟨e.1.1, Nat.lt_of_lt_of_le e.1.2 TG.size⟩, fun e2 => by
    rcases hat with e3 | e3
    · exact e.2 (by rw [← e3]; exact e2)
    · rw [e3] at e2
      cases e2
      omega⟩
  refine ⟨⟨?_, fun g e => ?_, by rw [List.length_append, List.length_append, h.len]; rfl, fun i c' x' e1 e2 => ?_⟩, TG⟩
  · unfold CL
    rw [List.length_append, List.flatMap_append]
    simpa using hown
  · rcases hat with e2 | e2
    · exact h.new g (by rw [← e2]; exact e)
    · rw [e2] at e
      cases e
      omega
  · rcases Nat.lt_or_ge i cs.length with hi | hi
    · rw [List.getElem?_append_left hi] at e1
      rw [List.getElem?_append_left (by rw [← h.len]; exact hi)] at e2
      exact ((h.tn i c' x' e1 e2).kept TG (fun g e s => absurd s e.2)).more hm
    · rw [List.getElem?_append_right hi] at e1
      rw [List.getElem?_append_right (by rw [← h.len]; exact hi), ← h.len] at e2
      generalize i - cs.length = j at *
      match j with
      | 0 =>
        cases e1
        cases e2
        exact (hx.kept TG (fun g e s => absurd s (hB g e).2)).more (fun g e => hm g (hB g e))
      | j + 1 => cases e1
/-- Together they are one node. -/
theorem PcL.all {lo : Nat} {w : World} {v : Value} {cs : List Cel} {l : List Nd} (h : PcL lo w v cs l) (kind : Int) :
    Calls Tryz.prog 70 #[.int .i64 kind, v] w fun e w' => ∃ c, e = .returned (.agg c.arr) ∧ TN w' (fun g => lo ≤ g ∧ g < w'.heap.size) c (togeF kind l) ∧ Touch (fun _ => False) w w' :=
  (together_any kind v cs l (fun g => lo ≤ g ∧ g < w.heap.size) w h.own (fun g e => ⟨h.new g e, h.lt e⟩) h.len (fun i c x e1 e2 => (h.tn i c x e1 e2).more (fun _ e => e.1))).mono (fun _ _ ⟨c, h1, h2, h3⟩ => ⟨c, h1, h2.more (fun _ e => ⟨e.1, Nat.lt_of_lt_of_le e.2 h3.size⟩), h3⟩)
/-- What stands in brackets, if brackets may stand here. -/
def SubS (b : Nat) (X : Px) (op : Nat) : Option Sub → Prop
  | none => op = 32
  | some alt => op ≤ 31 ∧ Fwd X.R alt ∧ Grw X.R alt ∧ SubC b X (op + 1) alt
theorem SubS.fwd {b : Nat} {X : Px} {op : Nat} {sub : Option Sub} (h : SubS b X op sub) : ∀ f, sub = some f → Fwd X.R f := fun f e => by subst e; exact h.2.1
theorem SubS.grw {b : Nat} {X : Px} {op : Nat} {sub : Option Sub} (h : SubS b X op sub) : ∀ f, sub = some f → Grw X.R f := fun f e => by subst e; exact h.2.2.1
end Go.Proofs.YtdhhcefmmojcmaaGreatDoor

/- A parser of patterns: any atom; conditions: the contract of alternatives. -/
namespace Go.Proofs.YtdhhcefmmojcmaaGreatDoor
open Go.RowKit
open Go.Lib

theorem fls_c (b : Nat) (X : Px) (op : Nat) (hX : X.Good) : FlsC b X op := fun w k f vn ns h hk => flags_any b X k f vn ns op w h hX hk
theorem turn_cn {neg : Bool} {r : PR (List R2 × Nat)} {l : List R2} {k : Nat} (h : turnC neg r = .ok (l, k)) : cnR l = l := by
  match r, h with
  | .ok (m, k2), h =>
    cases h
    cases neg
    · exact cn_cn m
    · exact cn_not m
theorem class_cn {R : List Int} {tab : List (ByteArray × List R2)} {op k k1 : Nat} {l : List R2} (h : classF R tab op k = .ok (l, k1)) : cnR l = l := by
  unfold classF at h
  split at h
  · exact turn_cn h
  · exact turn_cn h
theorem atom_any (b : Nat) (X : Px) (k : Nat) (f : Fl) (vn : Value) (ns : List ByteArray) (op : Nat) (sub : Option Sub) (w : World) (h : PS w b X k f vn ns op) (hX : X.Good) (hk : k < X.R.length) (hN : ns.length ≤ k + 1) (hs : SubS b X op sub) :
    Calls Tryz.prog 95 #[.pointer (some ⟨b, 0, none⟩)] w fun e w' => OptP b X vn op (fun _ => False) w (atomF X.R tableN sub ⟨k, f, ns⟩) e w' := by
  have hx : lkR X.R k ≠ -1 := by
    rw [lk_at hk]
    have := (hX.nonneg _ (List.getElem_mem hk)).1
    omega
  have hk' : k ≤ X.R.length := by omega
  unfold atomF atomC
  simp only
  by_cases h40 : lkR X.R k = 40
  · rw [if_pos h40]
    refine atom_paren _ b X k f vn ns op w h hX hk' h40 (fun w' hp => ?_)
    match sub, hs with
    | none, hs =>
      obtain rfl : op = 32 := hs
      exact brack_nest b X k f vn ns 32 w' hp hX hk
    | some alt, hs =>
      obtain ⟨h1, h2, _, h3⟩ := hs
      exact brack_any b X k f vn ns op alt w' hp hX hk h1 hN h2 h3 (flagged_any b X op alt hX h1 h2 h3 (fls_c b X op hX))
  rw [if_neg h40]
  by_cases h91 : lkR X.R k = 91
  · rw [if_pos h91]
    have := atom_class b X k f vn ns op w h hX hk' h91
    cases hc : classF X.R tableN k (k + 1) with
    | error e => rw [hc] at this; exact this
    | ok p =>
      obtain ⟨l, k1⟩ := p
      rw [hc] at this
      have e : clsO f ns (.ok (l, k1)) = clsF ⟨k, f, ns⟩ (.ok (l, k1)) := by
        unfold clsO clsF
        simp only
        rw [class_cn hc]
      rw [← e]
      exact this
  rw [if_neg h91]
  by_cases h92 : lkR X.R k = 92
  · rw [if_pos h92]
    exact atom_stroke b X k f vn ns op w h hX hk' h92
  rw [if_neg h92]
  by_cases h46 : lkR X.R k = 46
  · rw [if_pos h46]
    exact atom_dot b X k f vn ns op w h hX hk' h46
  rw [if_neg h46]
  by_cases h94 : lkR X.R k = 94
  · rw [if_pos h94]
    exact atom_caret b X k f vn ns op w h hX hk' h94
  rw [if_neg h94]
  by_cases h36 : lkR X.R k = 36
  · rw [if_pos h36]
    exact atom_dollar b X k f vn ns op w h hX hk' h36
  rw [if_neg h36]
  exact atom_one b X k f vn ns op w h hX hk' _ rfl hx h40 h91 h92 h46 h94 h36
end Go.Proofs.YtdhhcefmmojcmaaGreatDoor
