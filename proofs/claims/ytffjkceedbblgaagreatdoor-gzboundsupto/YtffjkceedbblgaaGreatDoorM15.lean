/- Texts of this proof, one behind the other: what each says stands ahead of it. -/
import Derived.Test.YtffjkceedbblgaaGreatDoorM14
/- fixedTables of an unpacker: made when they are first asked for; no condition. -/
namespace Go.Proofs.YtffjkceedbblgaaGreatDoor
open Go.RowKit Go.Lib

theorem err_fixL : errOf Inf.fixL 288 = 0 := by decide +kernel
theorem err_fixD : errOf Inf.fixD 32 = 0 := by decide +kernel
theorem fixL_le (i : Nat) : Inf.fixL i ≤ 15 := by
  unfold Inf.fixL
  split
  · omega
  · split
    · omega
    · split
      · omega
      · split <;> omega
theorem fixD_le (i : Nat) : Inf.fixD i ≤ 15 := by unfold Inf.fixD; split <;> omega
theorem tbl_fixL : Inf.Tbl Inf.fixL 288 := ⟨fixL_le, err_fixL, by decide⟩
theorem tbl_fixD : Inf.Tbl Inf.fixD 32 := ⟨fixD_le, err_fixD, by decide⟩

/-- Nothing of the unpacker lies among the blocks from lo up to hi. -/
def Apart (ub r : Nat) (v : Value) (lo hi : Nat) : Prop := ∀ k, lo ≤ k → k < hi → k ≠ r ∧ k ≠ ub ∧ v.ownBlock ≠ some k

/-- The fixed tables, if they are made. -/
def FxOk (w : World) (ub r : Nat) (v : Value) (tl td : Option Addr) : Prop :=
  (tl = none ∧ td = none) ∨ ∃ bl bd lo hi, tl = some ⟨bl, 0, none⟩ ∧ td = some ⟨bd, 0, none⟩ ∧ TblIn w bl Inf.fixL 288 lo hi ∧ TblIn w bd Inf.fixD 32 lo hi ∧ hi ≤ w.heap.size ∧ Apart ub r v lo hi

theorem FxOk.done {w w' : World} {ub r : Nat} {v : Value} {tl td : Option Addr} {v' : Value} (h : FxOk w ub r v tl td) (tc : Touch (fun k => k = r ∨ k = ub ∨ v.ownBlock = some k) w w') (ho : v'.ownBlock = v.ownBlock ∨ ∃ g, v'.ownBlock = some g ∧ w.heap.size ≤ g) : FxOk w' ub r v' tl td := by
  rcases h with h | ⟨bl, bd, lo, hi, h1, h2, h3, h4, h5, h6⟩
  · exact .inl h
  · have hS : ∀ k, lo ≤ k → k < hi → ¬ (k = r ∨ k = ub ∨ v.ownBlock = some k) := by
      intro k a b e
      obtain ⟨g1, g2, g3⟩ := h6 k a b
      rcases e with e | e | e
      · exact g1 e
      · exact g2 e
      · exact g3 e
    refine .inr ⟨bl, bd, lo, hi, h1, h2, h3.kept tc hS, h4.kept tc hS, Nat.le_trans h5 tc.size, fun k a b => ?_⟩
    obtain ⟨g1, g2, g3⟩ := h6 k a b
    refine ⟨g1, g2, ?_⟩
    rcases ho with e | ⟨g, e, hg⟩
    · rw [e]; exact g3
    · rw [e]
      simp
      omega

theorem block_set {w : World} {b : Nat} {cs : Array Value} {t : TypeId} (h : w.heap[b]? = some (.cells cs t (0, 0))) (i : Nat) (x : Value) : (w.setCell ⟨b, i, none⟩ x).heap[b]? = some (.cells (cs.set! i x) t (0, 0)) := by
  have hlt := lt_of_block h
  have h' : w.heap[b] = .cells cs t (0, 0) := by simpa [Array.getElem?_eq_getElem hlt] using h
  show (w.heap.modify b _)[b]? = _
  rw [Array.getElem?_eq_getElem (by simpa using hlt), Array.getElem_modify_self, h']
  rfl

theorem up_set34 {w : World} {ub r : Nat} {v : Value} {out : List Nat} {most : Int} {tl td : Option Addr} (h : Up w ub r v out most tl td) (a b : Option Addr) : Up ((w.setCell ⟨ub, 3, none⟩ (.pointer a)).setCell ⟨ub, 4, none⟩ (.pointer b)) ub r v out most a b := by
  have hv : v.ownBlock ≠ some ub := by
    intro e
    rcases h.2.2 with ⟨rfl, _⟩ | ⟨g, cap, cur, rfl, _, hh, _⟩
    · simp [Value.ownBlock] at e
    · simp [Value.ownBlock] at e
      subst e
      rw [h.1] at hh
      simp at hh
  refine ⟨?_, ownsRow_setCell_other (ownsRow_setCell_other h.2 hv _) hv _⟩
  exact block_set (block_set h.1 3 (.pointer a)) 4 (.pointer b)

theorem Up.setOther {w : World} {ub r q : Nat} {v : Value} {out : List Nat} {most : Int} {tl td : Option Addr} (h : Up w ub r v out most tl td) (h1 : ub ≠ q) (h2 : v.ownBlock ≠ some q) (i : Nat) (x : Value) : Up (w.setCell ⟨q, i, none⟩ x) ub r v out most tl td :=
  ⟨(Below.heap_setCell _ _ _ _ h1).trans h.1, ownsRow_setCell_other h.2 h2 _⟩
theorem Rd.setOther {w : World} {r q : Nat} {s : ByteArray} {t : Nat} (h : Rd w r s t) (h1 : r ≠ q) (i : Nat) (x : Value) : Rd (w.setCell ⟨q, i, none⟩ x) r s t := by
  unfold Rd at h ⊢
  rw [Below.heap_setCell _ _ _ _ h1]
  exact h

/-- What fixedTables leaves. -/
def FtPost (ub r : Nat) (v : Value) (out : List Nat) (most : Int) (s : ByteArray) (t : Nat) (w : World) (e : Ending) (w' : World) : Prop :=
  ∃ bl bd lo hi, e = .returned (.agg #[.pointer (some ⟨bl, 0, none⟩), .pointer (some ⟨bd, 0, none⟩)]) ∧ Up w' ub r v out most (some ⟨bl, 0, none⟩) (some ⟨bd, 0, none⟩) ∧ Rd w' r s t ∧ TblIn w' bl Inf.fixL 288 lo hi ∧ TblIn w' bd Inf.fixD 32 lo hi ∧ hi ≤ w'.heap.size ∧ Apart ub r v lo hi ∧ Touch (fun k => k = ub) w w'

set_option maxRecDepth 100000 in
set_option maxHeartbeats 4000000 in
theorem fixedTables_any (ub r : Nat) (v : Value) (out : List Nat) (most : Int) (tl td : Option Addr) (s : ByteArray) (t : Nat) (w : World) (h : Up w ub r v out most tl td) (hr : Rd w r s t) (hf : FxOk w ub r v tl td) :
    Calls Tryz.prog 92 #[.pointer (some ⟨ub, 0, none⟩)] w (FtPost ub r v out most s t w) := by
  have hub := lt_of_block h.1
  have hrl := hr.lt
  obtain ⟨hn1, hn2, hn3⟩ := up_own h hr
  have hvl : ∀ k, v.ownBlock = some k → k < w.heap.size := fun k e => (h.2.lt k e).2
  have fb0 : (w.alloc (.cells #[.pointer none, .pointer none] 146)).heap[w.heap.size]? = some (.cells #[.pointer none, .pointer none] 146 (0, 0)) := by
    show (w.heap.push _)[_]? = _
    simp
  have T0 := hid ((Touch.refl (fun _ => False) w).alloc (.cells #[.pointer none, .pointer none] 146))
  have U0 := hid (h.alloc (.cells #[.pointer none, .pointer none] 146))
  have R0 := hid (hr.alloc (.cells #[.pointer none, .pointer none] 146))
  obtain ⟨q, hq⟩ : ∃ q, q = w.heap.size := ⟨_, rfl⟩
  have hwA : q < (w.alloc (.cells #[.pointer none, .pointer none] 146)).heap.size := by rw [hq]; simp
  rw [← hq] at fb0
  have HQ := hid hq
  have HF := hid hf
  clear hf
  rcases HF.out with ⟨rfl, rfl⟩ | ⟨bl, bd, lo, hi, rfl, rfl, tbl, tbd, hhi, hap⟩
  · go_enter Tryz.func92, Tryz.ntmps92
    have c3 := (up_cells h).2.2.2.1
    clear h hr
    go_wp2_with fail
    rw [← hq]
    clear hq
    generalize w.alloc (.cells #[.pointer none, .pointer none] 146) = wA at *
    refine (fixedL_any wA).mono ?_
    rintro e w1 ⟨a1, k1, rfl, i1, tc1⟩
    have I1 := hid i1
    have T1 := hid (T0.out.trans tc1 (fun _ _ e => e))
    have TA1 := hid tc1
    clear i1 tc1
    go_wp2_with fail
    refine (fixedD_any w1).mono ?_
    rintro e w2 ⟨g2, rfl, i2, tc2⟩
    have I2 := hid i2
    have I12 := hid (I1.out.beside tc2 (fun _ _ _ _ e => e))
    have TA2 := hid (TA1.out.trans tc2 (fun _ _ e => e))
    clear i2 tc2 I1 TA1 T1
    go_wp2_with fail
    refine (tablesOf_any a1 (some ⟨g2, 0, none⟩) 288 32 k1 32 Inf.fixL Inf.fixD w2 (by decide) (by decide) fixL_le fixD_le I12.out I2.out).mono ?_
    rintro e w3 ⟨tc3, hres⟩
    rcases hres with ⟨_, _, bl, bd, rfl, tbl, tbd⟩ | ⟨h1, _⟩ | ⟨_, h1, _⟩
    · have TA3 := hid (TA2.out.trans tc3 (fun _ _ e => e))
      have hsz2 := tc3.size
      have TL := hid tbl
      have TD := hid tbd
      have hszA := TA2.out.size
      have U3 := hid (show Up w3 ub r v out most none none from by
        refine ⟨(TA3.out.block ub (lt_of_block U0.out.1) id).trans U0.out.1, U0.out.2.1, ?_⟩
        rcases U0.out.2.2 with h0 | ⟨g, cap, cur, hv, hg, hh, rest⟩
        · exact .inl h0
        · exact .inr ⟨g, cap, cur, hv, hg, (TA3.out.block g (lt_of_block hh) id).trans hh, rest⟩)
      have R3 := hid (show Rd w3 r s t from by
        have := R0.out
        unfold Rd at this ⊢
        rw [TA3.out.block r (lt_of_block this) id]
        exact this)
      have fb3 : w3.heap[q]? = some (.cells #[.pointer none, .pointer none] 146 (0, 0)) := by rw [TA3.out.block q hwA id]; exact fb0
      have d3 := (up_cells U3.out).2.2.2.1
      have d4 := (up_cells U3.out).2.2.2.2
      have f3 : w3.frozen? ⟨ub, 3, none⟩ = false := by simp [World.frozen?, U3.out.1]
      have f4 : w3.frozen? ⟨ub, 4, none⟩ = false := by simp [World.frozen?, U3.out.1]
      have hqub : ub ≠ q := by have := HQ.out; omega
      have hqr : r ≠ q := by have := HQ.out; omega
      have k0 := cell_two0 fb3
      have k1' := cell_two1 fb3
      have kf0 := free_two (i := 0) fb3
      have kf1 := free_two (i := 1) fb3
      have FB3 := hid fb3
      have T3 := hid (T0.out.trans TA3.out (fun _ _ e => e))
      clear tc3 tbl tbd I2 I12 TA2 fb3 fb0
      go_wp2
      have hu := up_set34 U3.out (some ⟨bl, 0, none⟩) (some ⟨bd, 0, none⟩)
      have hqw := HQ.out
      have hvq : v.ownBlock ≠ some q := fun e => by have := hvl q e; omega
      have hfb := two_set1 (x := .pointer (some ⟨bd, 0, none⟩)) (two_set0 (x := .pointer (some ⟨bl, 0, none⟩)) (w := (w3.setCell ⟨ub, 3, none⟩ (.pointer (some ⟨bl, 0, none⟩))).setCell ⟨ub, 4, none⟩ (.pointer (some ⟨bd, 0, none⟩))) (by
        rw [Below.heap_setCell _ _ _ _ (fun e => hqub e.symm), Below.heap_setCell _ _ _ _ (fun e => hqub e.symm)]
        exact FB3.out))
      refine bodyPost_ret (results_c rfl _ _ q 146 _ (0, 0) _ rfl hfb Tryz.underlying146 rfl (by kernel_rfl)) rfl ?_
      have tks := ((((Touch.refl (fun k => k = ub ∨ k = q) w3).setCell (p := ⟨ub, 3, none⟩) (fun _ => .inl rfl) (.pointer (some ⟨bl, 0, none⟩))).setCell (p := ⟨ub, 4, none⟩) (fun _ => .inl rfl) (.pointer (some ⟨bd, 0, none⟩))).setCell (p := ⟨q, 0, none⟩) (fun _ => .inr rfl) (.pointer (some ⟨bl, 0, none⟩))).setCell (p := ⟨q, 1, none⟩) (fun _ => .inr rfl) (.pointer (some ⟨bd, 0, none⟩))
      have hS : ∀ k, w2.heap.size ≤ k → k < w3.heap.size → ¬ (k = ub ∨ k = q) := by
        intro k a b e
        omega
      refine ⟨bl, bd, w2.heap.size, w3.heap.size, rfl, (hu.setOther hqub hvq 0 _).setOther hqub hvq 1 _, (((R3.out.setOther (fun e => hn1 e.symm) 3 _).setOther (fun e => hn1 e.symm) 4 _).setOther hqr 0 _).setOther hqr 1 _, TL.out.kept tks hS, TD.out.kept tks hS, tks.size, ?_, ?_⟩
      · intro k a b
        refine ⟨by omega, by omega, fun e => ?_⟩
        have := hvl k e
        omega
      · exact ((((T3.out.mono (S' := fun k => k = ub) (fun _ _ e => e.elim)).setCell (p := ⟨ub, 3, none⟩) (fun _ => rfl) _).setCell (p := ⟨ub, 4, none⟩) (fun _ => rfl) _).setCell (p := ⟨q, 0, none⟩) (fun h => absurd h (by simp; omega)) _).setCell (p := ⟨q, 1, none⟩) (fun h => absurd h (by simp; omega)) _
    · exact absurd err_fixL h1
    · exact absurd err_fixD h1
  · obtain ⟨o, ho⟩ : ∃ o, o = Obj.cells #[.pointer (some ⟨bl, 0, none⟩), .pointer (some ⟨bd, 0, none⟩)] 146 := ⟨_, rfl⟩
    have T1 := hid ((Touch.refl (fun _ => False) w).alloc o)
    have U1 := hid (h.alloc o)
    have R1 := hid (hr.alloc o)
    have TL := hid (tbl.kept T1.out (fun _ _ _ e => e))
    have TD := hid (tbd.kept T1.out (fun _ _ _ e => e))
    have FB := hid (show (w.alloc o).heap[q]? = some (.cells #[.pointer (some ⟨bl, 0, none⟩), .pointer (some ⟨bd, 0, none⟩)] 146 (0, 0)) by
      rw [ho, hq]
      show (w.heap.push _)[_]? = _
      simp)
    have HAP := hid hap
    have c3 := (up_cells h).2.2.2.1
    have c4 := (up_cells h).2.2.2.2
    have HO := hid ho
    clear h hr tbl tbd hap ho fb0
    go_enter Tryz.func92, Tryz.ntmps92
    go_wp2_with fail
    rw [← HO.out, ← hq]
    refine bodyPost_ret (results_c rfl _ _ q 146 _ (0, 0) _ rfl FB.out Tryz.underlying146 rfl (by kernel_rfl)) rfl ?_
    exact ⟨bl, bd, lo, hi, rfl, U1.out, R1.out, TL.out, TD.out, Nat.le_trans hhi T1.out.size, HAP.out, T1.out.mono (fun _ _ e => e.elim)⟩
end Go.Proofs.YtffjkceedbblgaaGreatDoor
