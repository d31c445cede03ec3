/- Texts of this proof, one behind the other: what each says stands ahead of it. -/
import Derived.Test.YthengfclijclmaaM16
import Derived.Test.YthengfclijclmaaM0
/- fixedTables of an unpacker: made when they are first asked for; no condition. -/
namespace Go.Proofs.Ythengfclijclmaa
open Go.RowKit Go.Lib

theorem err_fixL : errOf Inf.fixL 288 = 0 := by decide +kernel
theorem err_fixD : errOf Inf.fixD 32 = 0 := by decide +kernel
theorem fixL_le (i : Nat) : Inf.fixL i ≤ 15 := by
  unfold Inf.fixL
  split
  · omega
  · split
    · omega
    · split
      · omega
      · split <;> omega
theorem fixD_le (i : Nat) : Inf.fixD i ≤ 15 := by unfold Inf.fixD; split <;> omega
theorem tbl_fixL : Inf.Tbl Inf.fixL 288 := ⟨fixL_le, err_fixL, by decide⟩
theorem tbl_fixD : Inf.Tbl Inf.fixD 32 := ⟨fixD_le, err_fixD, by decide⟩

/-- Nothing of the unpacker lies among the blocks from lo up to hi. -/
def Apart (ub r : Nat) (v : Value) (lo hi : Nat) : Prop := ∀ k, lo ≤ k → k < hi → k ≠ r ∧ k ≠ ub ∧ v.ownBlock ≠ some k

/-- The fixed tables, if they are made. -/
def FxOk (w : World) (ub r : Nat) (v : Value) (tl td : Option Addr) : Prop :=
  (tl = none ∧ td = none) ∨ ∃ bl bd lo hi, tl = some ⟨bl, 0, none⟩ ∧ td = some ⟨bd, 0, none⟩ ∧ TblIn w bl Inf.fixL 288 lo hi ∧ TblIn w bd Inf.fixD 32 lo hi ∧ hi ≤ w.heap.size ∧ Apart ub r v lo hi

theorem FxOk.done {w w' : World} {ub r : Nat} {v : Value} {tl td : Option Addr} {v' : Value} (h : FxOk w ub r v tl td) (tc : Touch (fun k => k = r ∨ k = ub ∨ v.ownBlock = some k) w w') (ho : v'.ownBlock = v.ownBlock ∨ ∃ g, v'.ownBlock = some g ∧ w.heap.size ≤ g) : FxOk w' ub r v' tl td := by
  rcases h with h | ⟨bl, bd, lo, hi, h1, h2, h3, h4, h5, h6⟩
  · exact .inl h
  · have hS : ∀ k, lo ≤ k → k < hi → ¬ (k = r ∨ k = ub ∨ v.ownBlock = some k) := by
      intro k a b e
      obtain ⟨g1, g2, g3⟩ := h6 k a b
      rcases e with e | e | e
      · exact g1 e
      · exact g2 e
      · exact g3 e
    refine .inr ⟨bl, bd, lo, hi, h1, h2, h3.kept tc hS, h4.kept tc hS, Nat.le_trans h5 tc.size, fun k a b => ?_⟩
    obtain ⟨g1, g2, g3⟩ := h6 k a b
    refine ⟨g1, g2, ?_⟩
    rcases ho with e | ⟨g, e, hg⟩
    · rw [e]; exact g3
    · rw [e]
      simp
      omega

theorem block_set {w : World} {b : Nat} {cs : Array Value} {t : TypeId} (h : w.heap[b]? = some (.cells cs t (0, 0))) (i : Nat) (x : Value) : (w.setCell ⟨b, i, none⟩ x).heap[b]? = some (.cells (cs.set! i x) t (0, 0)) := by
  have hlt := lt_of_block h
  have h' : w.heap[b] = .cells cs t (0, 0) := by simpa [Array.getElem?_eq_getElem hlt] using h
  show (w.heap.modify b _)[b]? = _
  rw [Array.getElem?_eq_getElem (by simpa using hlt), Array.getElem_modify_self, h']
  rfl

theorem up_set34 {w : World} {ub r : Nat} {v : Value} {out : List Nat} {most : Int} {tl td : Option Addr} (h : Up w ub r v out most tl td) (a b : Option Addr) : Up ((w.setCell ⟨ub, 3, none⟩ (.pointer a)).setCell ⟨ub, 4, none⟩ (.pointer b)) ub r v out most a b := by
  have hv : v.ownBlock ≠ some ub := by
    intro e
    rcases h.2.2 with ⟨rfl, _⟩ | ⟨g, cap, cur, rfl, _, hh, _⟩
    · simp [Value.ownBlock] at e
    · simp [Value.ownBlock] at e
      subst e
      rw [h.1] at hh
      simp at hh
  refine ⟨?_, ownsRow_setCell_other (ownsRow_setCell_other h.2 hv _) hv _⟩
  exact block_set (block_set h.1 3 (.pointer a)) 4 (.pointer b)

theorem Up.setOther {w : World} {ub r q : Nat} {v : Value} {out : List Nat} {most : Int} {tl td : Option Addr} (h : Up w ub r v out most tl td) (h1 : ub ≠ q) (h2 : v.ownBlock ≠ some q) (i : Nat) (x : Value) : Up (w.setCell ⟨q, i, none⟩ x) ub r v out most tl td :=
  ⟨(Below.heap_setCell _ _ _ _ h1).trans h.1, ownsRow_setCell_other h.2 h2 _⟩
theorem Rd.setOther {w : World} {r q : Nat} {s : ByteArray} {t : Nat} (h : Rd w r s t) (h1 : r ≠ q) (i : Nat) (x : Value) : Rd (w.setCell ⟨q, i, none⟩ x) r s t := by
  unfold Rd at h ⊢
  rw [Below.heap_setCell _ _ _ _ h1]
  exact h

/-- What fixedTables leaves. -/
def FtPost (ub r : Nat) (v : Value) (out : List Nat) (most : Int) (s : ByteArray) (t : Nat) (w : World) (e : Ending) (w' : World) : Prop :=
  ∃ bl bd lo hi, e = .returned (.agg #[.pointer (some ⟨bl, 0, none⟩), .pointer (some ⟨bd, 0, none⟩)]) ∧ Up w' ub r v out most (some ⟨bl, 0, none⟩) (some ⟨bd, 0, none⟩) ∧ Rd w' r s t ∧ TblIn w' bl Inf.fixL 288 lo hi ∧ TblIn w' bd Inf.fixD 32 lo hi ∧ hi ≤ w'.heap.size ∧ Apart ub r v lo hi ∧ Touch (fun k => k = ub) w w'

set_option maxRecDepth 100000 in
set_option maxHeartbeats 4000000 in
theorem fixedTables_any (ub r : Nat) (v : Value) (out : List Nat) (most : Int) (tl td : Option Addr) (s : ByteArray) (t : Nat) (w : World) (h : Up w ub r v out most tl td) (hr : Rd w r s t) (hf : FxOk w ub r v tl td) :
    Calls Try.prog 68 #[.pointer (some ⟨ub, 0, none⟩)] w (FtPost ub r v out most s t w) := by
  have hub := lt_of_block h.1
  have hrl := hr.lt
  obtain ⟨hn1, hn2, hn3⟩ := up_own h hr
  have hvl : ∀ k, v.ownBlock = some k → k < w.heap.size := fun k e => (h.2.lt k e).2
  have fb0 : (w.alloc (.cells #[.pointer none, .pointer none] 91)).heap[w.heap.size]? = some (.cells #[.pointer none, .pointer none] 91 (0, 0)) := by
    show (w.heap.push _)[_]? = _
    simp
  have T0 := hid ((Touch.refl (fun _ => False) w).alloc (.cells #[.pointer none, .pointer none] 91))
  have U0 := hid (h.alloc (.cells #[.pointer none, .pointer none] 91))
  have R0 := hid (hr.alloc (.cells #[.pointer none, .pointer none] 91))
  obtain ⟨q, hq⟩ : ∃ q, q = w.heap.size := ⟨_, rfl⟩
  have hwA : q < (w.alloc (.cells #[.pointer none, .pointer none] 91)).heap.size := by rw [hq]; simp
  rw [← hq] at fb0
  have HQ := hid hq
  have HF := hid hf
  clear hf
  rcases HF.out with ⟨rfl, rfl⟩ | ⟨bl, bd, lo, hi, rfl, rfl, tbl, tbd, hhi, hap⟩
  · go_enter Try.func68, Try.ntmps68
    have c3 := (up_cells h).2.2.2.1
    clear h hr
    go_wp2_with fail
    rw [← hq]
    clear hq
    generalize w.alloc (.cells #[.pointer none, .pointer none] 91) = wA at *
    refine (fixedL_any wA).mono ?_
    rintro e w1 ⟨a1, k1, rfl, i1, tc1⟩
    have I1 := hid i1
    have T1 := hid (T0.out.trans tc1 (fun _ _ e => e))
    have TA1 := hid tc1
    clear i1 tc1
    go_wp2_with fail
    refine (fixedD_any w1).mono ?_
    rintro e w2 ⟨g2, rfl, i2, tc2⟩
    have I2 := hid i2
    have I12 := hid (I1.out.beside tc2 (fun _ _ _ _ e => e))
    have TA2 := hid (TA1.out.trans tc2 (fun _ _ e => e))
    clear i2 tc2 I1 TA1 T1
    go_wp2_with fail
    refine (tablesOf_any a1 (some ⟨g2, 0, none⟩) 288 32 k1 32 Inf.fixL Inf.fixD w2 (by decide) (by decide) fixL_le fixD_le I12.out I2.out).mono ?_
    rintro e w3 ⟨tc3, hres⟩
    rcases hres with ⟨_, _, bl, bd, rfl, tbl, tbd⟩ | ⟨h1, _⟩ | ⟨_, h1, _⟩
    · have TA3 := hid (TA2.out.trans tc3 (fun _ _ e => e))
      have hsz2 := tc3.size
      have TL := hid tbl
      have TD := hid tbd
      have hszA := TA2.out.size
      have U3 := hid (show Up w3 ub r v out most none none from by
        refine ⟨(TA3.out.block ub (lt_of_block U0.out.1) id).trans U0.out.1, U0.out.2.1, ?_⟩
        rcases U0.out.2.2 with h0 | ⟨g, cap, cur, hv, hg, hh, rest⟩
        · exact .inl h0
        · exact .inr ⟨g, cap, cur, hv, hg, (TA3.out.block g (lt_of_block hh) id).trans hh, rest⟩)
      have R3 := hid (show Rd w3 r s t from by
        have := R0.out
        unfold Rd at this ⊢
        rw [TA3.out.block r (lt_of_block this) id]
        exact this)
      have fb3 : w3.heap[q]? = some (.cells #[.pointer none, .pointer none] 91 (0, 0)) := by rw [TA3.out.block q hwA id]; exact fb0
      have d3 := (up_cells U3.out).2.2.2.1
      have d4 := (up_cells U3.out).2.2.2.2
      have f3 : w3.frozen? ⟨ub, 3, none⟩ = false := by simp [World.frozen?, U3.out.1]
      have f4 : w3.frozen? ⟨ub, 4, none⟩ = false := by simp [World.frozen?, U3.out.1]
      have hqub : ub ≠ q := by have := HQ.out; omega
      have hqr : r ≠ q := by have := HQ.out; omega
      have k0 := cell_two0 fb3
      have k1' := cell_two1 fb3
      have kf0 := free_two (i := 0) fb3
      have kf1 := free_two (i := 1) fb3
      have FB3 := hid fb3
      have T3 := hid (T0.out.trans TA3.out (fun _ _ e => e))
      clear tc3 tbl tbd I2 I12 TA2 fb3 fb0
      go_wp2
      have hu := up_set34 U3.out (some ⟨bl, 0, none⟩) (some ⟨bd, 0, none⟩)
      have hqw := HQ.out
      have hvq : v.ownBlock ≠ some q := fun e => by have := hvl q e; omega
      have hfb := two_set1 (x := .pointer (some ⟨bd, 0, none⟩)) (two_set0 (x := .pointer (some ⟨bl, 0, none⟩)) (w := (w3.setCell ⟨ub, 3, none⟩ (.pointer (some ⟨bl, 0, none⟩))).setCell ⟨ub, 4, none⟩ (.pointer (some ⟨bd, 0, none⟩))) (by
        rw [Below.heap_setCell _ _ _ _ (fun e => hqub e.symm), Below.heap_setCell _ _ _ _ (fun e => hqub e.symm)]
        exact FB3.out))
      refine bodyPost_ret (results_c rfl _ _ q 91 _ (0, 0) _ rfl hfb Try.underlying91 rfl (by kernel_rfl)) rfl ?_
      have tks := ((((Touch.refl (fun k => k = ub ∨ k = q) w3).setCell (p := ⟨ub, 3, none⟩) (fun _ => .inl rfl) (.pointer (some ⟨bl, 0, none⟩))).setCell (p := ⟨ub, 4, none⟩) (fun _ => .inl rfl) (.pointer (some ⟨bd, 0, none⟩))).setCell (p := ⟨q, 0, none⟩) (fun _ => .inr rfl) (.pointer (some ⟨bl, 0, none⟩))).setCell (p := ⟨q, 1, none⟩) (fun _ => .inr rfl) (.pointer (some ⟨bd, 0, none⟩))
      have hS : ∀ k, w2.heap.size ≤ k → k < w3.heap.size → ¬ (k = ub ∨ k = q) := by
        intro k a b e
        omega
      refine ⟨bl, bd, w2.heap.size, w3.heap.size, rfl, (hu.setOther hqub hvq 0 _).setOther hqub hvq 1 _, (((R3.out.setOther (fun e => hn1 e.symm) 3 _).setOther (fun e => hn1 e.symm) 4 _).setOther hqr 0 _).setOther hqr 1 _, TL.out.kept tks hS, TD.out.kept tks hS, tks.size, ?_, ?_⟩
      · intro k a b
        refine ⟨by omega, by omega, fun e => ?_⟩
        have := hvl k e
        omega
      · exact ((((T3.out.mono (S' := fun k => k = ub) (fun _ _ e => e.elim)).setCell (p := ⟨ub, 3, none⟩) (fun _ => rfl) _).setCell (p := ⟨ub, 4, none⟩) (fun _ => rfl) _).setCell (p := ⟨q, 0, none⟩) (fun h => absurd h (by simp; omega)) _).setCell (p := ⟨q, 1, none⟩) (fun h => absurd h (by simp; omega)) _
    · exact absurd err_fixL h1
    · exact absurd err_fixD h1
  · obtain ⟨o, ho⟩ : ∃ o, o = Obj.cells #[.pointer (some ⟨bl, 0, none⟩), .pointer (some ⟨bd, 0, none⟩)] 91 := ⟨_, rfl⟩
    have T1 := hid ((Touch.refl (fun _ => False) w).alloc o)
    have U1 := hid (h.alloc o)
    have R1 := hid (hr.alloc o)
    have TL := hid (tbl.kept T1.out (fun _ _ _ e => e))
    have TD := hid (tbd.kept T1.out (fun _ _ _ e => e))
    have FB := hid (show (w.alloc o).heap[q]? = some (.cells #[.pointer (some ⟨bl, 0, none⟩), .pointer (some ⟨bd, 0, none⟩)] 91 (0, 0)) by
      rw [ho, hq]
      show (w.heap.push _)[_]? = _
      simp)
    have HAP := hid hap
    have c3 := (up_cells h).2.2.2.1
    have c4 := (up_cells h).2.2.2.2
    have HO := hid ho
    clear h hr tbl tbd hap ho fb0
    go_enter Try.func68, Try.ntmps68
    go_wp2_with fail
    rw [← HO.out, ← hq]
    refine bodyPost_ret (results_c rfl _ _ q 91 _ (0, 0) _ rfl FB.out Try.underlying91 rfl (by kernel_rfl)) rfl ?_
    exact ⟨bl, bd, lo, hi, rfl, U1.out, R1.out, TL.out, TD.out, Nat.le_trans hhi T1.out.size, HAP.out, T1.out.mono (fun _ _ e => e.elim)⟩
end Go.Proofs.Ythengfclijclmaa

/- The writer, as the first part of something greater; no condition. -/
namespace Go.Proofs.Ythengfclijclmaa.G
open Go.RowKit

theorem cell_two0 {rs : List Value} {w : World} {b : Nat} {v u : Value} {t : TypeId} (h : w.heap[b]? = some (.cells ⟨v :: u :: rs⟩ t (0, 0))) : w.cell? ⟨b, 0, none⟩ = some v := by simp [World.cell?, h]
theorem cell_two1 {rs : List Value} {w : World} {b : Nat} {v u : Value} {t : TypeId} (h : w.heap[b]? = some (.cells ⟨v :: u :: rs⟩ t (0, 0))) : w.cell? ⟨b, 1, none⟩ = some u := by simp [World.cell?, h]
theorem free_two {rs : List Value} {w : World} {b i : Nat} {v u : Value} {t : TypeId} (h : w.heap[b]? = some (.cells ⟨v :: u :: rs⟩ t (0, 0))) : w.frozen? ⟨b, i, none⟩ = false := by simp [World.frozen?, h]
theorem two_set0 {rs : List Value} {w : World} {b : Nat} {v u x : Value} {t : TypeId} (h : w.heap[b]? = some (.cells ⟨v :: u :: rs⟩ t (0, 0))) : (w.setCell ⟨b, 0, none⟩ x).heap[b]? = some (.cells ⟨x :: u :: rs⟩ t (0, 0)) := by
  have hlt := lt_of_block h
  have h' : w.heap[b] = .cells ⟨v :: u :: rs⟩ t (0, 0) := by simpa [Array.getElem?_eq_getElem hlt] using h
  show (w.heap.modify b _)[b]? = _
  rw [Array.getElem?_eq_getElem (by simpa using hlt), Array.getElem_modify_self, h']
  rfl
theorem two_set1 {rs : List Value} {w : World} {b : Nat} {v u x : Value} {t : TypeId} (h : w.heap[b]? = some (.cells ⟨v :: u :: rs⟩ t (0, 0))) : (w.setCell ⟨b, 1, none⟩ x).heap[b]? = some (.cells ⟨v :: x :: rs⟩ t (0, 0)) := by
  have hlt := lt_of_block h
  have h' : w.heap[b] = .cells ⟨v :: u :: rs⟩ t (0, 0) := by simpa [Array.getElem?_eq_getElem hlt] using h
  show (w.heap.modify b _)[b]? = _
  rw [Array.getElem?_eq_getElem (by simpa using hlt), Array.getElem_modify_self, h']
  rfl


def Wr (rs : List Value) (ty : TypeId) (w : World) (b : Nat) (bs : List Bool) : Prop :=
  ty ≠ 5 ∧ ∃ v, w.heap[b]? = some (.cells ⟨v :: .int .i64 bs.length :: rs⟩ ty (0, 0)) ∧ w.ownsRow 0 5 1 v ((bs.length + 7) / 8) (bytesV (Bt.pack bs))

/-- The blocks that the writer at b uses. -/
def Fp (rs : List Value) (ty : TypeId) (w : World) (b k : Nat) : Prop := k = b ∨ ∃ v c, w.heap[b]? = some (.cells ⟨v :: c :: rs⟩ ty (0, 0)) ∧ v.ownBlock = some k

structure WStep (rs : List Value) (ty : TypeId) (w w' : World) (b : Nat) (bs : List Bool) : Prop where
  wr : Wr rs ty w' b bs
  touch : Touch (Fp rs ty w b) w w'
  fp : ∀ k, Fp rs ty w' b k → Fp rs ty w b k ∨ w.heap.size ≤ k

theorem WStep.refl {rs : List Value} {ty : TypeId} {w : World} {b : Nat} {bs : List Bool} (h : Wr rs ty w b bs) : WStep rs ty w w b bs := ⟨h, Touch.refl _ _, fun _ h => .inl h⟩

theorem WStep.trans {rs : List Value} {ty : TypeId} {a w c : World} {b : Nat} {bs bs' : List Bool} (h : WStep rs ty a w b bs) (k : WStep rs ty w c b bs') : WStep rs ty a c b bs' :=
  ⟨k.wr, h.touch.trans k.touch (fun i hi e => (h.fp i e).elim id (fun g => by omega)),
    fun i e => (k.fp i e).elim (fun e => h.fp i e) (fun e => .inr (Nat.le_trans h.touch.size e))⟩

theorem WStep.drew {rs : List Value} {ty : TypeId} {w w' : World} {b : Nat} {bs : List Bool} (h : WStep rs ty w w' b bs) : WStep rs ty w w'.drew b bs := ⟨h.wr, h.touch.drew, h.fp⟩

theorem Fp.self (rs : List Value) (ty : TypeId) (w : World) (b : Nat) : Fp rs ty w b b := .inl rfl

theorem Wr.lt {rs : List Value} {ty : TypeId} {w : World} {b : Nat} {bs : List Bool} (h : Wr rs ty w b bs) : b < w.heap.size := by
  obtain ⟨_, v, h, _⟩ := h
  exact lt_of_block h

theorem Wr.fp_lt {rs : List Value} {ty : TypeId} {w : World} {b : Nat} {bs : List Bool} (h : Wr rs ty w b bs) {k : Nat} (hk : Fp rs ty w b k) : k < w.heap.size := by
  rcases hk with rfl | ⟨v, c, hb, ho⟩
  · exact h.lt
  · obtain ⟨_, v', hb', hown⟩ := h
    rw [hb] at hb'
    simp at hb'
    obtain ⟨rfl, rfl⟩ := hb'
    exact (hown.lt k ho).2

/-- What the writer uses is as it was: it is the writer that it was. -/
theorem Wr.kept {rs : List Value} {ty : TypeId} {w w' : World} {b : Nat} {bs : List Bool} (h : Wr rs ty w b bs) (hk : ∀ k, Fp rs ty w b k → w'.heap[k]? = w.heap[k]?) : Wr rs ty w' b bs := by
  obtain ⟨hty, v, hb, hown⟩ := h
  refine ⟨hty, v, (hk b (.inl rfl)).trans hb, hown.1, ?_⟩
  rcases hown.2 with h2 | ⟨g, cap, cur, hv, hg, hh, r⟩
  · exact .inl h2
  · exact .inr ⟨g, cap, cur, hv, hg, (hk g (.inr ⟨v, _, hb, by rw [hv]; rfl⟩)).trans hh, r⟩

theorem Fp.of_same {rs : List Value} {ty : TypeId} {w w' : World} {b k : Nat} (hb : w'.heap[b]? = w.heap[b]?) (h : Fp rs ty w' b k) : Fp rs ty w b k := by
  rcases h with h | ⟨v, c, h, ho⟩
  · exact .inl h
  · exact .inr ⟨v, c, by rw [← hb]; exact h, ho⟩

end Go.Proofs.Ythengfclijclmaa.G

/- One bit more into a writer that is part of something greater; condition: fewer than two to the fiftieth bits were put. -/
namespace Go.Proofs.Ythengfclijclmaa.G
open Go.RowKit

set_option maxHeartbeats 400000 in
theorem bit_mid (b g n len cap : Nat) (x : Nat) (c : Int) (w : World)
    (h0 : w.cell? ⟨b, 0, none⟩ = some (.slice (some ⟨g, 0, none⟩) len cap))
    (h1 : w.cell? ⟨b, 1, none⟩ = some (.int .i64 n)) (hf1 : w.frozen? ⟨b, 1, none⟩ = false)
    (hx : w.cell? ⟨g, n / 8, none⟩ = some (.int .u8 x)) (hfx : w.frozen? ⟨g, n / 8, none⟩ = false)
    (hbg : b ≠ g) (hn : n / 8 < len) (hlen : n < 1125899906842624) (hmod : ((n : Int) % 8 == 0) = false) :
    Calls Try.prog 36 #[.pointer (some ⟨b, 0, none⟩), .int .i64 c] w fun e w' => e = .returned (.tuple #[]) ∧
      w' = ((w.setCell ⟨g, n / 8, none⟩ (.int .u8 (bits .or .u8 (x : Int) (wrap64 (c * 2 ^ (n % 8)) % 256)))).setCell ⟨b, 1, none⟩ (.int .i64 (n + 1))).drew := by
  go_enter Try.func36, Try.ntmps36
  go_wp2
  go_region
  all_goals go_wp2
  all_goals go_end0
  all_goals exact ⟨rfl, rfl⟩

set_option maxHeartbeats 400000 in
theorem bit_new (rs : List Value) (ty : TypeId) (hty : ty ≠ 5) (b n : Nat) (v : Value) (xs : List Value) (c : Int) (w : World) (hv : (∃ g cap, v = .slice (some ⟨g, 0, none⟩) (n / 8) cap) ∨ v = .slice none 0 0)
    (hown : w.ownsRow 0 5 1 v (n / 8) xs)
    (hb : w.heap[b]? = some (.cells ⟨v :: .int .i64 n :: rs⟩ ty (0, 0)))
    (hlen : n < 1125899906842624) (hmod : ((n : Int) % 8 == 0) = true) :
    Calls Try.prog 36 #[.pointer (some ⟨b, 0, none⟩), .int .i64 c] w fun e w' => e = .returned (.tuple #[]) ∧
      ∃ w1 g cap, w1.ownsRow 0 5 1 (.slice (some ⟨g, 0, none⟩) (n / 8 + 1) cap) (n / 8 + 1) (xs ++ [.int .u8 0]) ∧ (w.alloc (.cells #[.int .u8 0] 5)).grownBy w1 v.ownBlock ∧ (v.ownBlock = some g ∨ g = w.heap.size + 1) ∧
      w' = (((w1.setCell ⟨b, 0, none⟩ (.slice (some ⟨g, 0, none⟩) (n / 8 + 1) cap)).setCell ⟨g, n / 8, none⟩ (.int .u8 (bits .or .u8 0 (wrap64 (c * 2 ^ (n % 8)) % 256)))).setCell ⟨b, 1, none⟩ (.int .i64 (n + 1))).drew := by
  obtain ⟨i0, hi, hz0, hz1, hz2⟩ := info_parts Try.info5
  have hblt : b < w.heap.size := lt_of_block hb
  have hbv : v.ownBlock ≠ some b := by
    intro e
    rcases hown.2 with ⟨rfl, _⟩ | ⟨g, cap, cur, rfl, _, hh, _⟩
    · simp [Value.ownBlock] at e
    · simp [Value.ownBlock] at e
      subst e
      rw [hb] at hh
      simp at hh
      exact hty hh.2
  have h0 := cell_two0 hb
  have h1 := cell_two1 hb
  have key : ∀ (v' : Value) (w1 : World), w1.ownsRow 0 5 1 v' (n / 8 + 1) (xs ++ [.int .u8 0]) → (w.alloc (.cells #[.int .u8 0] 5)).grownBy w1 v.ownBlock →
      ∃ g cap, v' = .slice (some ⟨g, 0, none⟩) (n / 8 + 1) cap ∧ g ≠ b ∧ w1.heap[b]? = some (.cells ⟨v :: .int .i64 n :: rs⟩ ty (0, 0)) ∧ w1.cell? ⟨g, n / 8, none⟩ = some (.int .u8 0) ∧ w1.frozen? ⟨g, n / 8, none⟩ = false := by
    intro v' w1 hown' hgrow
    have hb1 : w1.heap[b]? = some (.cells ⟨v :: .int .i64 n :: rs⟩ ty (0, 0)) := by
      rw [hgrow.block b (by simp; omega) (fun e => hbv e.symm), Below.heap_alloc _ _ _ hblt]; exact hb
    have hxl : xs.length = n / 8 := by have := hown.1; omega
    rcases hown'.2 with ⟨_, h⟩ | ⟨g, cap, cur, rfl, _, hh, hle, _, hcs, htk⟩
    · omega
    · refine ⟨g, cap, rfl, ?_, hb1, ?_, by simp [World.frozen?, hh]⟩
      · rintro rfl
        rw [hb1] at hh
        simp at hh
        exact hty hh.2
      · have := hown'.cells (g := g) rfl (n / 8) (.int .u8 0) (by rw [List.getElem?_append_right (by omega)]; simp [hxl])
        rwa [add_zero] at this
  clear hb hbv hblt
  have c1 : ∀ (j : Nat) (u : Value), [Value.int IntKind.u8 0][j]? = some u → (w.alloc (Obj.cells #[Value.int IntKind.u8 0] 5)).cell? ((⟨w.heap.size, 0, none⟩ : Addr).add j) = some u := by
    intro j u hj
    match j, hj with
    | 0, hj => simp at hj; subst hj; simp [Addr.add]
  rcases hv with ⟨g, cap, rfl⟩ | rfl
  all_goals
    have KEY : Hid _ := key
    clear key
    go_enter Try.func36, Try.ntmps36
    go_wp2_with (first
      | (at_builtin; refine wpList_append_own_at _ rfl _ _ 25 rfl 0 5 i0 (.int .u8 0) 1 1 Try.underlying25 hi hz0 hz1 hz2 rfl (by decide) _ _ _ rfl (hown.alloc _) ⟨w.heap.size, 0, none⟩ 1 1 [.int .u8 0] rfl rfl c1 (by intro u hu; simp at hu; subst hu; rfl) (by unfold maxLen; omega) (by omega) (Nat.zero_le _) ?_)
      | go_in)
    intro v' w1 hown' hgrow _ hwhere
    obtain ⟨g1, cap1, hv', hg1, hb1, hx1, hfx1⟩ := KEY.out v' w1 hown' hgrow
    rw [hv'] at hown' hwhere ⊢
    have H3 : Hid _ := hwhere
    clear hwhere
    clear KEY c1 hown h0 h1
    have k0 := cell_two0 hb1
    have k1 := cell_two1 hb1
    have kf0 := free_two (i := 0) hb1
    have kf1 := free_two (i := 1) hb1
    have hn : n / 8 < n / 8 + 1 := by omega
    have H1 : Hid _ := hown'
    have H2 : Hid _ := hgrow
    clear hown' hgrow hv'
    go_wp2
    go_region
    all_goals go_wp2
    all_goals go_end0
    all_goals exact ⟨rfl, w1, g1, cap1, H1.out, H2.out, by have := H3.out; simp [Value.ownBlock] at this ⊢; omega, rfl⟩

theorem ownsRow_set {w : World} {g n cap : Nat} {xs : List Value} (h : w.ownsRow 0 5 1 (.slice (some ⟨g, 0, none⟩) n cap) n xs) (i : Nat) (x : Value) :
    (w.setCell ⟨g, i, none⟩ x).ownsRow 0 5 1 (.slice (some ⟨g, 0, none⟩) n cap) n (xs.set i x) := by
  obtain ⟨h1, h2⟩ := h
  rcases h2 with ⟨h2, _⟩ | ⟨g', cap', cur, hv, hg, hh, hle, hm, hcs, htk⟩
  · simp at h2
  · simp at hv
    obtain ⟨rfl, rfl⟩ := hv
    refine ⟨by simpa using h1, .inr ⟨g, cap, cur.set! i x, rfl, hg, ?_, hle, hm, by simpa using hcs, ?_⟩⟩
    · have hlt := lt_of_block hh
      have h' : w.heap[g] = .cells cur 5 (0, 0) := by simpa [Array.getElem?_eq_getElem hlt] using hh
      show (w.heap.modify g _)[g]? = _
      rw [Array.getElem?_eq_getElem (by simpa using hlt), Array.getElem_modify_self, h']
      rfl
    · rw [← htk]
      simp [List.take_set]

theorem bit_any (rs : List Value) (ty : TypeId) (b : Nat) (bs : List Bool) (c : Int) (w : World) (h : Wr rs ty w b bs) (hlen : bs.length < 1125899906842624) (hc0 : 0 ≤ c) (hc1 : c ≤ 1) :
    Calls Try.prog 36 #[.pointer (some ⟨b, 0, none⟩), .int .i64 c] w fun e w' => e = .returned (.tuple #[]) ∧ WStep rs ty w w' b (bs ++ [c == 1]) := by
  obtain ⟨hty, v, hb, hown⟩ := h
  by_cases hm : bs.length % 8 = 0
  · have e8 : (bs.length + 7) / 8 = bs.length / 8 := by omega
    rw [e8] at hown
    refine (bit_new rs ty hty b bs.length v (bytesV (Bt.pack bs)) c w ?_ hown hb hlen (by simp; omega)).mono ?_
    · rcases hown.2 with ⟨h, _⟩ | ⟨g, cap, cur, h, _⟩
      · exact .inr h
      · exact .inl ⟨g, cap, h⟩
    · rintro e w' ⟨rfl, w1, g, cap, hown1, hgrow, hwh, rfl⟩
      have hbv : v.ownBlock ≠ some b := by
        intro e
        rcases hown.2 with ⟨rfl, _⟩ | ⟨g, cap, cur, rfl, _, hh, _⟩
        · simp [Value.ownBlock] at e
        · simp [Value.ownBlock] at e
          subst e
          rw [hb] at hh
          simp at hh
          exact hty hh.2
      have hblt := lt_of_block hb
      have hb1 : w1.heap[b]? = some (.cells ⟨v :: .int .i64 bs.length :: rs⟩ ty (0, 0)) := by
        rw [hgrow.block b (by simp; omega) (fun e => hbv e.symm), Below.heap_alloc _ _ _ hblt]; exact hb
      have hgb : g ≠ b := by
        rintro rfl
        rcases hown1.2 with ⟨h, _⟩ | ⟨g', cap', cur, h, _, hh, _⟩
        · simp at h
        · simp at h
          obtain ⟨rfl, rfl⟩ := h
          rw [hb1] at hh
          simp at hh
          exact hty hh.2
      have hfb : Fp rs ty w b b := Fp.self rs ty w b
      have hfv : ∀ k, v.ownBlock = some k → Fp rs ty w b k := fun k hk => .inr ⟨v, _, hb, hk⟩
      have hl1 : (bytesV (Bt.pack bs)).length = bs.length / 8 := by simp [bytesV, Bt.length_pack, e8]
      have kb : (((w1.setCell ⟨b, 0, none⟩ (.slice (some ⟨g, 0, none⟩) (bs.length / 8 + 1) cap)).setCell ⟨g, bs.length / 8, none⟩ (.int .u8 (bits .or .u8 0 (wrap64 (c * 2 ^ (bs.length % 8)) % 256)))).setCell ⟨b, 1, none⟩ (.int .i64 (bs.length + 1))).drew.heap[b]? = some (.cells ⟨.slice (some ⟨g, 0, none⟩) (bs.length / 8 + 1) cap :: .int .i64 (bs ++ [c == 1]).length :: rs⟩ ty (0, 0)) := by
          have k1 := two_set0 (x := .slice (some ⟨g, 0, none⟩) (bs.length / 8 + 1) cap) hb1
          rw [← Below.heap_setCell _ ⟨g, bs.length / 8, none⟩ (.int .u8 (bits .or .u8 0 (wrap64 (c * 2 ^ (bs.length % 8)) % 256))) b (fun e => hgb e.symm)] at k1
          have k2 := two_set1 (x := .int .i64 (bs.length + 1)) k1
          have e : ((bs ++ [c == 1]).length : Int) = (bs.length : Int) + 1 := by simp
          rw [e]
          exact k2
      refine ⟨rfl, ?_, ?_, ?_⟩
      · refine ⟨hty, .slice (some ⟨g, 0, none⟩) (bs.length / 8 + 1) cap, kb, ?_⟩
        · have e9 : ((bs ++ [c == 1]).length + 7) / 8 = bs.length / 8 + 1 := by simp; omega
          rw [e9, Bt.pack_new _ _ hm]
          refine World.ownsRow.drew ?_
          refine ownsRow_setCell_other ?_ (by simp [Value.ownBlock, hgb]) _
          have k3 := ownsRow_set (ownsRow_setCell_other hown1 (a := ⟨b, 0, none⟩) (by simp [Value.ownBlock, hgb]) (.slice (some ⟨g, 0, none⟩) (bs.length / 8 + 1) cap)) (bs.length / 8) (.int .u8 (bits .or .u8 0 (wrap64 (c * 2 ^ (bs.length % 8)) % 256)))
          have ho := or_bit 0 (bs.length % 8) c (by omega) (Nat.pow_pos (by decide)) hc0 hc1
          rw [hm] at ho
          rw [List.set_append_right _ _ (by omega), hl1, Nat.sub_self, List.set_cons_zero] at k3
          simp only [bytesV, List.map_append, List.map_cons, List.map_nil] at k3 ⊢
          rw [hm] at k3 ⊢
          rw [show (bits BinOp.or IntKind.u8 0 (wrap64 (c * 2 ^ 0) % 256)) = (((c == 1).toNat : Nat) : Int) by simpa using ho] at k3 ⊢
          exact k3
      · refine Touch.drew (Touch.setCell (Touch.setCell (Touch.setCell ?_ (fun _ => hfb) _) (fun hlt => ?_) _) (fun _ => hfb) _)
        · exact ((Touch.refl _ w).alloc _).grown hgrow (fun k hk _ => hfv k hk)
        · rcases hwh with h | h
          · exact hfv g h
          · simp only at hlt; omega
      · intro k hk
        rcases hk with hk | ⟨v2, c2, hk, ho⟩
        · exact .inl (.inl hk)
        · rw [kb] at hk
          simp at hk
          obtain ⟨rfl, rfl⟩ := hk
          simp [Value.ownBlock] at ho
          subst ho
          rcases hwh with h | h
          · exact .inl (hfv g h)
          · exact .inr (by omega)
  · have e8 : (bs.length + 7) / 8 = bs.length / 8 + 1 := by omega
    rcases hown.2 with ⟨h, hz⟩ | ⟨g, cap, cur, rfl, _, hh, hle, _⟩
    · omega
    · have hgb : b ≠ g := by
        rintro rfl
        rw [hb] at hh
        simp at hh
        exact hty hh.2
      have hx : w.cell? ⟨g, bs.length / 8, none⟩ = some (.int .u8 (Bt.byteAt bs (bs.length / 8) : Nat)) := by
        have := hown.cells (g := g) rfl (bs.length / 8) (.int .u8 (Bt.byteAt bs (bs.length / 8) : Nat)) (by simp [bytesV, Bt.pack, e8])
        rwa [add_zero] at this
      refine (bit_mid b g bs.length _ cap (Bt.byteAt bs (bs.length / 8)) c w (cell_two0 hb) (cell_two1 hb) (free_two hb) hx (by simp [World.frozen?, hh]) hgb (by omega) hlen (by simp; omega)).mono ?_
      rintro e w' ⟨rfl, rfl⟩
      rw [or_bit _ _ c (by omega) (Bt.byteAt_last_lt bs) hc0 hc1]
      have kb : ((w.setCell ⟨g, bs.length / 8, none⟩ (.int .u8 ((Bt.byteAt bs (bs.length / 8) + (c == 1).toNat * 2 ^ (bs.length % 8) : Nat) : Int))).setCell ⟨b, 1, none⟩ (.int .i64 (bs.length + 1))).drew.heap[b]? = some (.cells ⟨.slice (some ⟨g, 0, none⟩) ((bs.length + 7) / 8) cap :: .int .i64 (bs ++ [c == 1]).length :: rs⟩ ty (0, 0)) := by
        have k1 := hb
        rw [← Below.heap_setCell w ⟨g, bs.length / 8, none⟩ (.int .u8 ((Bt.byteAt bs (bs.length / 8) + (c == 1).toNat * 2 ^ (bs.length % 8) : Nat) : Int)) b hgb] at k1
        have k2 := two_set1 (x := .int .i64 (bs.length + 1)) k1
        have e : ((bs ++ [c == 1]).length : Int) = (bs.length : Int) + 1 := by simp
        rw [e]
        exact k2
      have hfb : Fp rs ty w b b := Fp.self rs ty w b
      have hfg : Fp rs ty w b g := .inr ⟨_, _, hb, rfl⟩
      refine ⟨rfl, ⟨hty, _, kb, ?_⟩, ?_, ?_⟩
      · have e9 : ((bs ++ [c == 1]).length + 7) / 8 = (bs.length + 7) / 8 := by simp; omega
        rw [e9, Bt.pack_mid _ _ hm]
        refine World.ownsRow.drew ?_
        refine ownsRow_setCell_other ?_ (by simp [Value.ownBlock]; omega) _
        have k3 := ownsRow_set hown (bs.length / 8) (.int .u8 ((Bt.byteAt bs (bs.length / 8) + (c == 1).toNat * 2 ^ (bs.length % 8) : Nat) : Int))
        simpa [bytesV, List.map_set] using k3
      · exact Touch.drew (Touch.setCell (Touch.setCell (Touch.refl _ _) (fun _ => hfg) _) (fun _ => hfb) _)
      · intro k hk
        rcases hk with hk | ⟨v2, c2, hk, ho⟩
        · exact .inl (.inl hk)
        · rw [kb] at hk
          simp at hk
          obtain ⟨rfl, rfl⟩ := hk
          simp [Value.ownBlock] at ho
          subst ho
          exact .inl hfg
end Go.Proofs.Ythengfclijclmaa.G
