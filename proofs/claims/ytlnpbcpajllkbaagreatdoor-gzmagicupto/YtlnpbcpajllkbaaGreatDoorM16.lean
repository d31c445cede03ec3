/- Texts of this proof, one behind the other: what each says stands ahead of it. -/
import Derived.Test.YtlnpbcpajllkbaaGreatDoorM15
import Derived.Deep.LoopGhost
import Derived.Laws.Externs
import Derived.Deep.DeepCutAuto
import Derived.BigQuiet
/- fixedTables of an unpacker: made when they are first asked for; no condition. -/
namespace Go.Proofs.YtlnpbcpajllkbaaGreatDoor
open Go.RowKit Go.Lib

theorem err_fixL : errOf Inf.fixL 288 = 0 := by decide +kernel
theorem err_fixD : errOf Inf.fixD 32 = 0 := by decide +kernel
theorem fixL_le (i : Nat) : Inf.fixL i ≤ 15 := by
  unfold Inf.fixL
  split
  · omega
  · split
    · omega
    · split
      · omega
      · split <;> omega
theorem fixD_le (i : Nat) : Inf.fixD i ≤ 15 := by unfold Inf.fixD; split <;> omega
theorem tbl_fixL : Inf.Tbl Inf.fixL 288 := ⟨fixL_le, err_fixL, by decide⟩
theorem tbl_fixD : Inf.Tbl Inf.fixD 32 := ⟨fixD_le, err_fixD, by decide⟩

/-- Nothing of the unpacker lies among the blocks from lo up to hi. -/
def Apart (ub r : Nat) (v : Value) (lo hi : Nat) : Prop := ∀ k, lo ≤ k → k < hi → k ≠ r ∧ k ≠ ub ∧ v.ownBlock ≠ some k

/-- The fixed tables, if they are made. -/
def FxOk (w : World) (ub r : Nat) (v : Value) (tl td : Option Addr) : Prop :=
  (tl = none ∧ td = none) ∨ ∃ bl bd lo hi, tl = some ⟨bl, 0, none⟩ ∧ td = some ⟨bd, 0, none⟩ ∧ TblIn w bl Inf.fixL 288 lo hi ∧ TblIn w bd Inf.fixD 32 lo hi ∧ hi ≤ w.heap.size ∧ Apart ub r v lo hi

theorem FxOk.done {w w' : World} {ub r : Nat} {v : Value} {tl td : Option Addr} {v' : Value} (h : FxOk w ub r v tl td) (tc : Touch (fun k => k = r ∨ k = ub ∨ v.ownBlock = some k) w w') (ho : v'.ownBlock = v.ownBlock ∨ ∃ g, v'.ownBlock = some g ∧ w.heap.size ≤ g) : FxOk w' ub r v' tl td := by
  rcases h with h | ⟨bl, bd, lo, hi, h1, h2, h3, h4, h5, h6⟩
  · exact .inl h
  · have hS : ∀ k, lo ≤ k → k < hi → ¬ (k = r ∨ k = ub ∨ v.ownBlock = some k) := by
      intro k a b e
      obtain ⟨g1, g2, g3⟩ := h6 k a b
      rcases e with e | e | e
      · exact g1 e
      · exact g2 e
      · exact g3 e
    refine .inr ⟨bl, bd, lo, hi, h1, h2, h3.kept tc hS, h4.kept tc hS, Nat.le_trans h5 tc.size, fun k a b => ?_⟩
    obtain ⟨g1, g2, g3⟩ := h6 k a b
    refine ⟨g1, g2, ?_⟩
    rcases ho with e | ⟨g, e, hg⟩
    · rw [e]; exact g3
    · rw [e]
      simp
      omega

theorem block_set {w : World} {b : Nat} {cs : Array Value} {t : TypeId} (h : w.heap[b]? = some (.cells cs t (0, 0))) (i : Nat) (x : Value) : (w.setCell ⟨b, i, none⟩ x).heap[b]? = some (.cells (cs.set! i x) t (0, 0)) := by
  have hlt := lt_of_block h
  have h' : w.heap[b] = .cells cs t (0, 0) := by simpa [Array.getElem?_eq_getElem hlt] using h
  show (w.heap.modify b _)[b]? = _
  rw [Array.getElem?_eq_getElem (by simpa using hlt), Array.getElem_modify_self, h']
  rfl

theorem up_set34 {w : World} {ub r : Nat} {v : Value} {out : List Nat} {most : Int} {tl td : Option Addr} (h : Up w ub r v out most tl td) (a b : Option Addr) : Up ((w.setCell ⟨ub, 3, none⟩ (.pointer a)).setCell ⟨ub, 4, none⟩ (.pointer b)) ub r v out most a b := by
  have hv : v.ownBlock ≠ some ub := by
    intro e
    rcases h.2.2 with ⟨rfl, _⟩ | ⟨g, cap, cur, rfl, _, hh, _⟩
    · simp [Value.ownBlock] at e
    · simp [Value.ownBlock] at e
      subst e
      rw [h.1] at hh
      simp at hh
  refine ⟨?_, ownsRow_setCell_other (ownsRow_setCell_other h.2 hv _) hv _⟩
  exact block_set (block_set h.1 3 (.pointer a)) 4 (.pointer b)

theorem Up.setOther {w : World} {ub r q : Nat} {v : Value} {out : List Nat} {most : Int} {tl td : Option Addr} (h : Up w ub r v out most tl td) (h1 : ub ≠ q) (h2 : v.ownBlock ≠ some q) (i : Nat) (x : Value) : Up (w.setCell ⟨q, i, none⟩ x) ub r v out most tl td :=
  ⟨(Below.heap_setCell _ _ _ _ h1).trans h.1, ownsRow_setCell_other h.2 h2 _⟩
theorem Rd.setOther {w : World} {r q : Nat} {s : ByteArray} {t : Nat} (h : Rd w r s t) (h1 : r ≠ q) (i : Nat) (x : Value) : Rd (w.setCell ⟨q, i, none⟩ x) r s t := by
  unfold Rd at h ⊢
  rw [Below.heap_setCell _ _ _ _ h1]
  exact h

/-- What fixedTables leaves. -/
def FtPost (ub r : Nat) (v : Value) (out : List Nat) (most : Int) (s : ByteArray) (t : Nat) (w : World) (e : Ending) (w' : World) : Prop :=
  ∃ bl bd lo hi, e = .returned (.agg #[.pointer (some ⟨bl, 0, none⟩), .pointer (some ⟨bd, 0, none⟩)]) ∧ Up w' ub r v out most (some ⟨bl, 0, none⟩) (some ⟨bd, 0, none⟩) ∧ Rd w' r s t ∧ TblIn w' bl Inf.fixL 288 lo hi ∧ TblIn w' bd Inf.fixD 32 lo hi ∧ hi ≤ w'.heap.size ∧ Apart ub r v lo hi ∧ Touch (fun k => k = ub) w w'

set_option maxRecDepth 100000 in
set_option maxHeartbeats 4000000 in
theorem fixedTables_any (ub r : Nat) (v : Value) (out : List Nat) (most : Int) (tl td : Option Addr) (s : ByteArray) (t : Nat) (w : World) (h : Up w ub r v out most tl td) (hr : Rd w r s t) (hf : FxOk w ub r v tl td) :
    Calls Tryz.prog 92 #[.pointer (some ⟨ub, 0, none⟩)] w (FtPost ub r v out most s t w) := by
  have hub := lt_of_block h.1
  have hrl := hr.lt
  obtain ⟨hn1, hn2, hn3⟩ := up_own h hr
  have hvl : ∀ k, v.ownBlock = some k → k < w.heap.size := fun k e => (h.2.lt k e).2
  have fb0 : (w.alloc (.cells #[.pointer none, .pointer none] 146)).heap[w.heap.size]? = some (.cells #[.pointer none, .pointer none] 146 (0, 0)) := by
    show (w.heap.push _)[_]? = _
    simp
  have T0 := hid ((Touch.refl (fun _ => False) w).alloc (.cells #[.pointer none, .pointer none] 146))
  have U0 := hid (h.alloc (.cells #[.pointer none, .pointer none] 146))
  have R0 := hid (hr.alloc (.cells #[.pointer none, .pointer none] 146))
  obtain ⟨q, hq⟩ : ∃ q, q = w.heap.size := ⟨_, rfl⟩
  have hwA : q < (w.alloc (.cells #[.pointer none, .pointer none] 146)).heap.size := by rw [hq]; simp
  rw [← hq] at fb0
  have HQ := hid hq
  have HF := hid hf
  clear hf
  rcases HF.out with ⟨rfl, rfl⟩ | ⟨bl, bd, lo, hi, rfl, rfl, tbl, tbd, hhi, hap⟩
  · go_enter Tryz.func92, Tryz.ntmps92
    have c3 := (up_cells h).2.2.2.1
    clear h hr
    go_wp2_with fail
    rw [← hq]
    clear hq
    generalize w.alloc (.cells #[.pointer none, .pointer none] 146) = wA at *
    refine (fixedL_any wA).mono ?_
    rintro e w1 ⟨a1, k1, rfl, i1, tc1⟩
    have I1 := hid i1
    have T1 := hid (T0.out.trans tc1 (fun _ _ e => e))
    have TA1 := hid tc1
    clear i1 tc1
    go_wp2_with fail
    refine (fixedD_any w1).mono ?_
    rintro e w2 ⟨g2, rfl, i2, tc2⟩
    have I2 := hid i2
    have I12 := hid (I1.out.beside tc2 (fun _ _ _ _ e => e))
    have TA2 := hid (TA1.out.trans tc2 (fun _ _ e => e))
    clear i2 tc2 I1 TA1 T1
    go_wp2_with fail
    refine (tablesOf_any a1 (some ⟨g2, 0, none⟩) 288 32 k1 32 Inf.fixL Inf.fixD w2 (by decide) (by decide) fixL_le fixD_le I12.out I2.out).mono ?_
    rintro e w3 ⟨tc3, hres⟩
    rcases hres with ⟨_, _, bl, bd, rfl, tbl, tbd⟩ | ⟨h1, _⟩ | ⟨_, h1, _⟩
    · have TA3 := hid (TA2.out.trans tc3 (fun _ _ e => e))
      have hsz2 := tc3.size
      have TL := hid tbl
      have TD := hid tbd
      have hszA := TA2.out.size
      have U3 := hid (show Up w3 ub r v out most none none from by
        refine ⟨(TA3.out.block ub (lt_of_block U0.out.1) id).trans U0.out.1, U0.out.2.1, ?_⟩
        rcases U0.out.2.2 with h0 | ⟨g, cap, cur, hv, hg, hh, rest⟩
        · exact .inl h0
        · exact .inr ⟨g, cap, cur, hv, hg, (TA3.out.block g (lt_of_block hh) id).trans hh, rest⟩)
      have R3 := hid (show Rd w3 r s t from by
        have := R0.out
        unfold Rd at this ⊢
        rw [TA3.out.block r (lt_of_block this) id]
        exact this)
      have fb3 : w3.heap[q]? = some (.cells #[.pointer none, .pointer none] 146 (0, 0)) := by rw [TA3.out.block q hwA id]; exact fb0
      have d3 := (up_cells U3.out).2.2.2.1
      have d4 := (up_cells U3.out).2.2.2.2
      have f3 : w3.frozen? ⟨ub, 3, none⟩ = false := by simp [World.frozen?, U3.out.1]
      have f4 : w3.frozen? ⟨ub, 4, none⟩ = false := by simp [World.frozen?, U3.out.1]
      have hqub : ub ≠ q := by have := HQ.out; omega
      have hqr : r ≠ q := by have := HQ.out; omega
      have k0 := cell_two0 fb3
      have k1' := cell_two1 fb3
      have kf0 := free_two (i := 0) fb3
      have kf1 := free_two (i := 1) fb3
      have FB3 := hid fb3
      have T3 := hid (T0.out.trans TA3.out (fun _ _ e => e))
      clear tc3 tbl tbd I2 I12 TA2 fb3 fb0
      go_wp2
      have hu := up_set34 U3.out (some ⟨bl, 0, none⟩) (some ⟨bd, 0, none⟩)
      have hqw := HQ.out
      have hvq : v.ownBlock ≠ some q := fun e => by have := hvl q e; omega
      have hfb := two_set1 (x := .pointer (some ⟨bd, 0, none⟩)) (two_set0 (x := .pointer (some ⟨bl, 0, none⟩)) (w := (w3.setCell ⟨ub, 3, none⟩ (.pointer (some ⟨bl, 0, none⟩))).setCell ⟨ub, 4, none⟩ (.pointer (some ⟨bd, 0, none⟩))) (by
        rw [Below.heap_setCell _ _ _ _ (fun e => hqub e.symm), Below.heap_setCell _ _ _ _ (fun e => hqub e.symm)]
        exact FB3.out))
      refine bodyPost_ret (results_c rfl _ _ q 146 _ (0, 0) _ rfl hfb Tryz.underlying146 rfl (by kernel_rfl)) rfl ?_
      have tks := ((((Touch.refl (fun k => k = ub ∨ k = q) w3).setCell (p := ⟨ub, 3, none⟩) (fun _ => .inl rfl) (.pointer (some ⟨bl, 0, none⟩))).setCell (p := ⟨ub, 4, none⟩) (fun _ => .inl rfl) (.pointer (some ⟨bd, 0, none⟩))).setCell (p := ⟨q, 0, none⟩) (fun _ => .inr rfl) (.pointer (some ⟨bl, 0, none⟩))).setCell (p := ⟨q, 1, none⟩) (fun _ => .inr rfl) (.pointer (some ⟨bd, 0, none⟩))
      have hS : ∀ k, w2.heap.size ≤ k → k < w3.heap.size → ¬ (k = ub ∨ k = q) := by
        intro k a b e
        omega
      refine ⟨bl, bd, w2.heap.size, w3.heap.size, rfl, (hu.setOther hqub hvq 0 _).setOther hqub hvq 1 _, (((R3.out.setOther (fun e => hn1 e.symm) 3 _).setOther (fun e => hn1 e.symm) 4 _).setOther hqr 0 _).setOther hqr 1 _, TL.out.kept tks hS, TD.out.kept tks hS, tks.size, ?_, ?_⟩
      · intro k a b
        refine ⟨by omega, by omega, fun e => ?_⟩
        have := hvl k e
        omega
      · exact ((((T3.out.mono (S' := fun k => k = ub) (fun _ _ e => e.elim)).setCell (p := ⟨ub, 3, none⟩) (fun _ => rfl) _).setCell (p := ⟨ub, 4, none⟩) (fun _ => rfl) _).setCell (p := ⟨q, 0, none⟩) (fun h => absurd h (by simp; omega)) _).setCell (p := ⟨q, 1, none⟩) (fun h => absurd h (by simp; omega)) _
    · exact absurd err_fixL h1
    · exact absurd err_fixD h1
  · obtain ⟨o, ho⟩ : ∃ o, o = Obj.cells #[.pointer (some ⟨bl, 0, none⟩), .pointer (some ⟨bd, 0, none⟩)] 146 := ⟨_, rfl⟩
    have T1 := hid ((Touch.refl (fun _ => False) w).alloc o)
    have U1 := hid (h.alloc o)
    have R1 := hid (hr.alloc o)
    have TL := hid (tbl.kept T1.out (fun _ _ _ e => e))
    have TD := hid (tbd.kept T1.out (fun _ _ _ e => e))
    have FB := hid (show (w.alloc o).heap[q]? = some (.cells #[.pointer (some ⟨bl, 0, none⟩), .pointer (some ⟨bd, 0, none⟩)] 146 (0, 0)) by
      rw [ho, hq]
      show (w.heap.push _)[_]? = _
      simp)
    have HAP := hid hap
    have c3 := (up_cells h).2.2.2.1
    have c4 := (up_cells h).2.2.2.2
    have HO := hid ho
    clear h hr tbl tbd hap ho fb0
    go_enter Tryz.func92, Tryz.ntmps92
    go_wp2_with fail
    rw [← HO.out, ← hq]
    refine bodyPost_ret (results_c rfl _ _ q 146 _ (0, 0) _ rfl FB.out Tryz.underlying146 rfl (by kernel_rfl)) rfl ?_
    exact ⟨bl, bd, lo, hi, rfl, U1.out, R1.out, TL.out, TD.out, Nat.le_trans hhi T1.out.size, HAP.out, T1.out.mono (fun _ _ e => e.elim)⟩
end Go.Proofs.YtlnpbcpajllkbaaGreatDoor

/- bytesOf: a number's bytes, the lower ones first; conditions: those told. -/
namespace Go.Proofs.YtlnpbcpajllkbaaGreatDoor
open Go.RowKit
open Go.Lib

/-- A number's bytes, the lower ones first. -/
def leB (n k : Nat) : List UInt8 := (List.range k).map fun j => UInt8.ofNat (n / 2 ^ (8 * j))
/-- The cells of which i are laid. -/
def leC (n k i : Nat) : Array Value := ((List.range k).map fun j => Value.int .u8 (if j < i then ((n / 2 ^ (8 * j) % 256 : Nat) : Int) else 0)).toArray
theorem leC_size (n k i : Nat) : (leC n k i).size = k := by simp [leC]
theorem leC_at (n k i j : Nat) (h : j < k) : (leC n k i)[j]? = some (Value.int .u8 (if j < i then ((n / 2 ^ (8 * j) % 256 : Nat) : Int) else 0)) := by
  simp [leC, h]
theorem leC_set (n k i : Nat) (_h : i < k) : (leC n k i).set! i (.int .u8 ((n / 2 ^ (8 * i) % 256 : Nat) : Int)) = leC n k (i + 1) := by
  apply Array.ext_getElem?
  intro j
  rw [Array.set!_eq_setIfInBounds, Array.getElem?_setIfInBounds]
  by_cases hj : j < k
  · rw [leC_at n k i j hj, leC_at n k (i + 1) j hj, leC_size]
    by_cases e : i = j
    · subst e
      rw [if_pos rfl, if_pos hj, if_pos (by omega)]
    · rw [if_neg e]
      by_cases h2 : j < i
      · rw [if_pos h2, if_pos (by omega)]
      · rw [if_neg h2, if_neg (by omega)]
  · have e1 : (leC n k i)[j]? = none := Array.getElem?_eq_none (by rw [leC_size]; omega)
    have e2 : (leC n k (i + 1))[j]? = none := Array.getElem?_eq_none (by rw [leC_size]; omega)
    rw [e1, e2, leC_size]
    by_cases e : i = j
    · omega
    · rw [if_neg e]
theorem leC_made (n k : Nat) : madeCells #[.int .u8 0] k = leC n k 0 := by
  apply Array.ext_getElem?
  intro j
  unfold madeCells leC
  by_cases hj : j < k
  · simp [hj, Nat.mod_one]
  · simp [hj]

theorem info5 : (Tryz.prog.info? 5).map (fun i => (i.zero, i.size, i.bytes)) = some (some (.int .u8 0), 1, 1) := by kernel_rfl
theorem mk36 (n : Nat) (hn : n ≤ 4194304) (w : World) : (Instr.makeSlice 36 (.int .i64 n) (.int .i64 n)).run Tryz.prog w = .ok (.slice (some ⟨w.heap.size, 0, none⟩) n n) (w.alloc (.cells (madeCells #[.int .u8 0] n) 5)) := by
  obtain ⟨i0, hi, hz0, hz1, hz2⟩ := info_parts info5
  have := run_make (P := Tryz.prog) w 36 5 i0 (.int .u8 0) Tryz.underlying36 hi hz0 .i64 .i64 n n (by omega) (by omega) (by rw [hz2]; omega) (by omega)
  rw [hz1] at this
  simpa [Value.cells] using this

set_option maxRecDepth 100000 in
set_option maxHeartbeats 4000000 in
theorem bytesOf_any (n k : Nat) (_hn : n < 2 ^ 62) (hk : k ≤ 7) (w : World) :
    Calls Tryz.prog 16 #[.int .i64 (n : Nat), .int .i64 (k : Nat)] w fun e w' => e = .returned (.string ⟨(leB n k).toArray⟩) ∧ Touch (fun _ => False) w w' := by
  have M := mk36 k (by omega)
  have B0 := hid (show (w.alloc (.cells (madeCells #[.int .u8 0] k) 5)).heap[w.heap.size]? = some (.cells (leC n k 0) 5 (0, 0)) by
    rw [leC_made n k]
    show (w.heap.push _)[_]? = _
    simp)
  have TA := hid ((Touch.refl (fun _ => False) w).alloc (.cells (madeCells #[.int .u8 0] k) 5))
  go_enter Tryz.func16, Tryz.ntmps16
  go_wp2_with fail
  generalize (w.alloc (.cells (madeCells #[.int .u8 0] k) 5)) = w1 at *
  obtain ⟨g, hg⟩ : ∃ g, g = w.heap.size := ⟨_, rfl⟩
  rw [← hg] at B0 ⊢
  have HGW := hid (show w.heap.size ≤ g by omega)
  clear hg M
  go_loopg [11] k (fun gk v wr => ∃ i : Nat, i + gk = k ∧ v = .int .i64 (i : Nat) ∧ Hid (wr.heap[g]? = some (.cells (leC n k i) 5 (0, 0))) ∧ Hid (Touch (fun _ => False) w wr))
  case atStart => exact ⟨0, by omega, rfl, B0, TA⟩
  case round =>
    clear B0 TA
    obtain ⟨i, hi, rfl, HB, HT⟩ := hrel
    by_cases hlt : i < k
    · have hltI : (i : Int) < (k : Int) := by omega
      have c0 : wr.cell? ⟨g, i, none⟩ = some (.int .u8 0) := by
        simp only [World.cell?, HB.out]
        rw [leC_at n k i i hlt]
        simp
      have f0 : wr.frozen? ⟨g, i, none⟩ = false := by simp [World.frozen?, HB.out]
      go_wp2
      have e : ((n : Int) / 2 ^ (8 * i) % 256) = ((n / 2 ^ (8 * i) % 256 : Nat) : Int) := by simp
      rw [e]
      have HB2 := hid (block_set HB.out i (.int .u8 ((n / 2 ^ (8 * i) % 256 : Nat) : Int)))
      rw [leC_set n k i hlt] at HB2
      go_roundg (gk - 1)
      case measure => omega
      case rel => exact ⟨i + 1, by omega, by go_num, HB2, hid (HT.out.setCell (p := ⟨g, i, none⟩) (fun q => absurd q (Nat.not_lt.2 HGW.out)) _)⟩
    · obtain rfl : i = k := by omega
      have hl : (leB n i).length = i := by simp [leB]
      have hcv := run_convert_bytes_back (P := Tryz.prog) wr 36 9 5 ⟨g, 0, none⟩ i (leB n i) Tryz.underlying36 Tryz.underlying5 Tryz.underlying9 (fun j hj => by
        rw [add_zero]
        simp only [World.cell?, HB.out]
        rw [hl] at hj
        rw [leC_at n i i j hj, if_pos hj]
        simp [leB])
      rw [hl] at hcv
      clear hl
      go_wp2
      go_ret
      exact ⟨rfl, HT.out⟩
end Go.Proofs.YtlnpbcpajllkbaaGreatDoor

/- check and flagsOf of a part that has data alone; no condition. -/
namespace Go.Proofs.YtlnpbcpajllkbaaGreatDoor
open Go.RowKit
open Go.Lib

/-- A part that has data alone. -/
def plainC (d : ByteArray) : Array Value := #[.string ⟨#[]⟩, .string ⟨#[]⟩, .string ⟨#[]⟩, .bool false, .bool false, .int .i64 0, .int .i64 0, .int .i64 0, .string d]
theorem new_block (w : World) (cs : Array Value) (t : TypeId) : (w.alloc (.cells cs t)).heap[w.heap.size]? = some (.cells cs t (0, 0)) := by
  show (w.heap.push _)[_]? = _
  simp
theorem nul_ext (w : World) : (callFunc 72 #[.string ⟨#[]⟩, .int .u8 0]).run Tryz.prog w = .ok (.value (.int .i64 (-1))) w := by
  rw [run_callFunc_extern Tryz.func72 (by kernel_rfl) (by kernel_rfl) (by kernel_rfl) (e := Extern.BytealgIndexByte.indexByte) (by kernel_rfl), run_indexByte_string]
  rfl
set_option maxRecDepth 100000 in
set_option maxHeartbeats 4000000 in
theorem gfits_no (k : Nat) (hk : k = 1 ∨ k = 4) (w : World) : Calls Tryz.prog 21 #[.int .i64 0, .int .i64 (k : Nat)] w fun e w' => e = .returned (.bool true) ∧ w = w' := by
  rcases hk with rfl | rfl
  · go_enter Tryz.func21, Tryz.ntmps21
    go_wp2
    go_ret
    exact ⟨rfl, rfl⟩
  · go_enter Tryz.func21, Tryz.ntmps21
    go_wp2
    go_ret
    exact ⟨rfl, rfl⟩
set_option maxRecDepth 100000 in
set_option maxHeartbeats 4000000 in
theorem nul_none (w : World) : Calls Tryz.prog 22 #[.string ⟨#[]⟩] w fun e w' => e = .returned (.bool false) ∧ w = w' := by
  have K55 : Calls Tryz.prog 55 #[.string ⟨#[]⟩, .int .u8 0] w fun e w' => e = .returned (.int .i64 (-1)) ∧ w = w' := by
    have e := nul_ext
    go_enter Tryz.func55, Tryz.ntmps55
    go_wp2
    go_ret
    exact ⟨rfl, rfl⟩
  have K55 := hid K55
  have K37 : Calls Tryz.prog 37 #[.string ⟨#[]⟩, .int .u8 0] w fun e w' => e = .returned (.int .i64 (-1)) ∧ w = w' := by
    go_enter Tryz.func37, Tryz.ntmps37
    go_wp2_with fail
    refine K55.out.mono ?_
    rintro e w1 ⟨rfl, rfl⟩
    clear K55
    go_wp2
    go_ret
    exact ⟨rfl, rfl⟩
  have K37 := hid K37
  clear K55
  go_enter Tryz.func22, Tryz.ntmps22
  go_wp2_with fail
  refine K37.out.mono ?_
  rintro e w1 ⟨rfl, rfl⟩
  clear K37
  go_wp2
  go_ret
  exact ⟨rfl, rfl⟩

set_option maxRecDepth 100000 in
set_option maxHeartbeats 4000000 in
theorem check_plain (d : ByteArray) (w : World) : Calls Tryz.prog 12 #[.agg (plainC d)] w fun e w' => e = .returned (.int .i64 0) ∧ Touch (fun _ => False) w w' := by
  have F4 := hid (gfits_no 4 (.inr rfl))
  have F1 := hid (gfits_no 1 (.inl rfl))
  have N := hid nul_none
  have TA := hid ((Touch.refl (fun _ => False) w).alloc (.cells (plainC d) 28))
  have B0 := hid (new_block w (plainC d) 28)
  unfold plainC at TA B0 ⊢
  go_enter Tryz.func12, Tryz.ntmps12
  go_upto_region 1 with fail
  generalize (w.alloc (.cells #[.string ⟨#[]⟩, .string ⟨#[]⟩, .string ⟨#[]⟩, .bool false, .bool false, .int .i64 0, .int .i64 0, .int .i64 0, .string d] 28)) = w1 at *
  obtain ⟨g, hg⟩ : ∃ g, g = w.heap.size := ⟨_, rfl⟩
  rw [← hg] at B0 ⊢
  clear hg
  have c0 : w1.cell? ⟨g, 0, none⟩ = some (.string ⟨#[]⟩) := by simp [World.cell?, B0.out]
  have c1 : w1.cell? ⟨g, 1, none⟩ = some (.string ⟨#[]⟩) := by simp [World.cell?, B0.out]
  have c2 : w1.cell? ⟨g, 2, none⟩ = some (.string ⟨#[]⟩) := by simp [World.cell?, B0.out]
  have c5 : w1.cell? ⟨g, 5, none⟩ = some (.int .i64 0) := by simp [World.cell?, B0.out]
  have c6 : w1.cell? ⟨g, 6, none⟩ = some (.int .i64 0) := by simp [World.cell?, B0.out]
  have c7 : w1.cell? ⟨g, 7, none⟩ = some (.int .i64 0) := by simp [World.cell?, B0.out]
  go_wp2_with fail
  refine Calls.mono (R := fun e w' => e = .returned (.bool true) ∧ w1 = w') (F4.out w1) ?_
  rintro e w2 ⟨rfl, rfl⟩
  go_wp2_with fail
  refine Calls.mono (R := fun e w' => e = .returned (.bool true) ∧ w1 = w') (F1.out w1) ?_
  rintro e w2 ⟨rfl, rfl⟩
  go_wp2_with fail
  refine Calls.mono (R := fun e w' => e = .returned (.bool true) ∧ w1 = w') (F1.out w1) ?_
  rintro e w2 ⟨rfl, rfl⟩
  go_wp2_with fail
  refine (N.out w1).mono ?_
  rintro e w2 ⟨rfl, rfl⟩
  go_wp2_with fail
  refine (N.out w1).mono ?_
  rintro e w2 ⟨rfl, rfl⟩
  go_wp2
  go_ret
  exact ⟨rfl, TA.out⟩
end Go.Proofs.YtlnpbcpajllkbaaGreatDoor

/- flagsOf and the head of a part that has data alone; no condition. -/
namespace Go.Proofs.YtlnpbcpajllkbaaGreatDoor
open Go.RowKit
open Go.Lib

theorem info97 : (Tryz.prog.info? 97).map (fun i => (i.zero, i.size, i.bytes)) = some (some (.agg #[.bool false, .int .i64 0]), 2, 16) := by kernel_rfl
def flagsC : Array Value := #[.bool false, .int .i64 1, .bool false, .int .i64 2, .bool false, .int .i64 4, .bool false, .int .i64 8, .bool false, .int .i64 16]
theorem run_flag (i : Nat) (h : i < 5) (w : World) : (Instr.index 98 (.agg flagsC) (.int .i64 (i : Nat))).run Tryz.prog w = .ok (.agg #[.bool false, .int .i64 ((2 ^ i : Nat) : Int)]) w := by
  obtain ⟨i0, hi, hz0, hz1, hz2⟩ := info_parts info97
  rcases (show i = 0 ∨ i = 1 ∨ i = 2 ∨ i = 3 ∨ i = 4 by omega) with rfl | rfl | rfl | rfl | rfl <;>
    simp [Instr.index, run_underlying Tryz.underlying98, asIntOf, go_sem, part, sizeOf, typeInfo, hi, hz1, flagsC]
set_option maxRecDepth 100000 in
set_option maxHeartbeats 4000000 in
theorem flags_plain (d : ByteArray) (w : World) : Calls Tryz.prog 24 #[.agg (plainC d)] w fun e w' => e = .returned (.int .i64 0) ∧ Touch (fun _ => False) w w' := by
  have TA := hid ((Touch.refl (fun _ => False) w).alloc (.cells (plainC d) 28))
  have B0 := hid (new_block w (plainC d) 28)
  unfold plainC at TA B0 ⊢
  go_enter Tryz.func24, Tryz.ntmps24
  go_upto_region 2 with fail
  generalize (w.alloc (.cells #[.string ⟨#[]⟩, .string ⟨#[]⟩, .string ⟨#[]⟩, .bool false, .bool false, .int .i64 0, .int .i64 0, .int .i64 0, .string d] 28)) = w1 at *
  obtain ⟨g, hg⟩ : ∃ g, g = w.heap.size := ⟨_, rfl⟩
  rw [← hg] at B0 ⊢
  clear hg
  have c0 : w1.cell? ⟨g, 0, none⟩ = some (.string ⟨#[]⟩) := by simp [World.cell?, B0.out]
  have c1 : w1.cell? ⟨g, 1, none⟩ = some (.string ⟨#[]⟩) := by simp [World.cell?, B0.out]
  have c2 : w1.cell? ⟨g, 2, none⟩ = some (.string ⟨#[]⟩) := by simp [World.cell?, B0.out]
  have c3 : w1.cell? ⟨g, 3, none⟩ = some (.bool false) := by simp [World.cell?, B0.out]
  have c4 : w1.cell? ⟨g, 4, none⟩ = some (.bool false) := by simp [World.cell?, B0.out]
  go_wp2_with fail
  go_loopg [3, 25] 5 (fun gk v3 v wr => ∃ i : Nat, i + gk = 5 ∧ v = .int .i64 (i : Nat) ∧ v3 = .int .i64 0 ∧ Touch (fun _ => False) w wr)
  case atStart => exact ⟨0, by omega, rfl, rfl, TA.out⟩
  case round =>
    clear TA B0 c0 c1 c2 c3 c4
    obtain ⟨i, hi, rfl, rfl, ht⟩ := hrel
    have HT := hid ht
    clear ht
    by_cases hlt : i < 5
    · have hix := run_flag i hlt wr
      unfold flagsC at hix
      obtain ⟨y, hy⟩ : ∃ y : Int, y = ((2 ^ i : Nat) : Int) := ⟨_, rfl⟩
      rw [← hy] at hix
      clear hy
      have hltI : (i : Int) < 5 := by omega
      go_wp2
      go_roundg (gk - 1)
      case measure => omega
      case rel => exact ⟨i + 1, by omega, by go_num, rfl, HT.out.alloc _⟩
    · obtain rfl : i = 5 := by omega
      go_wp2
      go_ret
      exact ⟨rfl, HT.out⟩
end Go.Proofs.YtlnpbcpajllkbaaGreatDoor
