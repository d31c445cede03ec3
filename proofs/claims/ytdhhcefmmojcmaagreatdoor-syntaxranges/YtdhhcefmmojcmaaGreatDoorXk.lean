/- A parser of patterns: letters of flags; conditions: as told. -/
import Derived.Test.YtdhhcefmmojcmaaGreatDoorXj
namespace Go.Proofs.YtdhhcefmmojcmaaGreatDoor
open Go.RowKit
open Go.Lib

def Fl.arr (f : Fl) : Array Value := #[.bool f.i, .bool f.m, .bool f.s, .bool f.u]
theorem Fl.one (f : Fl) : f.arr.all (·.oneCell') = true := by simp [Fl.arr, Value.oneCell']
theorem info38 : (Tryz.prog.info? 38).map (·.size) = some 4 := by kernel_rfl
def Fl.cnt (f : Fl) : Nat := f.i.toNat + f.m.toNat + f.s.toNat + f.u.toNat
theorem PS.row4 {w : World} {b : Nat} {X : Px} {k : Nat} {f : Fl} {vn : Value} {ns : List ByteArray} {op : Nat} (h : PS w b X k f vn ns op) {q : Nat} {old cs : Array Value} (hq : b < q) (hb : w.heap[q]? = some (.cells old 38 (0, 0))) : PS (w.setRow q cs) b X k f vn ns op :=
  h.far (touch_row w q cs) (fun g e => by subst e; exact ⟨hq, fun cs fr e => by rw [hb] at e; cases e⟩)
theorem PS.cell4 {w : World} {b : Nat} {X : Px} {k : Nat} {f : Fl} {vn : Value} {ns : List ByteArray} {op : Nat} (h : PS w b X k f vn ns op) {q i : Nat} {old : Array Value} {v : Value} (hq : b < q) (hb : w.heap[q]? = some (.cells old 38 (0, 0))) : PS (w.setCell ⟨q, i, none⟩ v) b X k f vn ns op :=
  h.far (touch_one w q i v) (fun g e => by subst e; exact ⟨hq, fun cs fr e => by rw [hb] at e; cases e⟩)
set_option maxRecDepth 100000 in
set_option maxHeartbeats 8000000 in
theorem letters_any (b : Nat) (X : Px) (k : Nat) (f : Fl) (vn : Value) (ns : List ByteArray) (op : Nat) (w : World) (h : PS w b X k f vn ns op) (hX : X.Good) (hk : k ≤ X.R.length) :
    Calls Tryz.prog 151 #[.pointer (some ⟨b, 0, none⟩)] w fun e w' => e = .returned (.agg (letF X.R 5 k fl0).1.arr) ∧ PS w' b X (letF X.R 5 k fl0).2 f vn ns op ∧ Touch (fun g => g = b) w w' := by
  obtain ⟨A, hA⟩ : ∃ A, A = letF X.R 5 k fl0 := ⟨_, rfl⟩
  have HA := hid hA.symm
  rw [← hA]
  clear hA
  have HRl := hid hX.lenR
  have T1 := hid (((Touch.refl (fun _ => False) w).alloc (.cells fl0.arr 38)).alloc (.cells fl0.arr 38))
  have B1 := hid (((((Touch.refl (fun _ => False) (w.alloc (.cells fl0.arr 38))).alloc (.cells fl0.arr 38)).block w.heap.size (by simp) id)).trans (block_new w fl0.arr 38))
  have B2 := hid (block_new (w.alloc (.cells fl0.arr 38)) fl0.arr 38)
  rw [show (w.alloc (.cells fl0.arr 38)).heap.size = w.heap.size + 1 by simp] at B2
  have HP := hid (h.new T1.out)
  have hlt := h.lt
  clear h hX
  have HKL := hid hk
  clear hk
  go_enter Tryz.func151, Tryz.ntmps151
  go_wp2_with fail
  change Hid (Touch _ _ ((w.alloc (.cells #[.bool false, .bool false, .bool false, .bool false] 38)).alloc (.cells #[.bool false, .bool false, .bool false, .bool false] 38))) at T1
  change Hid (PS ((w.alloc (.cells #[.bool false, .bool false, .bool false, .bool false] 38)).alloc (.cells #[.bool false, .bool false, .bool false, .bool false] 38)) _ _ _ _ _ _ _) at HP
  change Hid (((w.alloc (.cells #[.bool false, .bool false, .bool false, .bool false] 38)).alloc (.cells #[.bool false, .bool false, .bool false, .bool false] 38)).heap[_]? = _) at B1
  change Hid (((w.alloc (.cells #[.bool false, .bool false, .bool false, .bool false] 38)).alloc (.cells #[.bool false, .bool false, .bool false, .bool false] 38)).heap[_]? = _) at B2
  generalize (w.alloc (.cells #[.bool false, .bool false, .bool false, .bool false] 38)).alloc (.cells #[.bool false, .bool false, .bool false, .bool false] 38) = w1 at *
  obtain ⟨q1, hq1⟩ : ∃ q, q = w.heap.size := ⟨_, rfl⟩
  obtain ⟨q2, hq2⟩ : ∃ q, q = w.heap.size + 1 := ⟨_, rfl⟩
  have HQ := hid (show w.heap.size ≤ q1 ∧ q1 < q2 ∧ b < q1 from ⟨by omega, by omega, by omega⟩)
  rw [← hq2] at B2
  rw [← hq1] at B1
  have e1 : q1 + 1 = q2 := by omega
  rw [← hq1]
  simp only [e1]
  clear hq1 hq2 e1 hlt
  have T2 := hid (T1.out.mono (S' := fun g => g = b) (fun _ _ e => e.elim))
  clear T1
  go_loopg [] 5 (fun gk wq => ∃ (kk : Nat) (ff : Fl), Hid (PS wq b X kk f vn ns op) ∧ Hid (wq.heap[q1]? = some (.cells fl0.arr 38 (0, 0))) ∧ Hid (wq.heap[q2]? = some (.cells ff.arr 38 (0, 0))) ∧ Hid (letF X.R gk kk ff = A) ∧ Hid (5 ≤ gk + ff.cnt) ∧ Hid (kk ≤ X.R.length) ∧ Hid (Touch (fun g => g = b) w wq))
  case atStart => exact ⟨k, fl0, HP, B1, B2, HA, hid (Nat.le_refl _), HKL, T2⟩
  case round =>
    obtain ⟨kk, ⟨fi, fm, fs, fu⟩, HK, BQ, BF, HD, HC, HL, TK⟩ := hrel
    clear HP B1 B2 HA HKL T2
    have h2000 : kk ≤ 1024 := by have := HL.out; have := HRl.out; omega
    obtain ⟨n, hn⟩ : ∃ n, gk = n + 1 := by
      have := HC.out
      have h4 : (⟨fi, fm, fs, fu⟩ : Fl).cnt ≤ 4 := by cases fi <;> cases fm <;> cases fs <;> cases fu <;> decide
      exact ⟨gk - 1, by omega⟩
    subst hn
    rw [letF] at HD
    have KL := hid (look_at b X kk f vn ns op wr HK.out (by omega))
    have HLT := hid (fun (h : lkR X.R kk ≠ -1) => lk_lt h)
    generalize lkR X.R kk = x at *
    by_cases h105 : x = 105
    · subst h105
      cases fi with
      | false =>
        rw [if_pos ⟨rfl, rfl⟩] at HD
        go_wp2_with fail
        refine KL.out.mono ?_
        rintro e w2 ⟨rfl, t1⟩
        have H2 := hid (HK.out.new t1)
        have Q2 := hid ((t1.block q1 (lt_of_block BQ.out) id).trans BQ.out)
        have F2 := hid ((t1.block q2 (lt_of_block BF.out) id).trans BF.out)
        have T2 := hid (TK.out.trans t1 (fun _ _ e => e.elim))
        have hkl := HLT.out (by decide)
        have y0 : w2.cell? ⟨q2, 0, none⟩ = some (.bool false) := by unfold World.cell?; rw [F2.out]; rfl
        have g0 : w2.frozen? ⟨q2, 0, none⟩ = false := by unfold World.frozen?; rw [F2.out]; rfl
        have TS := touch_one w2 q2 0 (.bool true)
        have F3 := hid (show (w2.setCell ⟨q2, 0, none⟩ (.bool true)).heap[q2]? = some (.cells (Fl.arr ⟨true, fm, fs, fu⟩) 38 (0, 0)) from block_set F2.out 0 _)
        have H3 := hid (H2.out.cell4 (i := 0) (v := .bool true) (show b < q2 by have := HQ.out; omega) F2.out)
        have Q3 := hid ((TS.block q1 (lt_of_block Q2.out) (fun e => by have := HQ.out; omega)).trans Q2.out)
        have T3 := hid (T2.out.trans TS (fun i hi e => by have := HQ.out; omega))
        have c5 := H3.out.c5
        have f5 := H3.out.fr 5
        have e5 : ((kk + 1 : Nat) : Int) = (kk : Int) + 1 := by omega
        have TS2 := touch_one (w2.setCell ⟨q2, 0, none⟩ (.bool true)) b 5 (.int .i64 ((kk + 1 : Nat) : Int))
        have H4 := hid (H3.out.setk (kk + 1))
        have F4 := hid ((TS2.block q2 (lt_of_block F3.out) (fun e => by have := HQ.out; omega)).trans F3.out)
        have Q4 := hid ((TS2.block q1 (lt_of_block Q3.out) (fun e => by have := HQ.out; omega)).trans Q3.out)
        have T4 := hid (T3.out.trans TS2 (fun i hi e => e))
        rw [e5] at H4 F4 Q4 T4
        clear t1 KL HLT HK BQ BF TK TS TS2 e5
        go_wp2
        go_roundg n
        case measure => omega
        case rel => exact ⟨kk + 1, ⟨true, fm, fs, fu⟩, H4, Q4, F4, HD, hid (by have := HC.out; revert this; unfold Fl.cnt; dsimp only; simp only [Bool.toNat_true, Bool.toNat_false]; omega), hid hkl, T4⟩
      | true =>
        rw [if_neg (fun e => by cases e.2)] at HD
        rw [if_neg (fun e => absurd e.1 (by decide))] at HD
        rw [if_neg (fun e => absurd e.1 (by decide))] at HD
        rw [if_neg (fun e => absurd e.1 (by decide))] at HD
        go_wp2_with fail
        refine KL.out.mono ?_
        rintro e w2 ⟨rfl, t1⟩
        have H2 := hid (HK.out.new t1)
        have Q2 := hid ((t1.block q1 (lt_of_block BQ.out) id).trans BQ.out)
        have F2 := hid ((t1.block q2 (lt_of_block BF.out) id).trans BF.out)
        have T2 := hid (TK.out.trans t1 (fun _ _ e => e.elim))
        have y0 : w2.cell? ⟨q2, 0, none⟩ = some (.bool true) := by unfold World.cell?; rw [F2.out]; rfl
        have y1 : w2.cell? ⟨q2, 1, none⟩ = some (.bool fm) := by unfold World.cell?; rw [F2.out]; rfl
        have y2 : w2.cell? ⟨q2, 2, none⟩ = some (.bool fs) := by unfold World.cell?; rw [F2.out]; rfl
        have y3 : w2.cell? ⟨q2, 3, none⟩ = some (.bool fu) := by unfold World.cell?; rw [F2.out]; rfl
        clear t1 KL HLT HK BQ BF TK HC
        go_wp2_with (first | refine wpList_load_row rfl 38 _ rfl q2 rfl 38 _ (0, 0) _ F2.out Tryz.underlying38 rfl info38 ?_ | refine wpList_store_row rfl 38 _ _ rfl q1 _ rfl rfl 38 _ Q2.out info38 (by rfl) (Fl.one _) ?_ | fail)
        refine bodyPost_ret (results_c rfl _ _ q1 38 _ (0, 0) _ rfl (setRow_heap _ q1 _ _ 38 (0, 0) Q2.out) Tryz.underlying38 rfl (by kernel_rfl)) rfl ?_
        rw [← HD.out]
        exact ⟨rfl, H2.out.row4 HQ.out.2.2 Q2.out, T2.out.trans (touch_row _ _ _) (fun i hi e => by have := HQ.out; omega)⟩
    by_cases h109 : x = 109
    · subst h109
      cases fm with
      | false =>
        rw [if_neg (fun e => absurd e.1 (by decide))] at HD
        rw [if_pos ⟨rfl, rfl⟩] at HD
        go_wp2_with fail
        refine KL.out.mono ?_
        rintro e w2 ⟨rfl, t1⟩
        have H2 := hid (HK.out.new t1)
        have Q2 := hid ((t1.block q1 (lt_of_block BQ.out) id).trans BQ.out)
        have F2 := hid ((t1.block q2 (lt_of_block BF.out) id).trans BF.out)
        have T2 := hid (TK.out.trans t1 (fun _ _ e => e.elim))
        have hkl := HLT.out (by decide)
        have y1 : w2.cell? ⟨q2, 1, none⟩ = some (.bool false) := by unfold World.cell?; rw [F2.out]; rfl
        have g1 : w2.frozen? ⟨q2, 1, none⟩ = false := by unfold World.frozen?; rw [F2.out]; rfl
        have TS := touch_one w2 q2 1 (.bool true)
        have F3 := hid (show (w2.setCell ⟨q2, 1, none⟩ (.bool true)).heap[q2]? = some (.cells (Fl.arr ⟨fi, true, fs, fu⟩) 38 (0, 0)) from block_set F2.out 1 _)
        have H3 := hid (H2.out.cell4 (i := 1) (v := .bool true) (show b < q2 by have := HQ.out; omega) F2.out)
        have Q3 := hid ((TS.block q1 (lt_of_block Q2.out) (fun e => by have := HQ.out; omega)).trans Q2.out)
        have T3 := hid (T2.out.trans TS (fun i hi e => by have := HQ.out; omega))
        have c5 := H3.out.c5
        have f5 := H3.out.fr 5
        have e5 : ((kk + 1 : Nat) : Int) = (kk : Int) + 1 := by omega
        have TS2 := touch_one (w2.setCell ⟨q2, 1, none⟩ (.bool true)) b 5 (.int .i64 ((kk + 1 : Nat) : Int))
        have H4 := hid (H3.out.setk (kk + 1))
        have F4 := hid ((TS2.block q2 (lt_of_block F3.out) (fun e => by have := HQ.out; omega)).trans F3.out)
        have Q4 := hid ((TS2.block q1 (lt_of_block Q3.out) (fun e => by have := HQ.out; omega)).trans Q3.out)
        have T4 := hid (T3.out.trans TS2 (fun i hi e => e))
        rw [e5] at H4 F4 Q4 T4
        clear t1 KL HLT HK BQ BF TK TS TS2 e5
        go_wp2
        go_roundg n
        case measure => omega
        case rel => exact ⟨kk + 1, ⟨fi, true, fs, fu⟩, H4, Q4, F4, HD, hid (by have := HC.out; revert this; unfold Fl.cnt; dsimp only; simp only [Bool.toNat_true, Bool.toNat_false]; omega), hid hkl, T4⟩
      | true =>
        rw [if_neg (fun e => absurd e.1 (by decide))] at HD
        rw [if_neg (fun e => by cases e.2)] at HD
        rw [if_neg (fun e => absurd e.1 (by decide))] at HD
        rw [if_neg (fun e => absurd e.1 (by decide))] at HD
        go_wp2_with fail
        refine KL.out.mono ?_
        rintro e w2 ⟨rfl, t1⟩
        have H2 := hid (HK.out.new t1)
        have Q2 := hid ((t1.block q1 (lt_of_block BQ.out) id).trans BQ.out)
        have F2 := hid ((t1.block q2 (lt_of_block BF.out) id).trans BF.out)
        have T2 := hid (TK.out.trans t1 (fun _ _ e => e.elim))
        have y0 : w2.cell? ⟨q2, 0, none⟩ = some (.bool fi) := by unfold World.cell?; rw [F2.out]; rfl
        have y1 : w2.cell? ⟨q2, 1, none⟩ = some (.bool true) := by unfold World.cell?; rw [F2.out]; rfl
        have y2 : w2.cell? ⟨q2, 2, none⟩ = some (.bool fs) := by unfold World.cell?; rw [F2.out]; rfl
        have y3 : w2.cell? ⟨q2, 3, none⟩ = some (.bool fu) := by unfold World.cell?; rw [F2.out]; rfl
        clear t1 KL HLT HK BQ BF TK HC
        go_wp2_with (first | refine wpList_load_row rfl 38 _ rfl q2 rfl 38 _ (0, 0) _ F2.out Tryz.underlying38 rfl info38 ?_ | refine wpList_store_row rfl 38 _ _ rfl q1 _ rfl rfl 38 _ Q2.out info38 (by rfl) (Fl.one _) ?_ | fail)
        refine bodyPost_ret (results_c rfl _ _ q1 38 _ (0, 0) _ rfl (setRow_heap _ q1 _ _ 38 (0, 0) Q2.out) Tryz.underlying38 rfl (by kernel_rfl)) rfl ?_
        rw [← HD.out]
        exact ⟨rfl, H2.out.row4 HQ.out.2.2 Q2.out, T2.out.trans (touch_row _ _ _) (fun i hi e => by have := HQ.out; omega)⟩
    by_cases h115 : x = 115
    · subst h115
      cases fs with
      | false =>
        rw [if_neg (fun e => absurd e.1 (by decide))] at HD
        rw [if_neg (fun e => absurd e.1 (by decide))] at HD
        rw [if_pos ⟨rfl, rfl⟩] at HD
        go_wp2_with fail
        refine KL.out.mono ?_
        rintro e w2 ⟨rfl, t1⟩
        have H2 := hid (HK.out.new t1)
        have Q2 := hid ((t1.block q1 (lt_of_block BQ.out) id).trans BQ.out)
        have F2 := hid ((t1.block q2 (lt_of_block BF.out) id).trans BF.out)
        have T2 := hid (TK.out.trans t1 (fun _ _ e => e.elim))
        have hkl := HLT.out (by decide)
        have y2 : w2.cell? ⟨q2, 2, none⟩ = some (.bool false) := by unfold World.cell?; rw [F2.out]; rfl
        have g2 : w2.frozen? ⟨q2, 2, none⟩ = false := by unfold World.frozen?; rw [F2.out]; rfl
        have TS := touch_one w2 q2 2 (.bool true)
        have F3 := hid (show (w2.setCell ⟨q2, 2, none⟩ (.bool true)).heap[q2]? = some (.cells (Fl.arr ⟨fi, fm, true, fu⟩) 38 (0, 0)) from block_set F2.out 2 _)
        have H3 := hid (H2.out.cell4 (i := 2) (v := .bool true) (show b < q2 by have := HQ.out; omega) F2.out)
        have Q3 := hid ((TS.block q1 (lt_of_block Q2.out) (fun e => by have := HQ.out; omega)).trans Q2.out)
        have T3 := hid (T2.out.trans TS (fun i hi e => by have := HQ.out; omega))
        have c5 := H3.out.c5
        have f5 := H3.out.fr 5
        have e5 : ((kk + 1 : Nat) : Int) = (kk : Int) + 1 := by omega
        have TS2 := touch_one (w2.setCell ⟨q2, 2, none⟩ (.bool true)) b 5 (.int .i64 ((kk + 1 : Nat) : Int))
        have H4 := hid (H3.out.setk (kk + 1))
        have F4 := hid ((TS2.block q2 (lt_of_block F3.out) (fun e => by have := HQ.out; omega)).trans F3.out)
        have Q4 := hid ((TS2.block q1 (lt_of_block Q3.out) (fun e => by have := HQ.out; omega)).trans Q3.out)
        have T4 := hid (T3.out.trans TS2 (fun i hi e => e))
        rw [e5] at H4 F4 Q4 T4
        clear t1 KL HLT HK BQ BF TK TS TS2 e5
        go_wp2
        go_roundg n
        case measure => omega
        case rel => exact ⟨kk + 1, ⟨fi, fm, true, fu⟩, H4, Q4, F4, HD, hid (by have := HC.out; revert this; unfold Fl.cnt; dsimp only; simp only [Bool.toNat_true, Bool.toNat_false]; omega), hid hkl, T4⟩
      | true =>
        rw [if_neg (fun e => absurd e.1 (by decide))] at HD
        rw [if_neg (fun e => absurd e.1 (by decide))] at HD
        rw [if_neg (fun e => by cases e.2)] at HD
        rw [if_neg (fun e => absurd e.1 (by decide))] at HD
        go_wp2_with fail
        refine KL.out.mono ?_
        rintro e w2 ⟨rfl, t1⟩
        have H2 := hid (HK.out.new t1)
        have Q2 := hid ((t1.block q1 (lt_of_block BQ.out) id).trans BQ.out)
        have F2 := hid ((t1.block q2 (lt_of_block BF.out) id).trans BF.out)
        have T2 := hid (TK.out.trans t1 (fun _ _ e => e.elim))
        have y0 : w2.cell? ⟨q2, 0, none⟩ = some (.bool fi) := by unfold World.cell?; rw [F2.out]; rfl
        have y1 : w2.cell? ⟨q2, 1, none⟩ = some (.bool fm) := by unfold World.cell?; rw [F2.out]; rfl
        have y2 : w2.cell? ⟨q2, 2, none⟩ = some (.bool true) := by unfold World.cell?; rw [F2.out]; rfl
        have y3 : w2.cell? ⟨q2, 3, none⟩ = some (.bool fu) := by unfold World.cell?; rw [F2.out]; rfl
        clear t1 KL HLT HK BQ BF TK HC
        go_wp2_with (first | refine wpList_load_row rfl 38 _ rfl q2 rfl 38 _ (0, 0) _ F2.out Tryz.underlying38 rfl info38 ?_ | refine wpList_store_row rfl 38 _ _ rfl q1 _ rfl rfl 38 _ Q2.out info38 (by rfl) (Fl.one _) ?_ | fail)
        refine bodyPost_ret (results_c rfl _ _ q1 38 _ (0, 0) _ rfl (setRow_heap _ q1 _ _ 38 (0, 0) Q2.out) Tryz.underlying38 rfl (by kernel_rfl)) rfl ?_
        rw [← HD.out]
        exact ⟨rfl, H2.out.row4 HQ.out.2.2 Q2.out, T2.out.trans (touch_row _ _ _) (fun i hi e => by have := HQ.out; omega)⟩
    by_cases h85 : x = 85
    · subst h85
      cases fu with
      | false =>
        rw [if_neg (fun e => absurd e.1 (by decide))] at HD
        rw [if_neg (fun e => absurd e.1 (by decide))] at HD
        rw [if_neg (fun e => absurd e.1 (by decide))] at HD
        rw [if_pos ⟨rfl, rfl⟩] at HD
        go_wp2_with fail
        refine KL.out.mono ?_
        rintro e w2 ⟨rfl, t1⟩
        have H2 := hid (HK.out.new t1)
        have Q2 := hid ((t1.block q1 (lt_of_block BQ.out) id).trans BQ.out)
        have F2 := hid ((t1.block q2 (lt_of_block BF.out) id).trans BF.out)
        have T2 := hid (TK.out.trans t1 (fun _ _ e => e.elim))
        have hkl := HLT.out (by decide)
        have y3 : w2.cell? ⟨q2, 3, none⟩ = some (.bool false) := by unfold World.cell?; rw [F2.out]; rfl
        have g3 : w2.frozen? ⟨q2, 3, none⟩ = false := by unfold World.frozen?; rw [F2.out]; rfl
        have TS := touch_one w2 q2 3 (.bool true)
        have F3 := hid (show (w2.setCell ⟨q2, 3, none⟩ (.bool true)).heap[q2]? = some (.cells (Fl.arr ⟨fi, fm, fs, true⟩) 38 (0, 0)) from block_set F2.out 3 _)
        have H3 := hid (H2.out.cell4 (i := 3) (v := .bool true) (show b < q2 by have := HQ.out; omega) F2.out)
        have Q3 := hid ((TS.block q1 (lt_of_block Q2.out) (fun e => by have := HQ.out; omega)).trans Q2.out)
        have T3 := hid (T2.out.trans TS (fun i hi e => by have := HQ.out; omega))
        have c5 := H3.out.c5
        have f5 := H3.out.fr 5
        have e5 : ((kk + 1 : Nat) : Int) = (kk : Int) + 1 := by omega
        have TS2 := touch_one (w2.setCell ⟨q2, 3, none⟩ (.bool true)) b 5 (.int .i64 ((kk + 1 : Nat) : Int))
        have H4 := hid (H3.out.setk (kk + 1))
        have F4 := hid ((TS2.block q2 (lt_of_block F3.out) (fun e => by have := HQ.out; omega)).trans F3.out)
        have Q4 := hid ((TS2.block q1 (lt_of_block Q3.out) (fun e => by have := HQ.out; omega)).trans Q3.out)
        have T4 := hid (T3.out.trans TS2 (fun i hi e => e))
        rw [e5] at H4 F4 Q4 T4
        clear t1 KL HLT HK BQ BF TK TS TS2 e5
        go_wp2
        go_roundg n
        case measure => omega
        case rel => exact ⟨kk + 1, ⟨fi, fm, fs, true⟩, H4, Q4, F4, HD, hid (by have := HC.out; revert this; unfold Fl.cnt; dsimp only; simp only [Bool.toNat_true, Bool.toNat_false]; omega), hid hkl, T4⟩
      | true =>
        rw [if_neg (fun e => absurd e.1 (by decide))] at HD
        rw [if_neg (fun e => absurd e.1 (by decide))] at HD
        rw [if_neg (fun e => absurd e.1 (by decide))] at HD
        rw [if_neg (fun e => by cases e.2)] at HD
        go_wp2_with fail
        refine KL.out.mono ?_
        rintro e w2 ⟨rfl, t1⟩
        have H2 := hid (HK.out.new t1)
        have Q2 := hid ((t1.block q1 (lt_of_block BQ.out) id).trans BQ.out)
        have F2 := hid ((t1.block q2 (lt_of_block BF.out) id).trans BF.out)
        have T2 := hid (TK.out.trans t1 (fun _ _ e => e.elim))
        have y0 : w2.cell? ⟨q2, 0, none⟩ = some (.bool fi) := by unfold World.cell?; rw [F2.out]; rfl
        have y1 : w2.cell? ⟨q2, 1, none⟩ = some (.bool fm) := by unfold World.cell?; rw [F2.out]; rfl
        have y2 : w2.cell? ⟨q2, 2, none⟩ = some (.bool fs) := by unfold World.cell?; rw [F2.out]; rfl
        have y3 : w2.cell? ⟨q2, 3, none⟩ = some (.bool true) := by unfold World.cell?; rw [F2.out]; rfl
        clear t1 KL HLT HK BQ BF TK HC
        go_wp2_with (first | refine wpList_load_row rfl 38 _ rfl q2 rfl 38 _ (0, 0) _ F2.out Tryz.underlying38 rfl info38 ?_ | refine wpList_store_row rfl 38 _ _ rfl q1 _ rfl rfl 38 _ Q2.out info38 (by rfl) (Fl.one _) ?_ | fail)
        refine bodyPost_ret (results_c rfl _ _ q1 38 _ (0, 0) _ rfl (setRow_heap _ q1 _ _ 38 (0, 0) Q2.out) Tryz.underlying38 rfl (by kernel_rfl)) rfl ?_
        rw [← HD.out]
        exact ⟨rfl, H2.out.row4 HQ.out.2.2 Q2.out, T2.out.trans (touch_row _ _ _) (fun i hi e => by have := HQ.out; omega)⟩
    have b1 : (x == 105) = false := beq_eq_false_iff_ne.2 h105
    have b2 : (x == 109) = false := beq_eq_false_iff_ne.2 h109
    have b3 : (x == 115) = false := beq_eq_false_iff_ne.2 h115
    have b4 : (x == 85) = false := beq_eq_false_iff_ne.2 h85
    rw [if_neg (fun e => h105 e.1), if_neg (fun e => h109 e.1), if_neg (fun e => h115 e.1), if_neg (fun e => h85 e.1)] at HD
    go_wp2_with fail
    refine KL.out.mono ?_
    rintro e w2 ⟨rfl, t1⟩
    have H2 := hid (HK.out.new t1)
    have Q2 := hid ((t1.block q1 (lt_of_block BQ.out) id).trans BQ.out)
    have F2 := hid ((t1.block q2 (lt_of_block BF.out) id).trans BF.out)
    have T2 := hid (TK.out.trans t1 (fun _ _ e => e.elim))
    have y0 : w2.cell? ⟨q2, 0, none⟩ = some (.bool fi) := by unfold World.cell?; rw [F2.out]; rfl
    have y1 : w2.cell? ⟨q2, 1, none⟩ = some (.bool fm) := by unfold World.cell?; rw [F2.out]; rfl
    have y2 : w2.cell? ⟨q2, 2, none⟩ = some (.bool fs) := by unfold World.cell?; rw [F2.out]; rfl
    have y3 : w2.cell? ⟨q2, 3, none⟩ = some (.bool fu) := by unfold World.cell?; rw [F2.out]; rfl
    clear t1 KL HLT HK BQ BF TK HC
    go_wp2_with (first | refine wpList_load_row rfl 38 _ rfl q2 rfl 38 _ (0, 0) _ F2.out Tryz.underlying38 rfl info38 ?_ | refine wpList_store_row rfl 38 _ _ rfl q1 _ rfl rfl 38 _ Q2.out info38 (by rfl) (Fl.one _) ?_ | fail)
    refine bodyPost_ret (results_c rfl _ _ q1 38 _ (0, 0) _ rfl (setRow_heap _ q1 _ _ 38 (0, 0) Q2.out) Tryz.underlying38 rfl (by kernel_rfl)) rfl ?_
    rw [← HD.out]
    exact ⟨rfl, H2.out.row4 HQ.out.2.2 Q2.out, T2.out.trans (touch_row _ _ _) (fun i hi e => by have := HQ.out; omega)⟩
end Go.Proofs.YtdhhcefmmojcmaaGreatDoor
