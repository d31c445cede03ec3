/- Texts of this proof, one behind the other: what each says stands ahead of it. -/
import Derived.Test.YtffjkceedbblgaaGreatDoorM22
import Derived.Deep.RegionWith
import Derived.BigRegion
/- dynamicTables of an unpacker: what it comes to; no condition beside those told. -/
namespace Go.Proofs.YtffjkceedbblgaaGreatDoor
open Go.RowKit Go.Lib

theorem rs_set2 {w w1 : World} {r q : Nat} {s : ByteArray} {t : Nat} (h : RStep w w1 r s t) (hq : w.heap.size ≤ q) (hr : r ≠ q) (x y : Value) : RStep w ((w1.setCell ⟨q, 0, none⟩ x).setCell ⟨q, 1, none⟩ y) r s t :=
  ⟨(h.rd.setOther hr 0 x).setOther hr 1 y, (h.touch.setCell (p := ⟨q, 0, none⟩) (fun e => by simp at e; omega) x).setCell (p := ⟨q, 1, none⟩) (fun e => by simp at e; omega) y⟩

theorem to_ok (a a' : Option Addr) (ll ld cap cap' : Nat) (fl fd : Nat → Nat) (w : World) (hl : ll ≤ 1024) (hd : ld ≤ 1024) (hfl : ∀ i, fl i ≤ 15) (hfd : ∀ i, fd i ≤ 15) (hi : Ints w a ll (fun i => (fl i : Nat))) (hi' : Ints w a' ld (fun i => (fd i : Nat))) (h1 : errOf fl ll = 0) (h2 : errOf fd ld = 0) :
    Calls Tryz.prog 102 #[.slice a ll cap, .slice a' ld cap'] w fun e w' => ∃ bl bd, e = .returned (.tuple #[.agg #[.pointer (some ⟨bl, 0, none⟩), .pointer (some ⟨bd, 0, none⟩)], .int .i64 0]) ∧ Touch (fun _ => False) w w' ∧ TblIn w' bl fl ll w.heap.size w'.heap.size ∧ TblIn w' bd fd ld w.heap.size w'.heap.size := by
  refine (tablesOf_any a a' ll ld cap cap' fl fd w hl hd hfl hfd hi hi').mono ?_
  rintro e w' ⟨tc, ⟨_, _, bl, bd, he, h3, h4⟩ | ⟨h, _⟩ | ⟨_, h, _⟩⟩
  · exact ⟨bl, bd, he, tc, h3, h4⟩
  · exact absurd h1 h
  · exact absurd h2 h
theorem to_err (a a' : Option Addr) (ll ld cap cap' : Nat) (fl fd : Nat → Nat) (c : Nat) (w : World) (hl : ll ≤ 1024) (hd : ld ≤ 1024) (hfl : ∀ i, fl i ≤ 15) (hfd : ∀ i, fd i ≤ 15) (hi : Ints w a ll (fun i => (fl i : Nat))) (hi' : Ints w a' ld (fun i => (fd i : Nat))) (h0 : c ≠ 0) (h : c = if errOf fl ll ≠ 0 then errOf fl ll else errOf fd ld) :
    Calls Tryz.prog 102 #[.slice a ll cap, .slice a' ld cap'] w fun e w' => e = .returned (.tuple #[.agg #[.pointer none, .pointer none], .int .i64 (c : Nat)]) ∧ Touch (fun _ => False) w w' := by
  refine (tablesOf_any a a' ll ld cap cap' fl fd w hl hd hfl hfd hi hi').mono ?_
  rintro e w' ⟨tc, ⟨h1, h2, bl, bd, he, h3, h4⟩ | ⟨h1, he⟩ | ⟨h1, h2, he⟩⟩
  · rw [if_neg (by omega)] at h
    omega
  · rw [if_pos h1] at h
    rw [h]
    exact ⟨he, tc⟩
  · rw [if_neg (by omega)] at h
    rw [h]
    exact ⟨he, tc⟩

/-- What dynamicTables leaves. -/
def DyPost (s : ByteArray) (t r : Nat) (w : World) (e : Ending) (w' : World) : Prop :=
  ∃ er t' told, Inf.Dy s t er t' told ∧ t' ≤ 8 * s.size ∧ RStep w w' r s t' ∧
    ((er ≠ 0 ∧ e = .returned (.tuple #[.agg #[.pointer none, .pointer none], .int .i64 (er : Nat)])) ∨
     (er = 0 ∧ ∃ bl bd, e = .returned (.tuple #[.agg #[.pointer (some ⟨bl, 0, none⟩), .pointer (some ⟨bd, 0, none⟩)], .int .i64 0]) ∧
        TblIn w' bl (Inf.litOf told (Inf.dyL s t)) (Inf.dyL s t) w.heap.size w'.heap.size ∧ TblIn w' bd (Inf.disOf told (Inf.dyL s t) (Inf.dyD s t)) (Inf.dyD s t) w.heap.size w'.heap.size))

theorem head1 {s : ByteArray} {t : Nat} (h : 8 * s.size < t + 5) : Inf.dyHead s t = some (3, t) := by unfold Inf.dyHead; rw [if_pos h]
theorem head2 {s : ByteArray} {t : Nat} (h : ¬ 8 * s.size < t + 5) (h1 : 8 * s.size < t + 10) : Inf.dyHead s t = some (3, t + 5) := by unfold Inf.dyHead; rw [if_neg h, if_pos h1]
theorem head3 {s : ByteArray} {t : Nat} (h : ¬ 8 * s.size < t + 10) (h1 : 8 * s.size < t + 14) : Inf.dyHead s t = some (3, t + 10) := by unfold Inf.dyHead; rw [if_neg (by omega), if_neg h, if_pos h1]
theorem head4 {s : ByteArray} {t : Nat} (h : ¬ 8 * s.size < t + 14) (h1 : 29 < Bt.rval s t 5 ∨ 29 < Bt.rval s (t + 5) 5) : Inf.dyHead s t = some (5, t + 14) := by unfold Inf.dyHead; rw [if_neg (by omega), if_neg (by omega), if_neg h, if_pos h1]
theorem head5 {s : ByteArray} {t : Nat} (h : ¬ 8 * s.size < t + 14) (h1 : ¬ (29 < Bt.rval s t 5 ∨ 29 < Bt.rval s (t + 5) 5)) (h2 : 8 * s.size < t + 14 + 3 * (Bt.rval s (t + 10) 4 + 4)) : Inf.dyHead s t = some (3, t + 14 + 3 * ((8 * s.size - (t + 14)) / 3)) := by unfold Inf.dyHead; rw [if_neg (by omega), if_neg (by omega), if_neg h, if_neg h1, if_pos h2]
theorem head6 {s : ByteArray} {t : Nat} (h : ¬ 8 * s.size < t + 14) (h1 : ¬ (29 < Bt.rval s t 5 ∨ 29 < Bt.rval s (t + 5) 5)) (h2 : ¬ 8 * s.size < t + 14 + 3 * (Bt.rval s (t + 10) 4 + 4)) (h3 : errOf (Inf.lens3 s (t + 14) (Bt.rval s (t + 10) 4 + 4)) 19 ≠ 0) :
    Inf.dyHead s t = some (errOf (Inf.lens3 s (t + 14) (Bt.rval s (t + 10) 4 + 4)) 19, t + 14 + 3 * (Bt.rval s (t + 10) 4 + 4)) := by unfold Inf.dyHead; rw [if_neg (by omega), if_neg (by omega), if_neg h, if_neg h1, if_neg h2, if_pos h3]
theorem head7 {s : ByteArray} {t : Nat} (h : ¬ 8 * s.size < t + 14) (h1 : ¬ (29 < Bt.rval s t 5 ∨ 29 < Bt.rval s (t + 5) 5)) (h2 : ¬ 8 * s.size < t + 14 + 3 * (Bt.rval s (t + 10) 4 + 4)) (h3 : ¬ errOf (Inf.lens3 s (t + 14) (Bt.rval s (t + 10) 4 + 4)) 19 ≠ 0) :
    Inf.dyHead s t = none := by unfold Inf.dyHead; rw [if_neg (by omega), if_neg (by omega), if_neg h, if_neg h1, if_neg h2, if_neg h3]

set_option maxRecDepth 100000 in
set_option maxHeartbeats 4000000 in
theorem dynamicTables_any (ub r : Nat) (v : Value) (out : List Nat) (most : Int) (tl td : Option Addr) (s : ByteArray) (t : Nat) (w : World) (h : Up w ub r v out most tl td) (hr : Rd w r s t) (hs : s.size ≤ 140737488351232) (ht : t ≤ 8 * s.size) :
    Calls Tryz.prog 93 #[.pointer (some ⟨ub, 0, none⟩)] w (DyPost s t r w) := by
  have hrl := hr.lt
  obtain ⟨q, hq⟩ : ∃ q, q = w.heap.size := ⟨_, rfl⟩
  have FB0 := hid (show (w.alloc (.cells #[.pointer none, .pointer none] 146)).heap[q]? = some (.cells #[.pointer none, .pointer none] 146 (0, 0)) by
    rw [hq]
    show (w.heap.push _)[_]? = _
    simp)
  have RS0 := hid (show RStep w (w.alloc (.cells #[.pointer none, .pointer none] 146)) r s t from ⟨hr.alloc _, (Touch.refl _ w).alloc _⟩)
  have hrq : r ≠ q := by omega
  have HU := hid h
  have HR := hid hr
  have HQ := hid hq
  have U0 := hid (h.reads hr RS0.out.touch)
  have c0 := (up_cells U0.out).1
  have k0 := cell_two0 FB0.out
  have k1 := cell_two1 FB0.out
  have kf0 := free_two (i := 0) FB0.out
  have kf1 := free_two (i := 1) FB0.out
  clear h hr
  go_enter Tryz.func93, Tryz.ntmps93
  go_wp2_with fail
  rw [← hq]
  clear hq
  generalize w.alloc (.cells #[.pointer none, .pointer none] 146) = w0 at *
  by_cases a1 : 8 * s.size < t + 5
  · refine (take_end r s (t) 5 w0 RS0.out.rd (by omega) (by decide) (by omega) (by omega)).mono ?_
    rintro e w1 ⟨rfl, sti⟩
    have st := sti.rstep RS0.out.rd
    have RS1 := hid (RS0.out.trans st)
    have FB1 := hid (show w1.heap[q]? = some (.cells #[.pointer none, .pointer none] 146 (0, 0)) by rw [st.touch.block q (lt_of_block FB0.out) (fun e => hrq e.symm)]; exact FB0.out)
    have k0 := cell_two0 FB1.out
    have k1 := cell_two1 FB1.out
    have kf0 := free_two (i := 0) FB1.out
    have kf1 := free_two (i := 1) FB1.out
    clear sti st
    go_wp2
    have hfb := two_set1 (x := .pointer none) (two_set0 (x := .pointer none) (w := w1) FB1.out)
    refine bodyPost_ret (results_ct rfl _ _ q 146 _ (0, 0) _ rfl hfb Tryz.underlying146 rfl (by kernel_rfl)) rfl ?_
    exact ⟨3, t, [], .head 3 (t) (head1 (by omega)), by omega, rs_set2 RS1.out (by have := HQ.out; omega) hrq _ _, .inl ⟨by first | decide | exact by decide, rfl⟩⟩
  have hb1 := Bt.rval_lt s (t) 5
  refine (take_yes r s (t) 5 w0 RS0.out.rd (by omega) (by decide) (by omega)).mono ?_
  rintro e w1 ⟨rfl, st⟩
  have RS1 := hid (RS0.out.trans st)
  have FB1 := hid (show w1.heap[q]? = some (.cells #[.pointer none, .pointer none] 146 (0, 0)) by rw [st.touch.block q (lt_of_block FB0.out) (fun e => hrq e.symm)]; exact FB0.out)
  have k0 := cell_two0 FB1.out
  have k1 := cell_two1 FB1.out
  have kf0 := free_two (i := 0) FB1.out
  have kf1 := free_two (i := 1) FB1.out
  have U1 := hid (HU.out.reads HR.out RS1.out.touch)
  have c0 := (up_cells U1.out).1
  obtain ⟨L, hL⟩ : ∃ L, L = Bt.rval s (t) 5 := ⟨_, rfl⟩
  rw [← hL] at hb1 ⊢
  have HL := hid hL
  clear st hL
  go_wp2_with fail
  by_cases a2 : 8 * s.size < t + 5 + 5
  · refine (take_end r s (t + 5) 5 w1 RS1.out.rd (by omega) (by decide) (by omega) (by omega)).mono ?_
    rintro e w2 ⟨rfl, sti⟩
    have st := sti.rstep RS1.out.rd
    have RS2 := hid (RS1.out.trans st)
    have FB2 := hid (show w2.heap[q]? = some (.cells #[.pointer none, .pointer none] 146 (0, 0)) by rw [st.touch.block q (lt_of_block FB1.out) (fun e => hrq e.symm)]; exact FB1.out)
    have k0 := cell_two0 FB2.out
    have k1 := cell_two1 FB2.out
    have kf0 := free_two (i := 0) FB2.out
    have kf1 := free_two (i := 1) FB2.out
    clear sti st
    go_wp2
    have hfb := two_set1 (x := .pointer none) (two_set0 (x := .pointer none) (w := w2) FB2.out)
    refine bodyPost_ret (results_ct rfl _ _ q 146 _ (0, 0) _ rfl hfb Tryz.underlying146 rfl (by kernel_rfl)) rfl ?_
    exact ⟨3, t + 5, [], .head 3 (t + 5) (head2 (by omega) (by omega)), by omega, rs_set2 RS2.out (by have := HQ.out; omega) hrq _ _, .inl ⟨by first | decide | exact by decide, rfl⟩⟩
  have hb2 := Bt.rval_lt s (t + 5) 5
  refine (take_yes r s (t + 5) 5 w1 RS1.out.rd (by omega) (by decide) (by omega)).mono ?_
  rintro e w2 ⟨rfl, st⟩
  have RS2 := hid (RS1.out.trans st)
  have FB2 := hid (show w2.heap[q]? = some (.cells #[.pointer none, .pointer none] 146 (0, 0)) by rw [st.touch.block q (lt_of_block FB1.out) (fun e => hrq e.symm)]; exact FB1.out)
  have k0 := cell_two0 FB2.out
  have k1 := cell_two1 FB2.out
  have kf0 := free_two (i := 0) FB2.out
  have kf1 := free_two (i := 1) FB2.out
  have U2 := hid (HU.out.reads HR.out RS2.out.touch)
  have c0 := (up_cells U2.out).1
  obtain ⟨D, hD⟩ : ∃ D, D = Bt.rval s (t + 5) 5 := ⟨_, rfl⟩
  rw [← hD] at hb2 ⊢
  have HD := hid hD
  clear st hD
  go_wp2_with fail
  by_cases a3 : 8 * s.size < t + 5 + 5 + 4
  · refine (take_end r s (t + 5 + 5) 4 w2 RS2.out.rd (by omega) (by decide) (by omega) (by omega)).mono ?_
    rintro e w3 ⟨rfl, sti⟩
    have st := sti.rstep RS2.out.rd
    have RS3 := hid (RS2.out.trans st)
    have FB3 := hid (show w3.heap[q]? = some (.cells #[.pointer none, .pointer none] 146 (0, 0)) by rw [st.touch.block q (lt_of_block FB2.out) (fun e => hrq e.symm)]; exact FB2.out)
    have k0 := cell_two0 FB3.out
    have k1 := cell_two1 FB3.out
    have kf0 := free_two (i := 0) FB3.out
    have kf1 := free_two (i := 1) FB3.out
    clear sti st
    go_wp2
    have hfb := two_set1 (x := .pointer none) (two_set0 (x := .pointer none) (w := w3) FB3.out)
    refine bodyPost_ret (results_ct rfl _ _ q 146 _ (0, 0) _ rfl hfb Tryz.underlying146 rfl (by kernel_rfl)) rfl ?_
    exact ⟨3, t + 5 + 5, [], .head 3 (t + 5 + 5) (head3 (by omega) (by omega)), by omega, rs_set2 RS3.out (by have := HQ.out; omega) hrq _ _, .inl ⟨by first | decide | exact by decide, rfl⟩⟩
  have hb3 := Bt.rval_lt s (t + 5 + 5) 4
  refine (take_yes r s (t + 5 + 5) 4 w2 RS2.out.rd (by omega) (by decide) (by omega)).mono ?_
  rintro e w3 ⟨rfl, st⟩
  have RS3 := hid (RS2.out.trans st)
  have FB3 := hid (show w3.heap[q]? = some (.cells #[.pointer none, .pointer none] 146 (0, 0)) by rw [st.touch.block q (lt_of_block FB2.out) (fun e => hrq e.symm)]; exact FB2.out)
  have k0 := cell_two0 FB3.out
  have k1 := cell_two1 FB3.out
  have kf0 := free_two (i := 0) FB3.out
  have kf1 := free_two (i := 1) FB3.out
  have U3 := hid (HU.out.reads HR.out RS3.out.touch)
  have c0 := (up_cells U3.out).1
  obtain ⟨C, hC⟩ : ∃ C, C = Bt.rval s (t + 5 + 5) 4 := ⟨_, rfl⟩
  rw [← hC] at hb3 ⊢
  have HC := hid hC
  clear st hC
  have P14 := hid (show t + 5 + 5 + 4 = t + 14 from rfl)
  have ha14 : ¬ 8 * s.size < t + 14 := by omega
  by_cases hbig : 29 < L ∨ 29 < D
  · have DY := hid (Inf.Dy.head 5 (t + 14) (head4 ha14 (by rw [← HL.out, ← HD.out]; exact hbig)))
    rcases Nat.lt_or_ge 29 L with g | g
    · clear hbig
      go_wp2
      have hfb := two_set1 (x := .pointer none) (two_set0 (x := .pointer none) (w := w3) FB3.out)
      refine bodyPost_ret (results_ct rfl _ _ q 146 _ (0, 0) _ rfl hfb Tryz.underlying146 rfl (by kernel_rfl)) rfl ?_
      exact ⟨5, t + 14, [], DY.out, by omega, rs_set2 RS3.out (by have := HQ.out; omega) hrq _ _, .inl ⟨by decide, rfl⟩⟩
    · have g2 : 29 < D := by omega
      clear hbig
      go_wp2
      have hfb := two_set1 (x := .pointer none) (two_set0 (x := .pointer none) (w := w3) FB3.out)
      refine bodyPost_ret (results_ct rfl _ _ q 146 _ (0, 0) _ rfl hfb Tryz.underlying146 rfl (by kernel_rfl)) rfl ?_
      exact ⟨5, t + 14, [], DY.out, by omega, rs_set2 RS3.out (by have := HQ.out; omega) hrq _ _, .inl ⟨by decide, rfl⟩⟩
  have hL29 : L ≤ 29 := by omega
  have hD29 : D ≤ 29 := by omega
  have HBIG := hid (show ¬ (29 < Bt.rval s t 5 ∨ 29 < Bt.rval s (t + 5) 5) by rw [← HL.out, ← HD.out]; exact hbig)
  clear hbig
  have LT := hid (lengthTable_any ub r v out most tl td s (t + 14) (C + 4) w3 U3.out RS3.out.rd hs (by omega) (by omega))
  go_wp2_with fail
  rw [show ((C : Int) + 4) = ((C + 4 : Nat) : Int) by omega]
  refine LT.out.mono ?_
  rintro e w4 hp
  rcases hp with ⟨hfit4, st, hres⟩ | ⟨hcut4, st, rfl⟩
  · have RS4 := hid (RS3.out.trans st)
    have FB4 := hid (show w4.heap[q]? = some (.cells #[.pointer none, .pointer none] 146 (0, 0)) by rw [st.touch.block q (lt_of_block FB3.out) (fun e => hrq e.symm)]; exact FB3.out)
    have k0 := cell_two0 FB4.out
    have k1 := cell_two1 FB4.out
    have kf0 := free_two (i := 0) FB4.out
    have kf1 := free_two (i := 1) FB4.out
    have U4 := hid (HU.out.reads HR.out RS4.out.touch)
    have c0 := (up_cells U4.out).1
    have hsz34 := st.touch.size
    have hsz03 := RS3.out.touch.size
    clear st LT
    rcases hres with ⟨he4, rfl⟩ | ⟨he4, bt, rfl, tbt⟩
    · have DY := hid (Inf.Dy.head _ _ (head6 ha14 HBIG.out (by rw [show t + 10 = t + 5 + 5 from rfl, ← HC.out]; omega) (by rw [show t + 10 = t + 5 + 5 from rfl, ← HC.out]; exact he4)))
      rw [show t + 10 = t + 5 + 5 from rfl, ← HC.out] at DY
      have HE4 := hid he4
      have hne : ((errOf (Inf.lens3 s (t + 14) (C + 4)) 19 : Int) != 0) = true := by simp; omega
      clear he4
      go_wp2
      have hfb := two_set1 (x := .pointer none) (two_set0 (x := .pointer none) (w := w4) FB4.out)
      refine bodyPost_ret (results_ct rfl _ _ q 146 _ (0, 0) _ rfl hfb Tryz.underlying146 rfl (by kernel_rfl)) rfl ?_
      exact ⟨_, t + 14 + 3 * (C + 4), [], DY.out, by omega, rs_set2 RS4.out (by have := HQ.out; omega) hrq _ _, .inl ⟨HE4.out, rfl⟩⟩
    · have TB := hid tbt
      have HE4 := hid he4
      have DN := hid (show Inf.dyHead s t = none from head7 ha14 HBIG.out (by rw [show t + 10 = t + 5 + 5 from rfl, ← HC.out]; omega) (by rw [show t + 10 = t + 5 + 5 from rfl, ← HC.out]; omega))
      have LN := hid (lengths_any ub r bt w3.heap.size w4.heap.size v out most tl td s (t + 14 + 3 * (C + 4)) (L + 257 + (D + 1)) (Inf.lens3 s (t + 14) (C + 4)) w4 U4.out RS4.out.rd hs hfit4 ⟨lens3_le s (t + 14) (C + 4), he4, by decide⟩ tbt (fun k h1 _ => by omega) (by omega))
      clear he4 tbt
      go_wp2_with fail
      rw [show ((L : Int) + 257 + ((D : Int) + 1)) = ((L + 257 + (D + 1) : Nat) : Int) by omega]
      refine LN.out.mono ?_
      rintro e w5 ⟨er, t5, told, hle, ht5, st, hres⟩
      have RS5 := hid (RS4.out.trans st)
      have FB5 := hid (show w5.heap[q]? = some (.cells #[.pointer none, .pointer none] 146 (0, 0)) by rw [st.touch.block q (lt_of_block FB4.out) (fun e => hrq e.symm)]; exact FB4.out)
      have k0 := cell_two0 FB5.out
      have k1 := cell_two1 FB5.out
      have kf0 := free_two (i := 0) FB5.out
      have kf1 := free_two (i := 1) FB5.out
      have hLL : Inf.dyL s t = L + 257 := by unfold Inf.dyL; rw [HL.out]
      have hDD : Inf.dyD s t = D + 1 := by unfold Inf.dyD; rw [HD.out]
      have hFF : Inf.dyF s t = Inf.lens3 s (t + 14) (C + 4) := by unfold Inf.dyF; rw [show t + 10 = t + 5 + 5 from rfl, ← HC.out]
      have hTT : Inf.dyT s t = t + 14 + 3 * (C + 4) := by unfold Inf.dyT; rw [show t + 10 = t + 5 + 5 from rfl, ← HC.out]
      have LE := hid (show Inf.Le (Inf.dyF s t) 19 s (Inf.dyL s t + Inf.dyD s t) (Inf.dyT s t) [] er t5 told by rw [hFF, hLL, hDD, hTT]; exact hle)
      have HLL := hid hLL
      have HDD := hid hDD
      clear st LN hle hLL hDD hFF hTT
      rcases hres with ⟨he5, rfl⟩ | ⟨rfl, htl, hsm, a5, cap5, rfl, hi5, hcap⟩
      · have HE5 := hid he5
        have hne : ((er : Int) != 0) = true := by simp; omega
        clear he5
        go_wp2
        have hfb := two_set1 (x := .pointer none) (two_set0 (x := .pointer none) (w := w5) FB5.out)
        refine bodyPost_ret (results_ct rfl _ _ q 146 _ (0, 0) _ rfl hfb Tryz.underlying146 rfl (by kernel_rfl)) rfl ?_
        exact ⟨er, t5, [], .lens DN.out er t5 told LE.out HE5.out, by omega, rs_set2 RS5.out (by have := HQ.out; omega) hrq _ _, .inl ⟨HE5.out, rfl⟩⟩
      · obtain ⟨b5, o5, ha5, hb5, hcell5⟩ : ∃ b o, a5 = some ⟨b, o, none⟩ ∧ b < w5.heap.size ∧ ∀ i, i < told.length → w5.cell? ⟨b, o + i, none⟩ = some (.int .i64 ((told.getD i 0 : Nat) : Int)) := by
          rcases hi5 with h | h
          · omega
          · exact h
        subst ha5
        have d256 := hcell5 256 (by omega)
        obtain ⟨x256, hx256⟩ : ∃ x, x = told.getD 256 0 := ⟨_, rfl⟩
        rw [← hx256] at d256
        rw [htl] at hcap ⊢
        have HX := hid hx256
        have HTL := hid htl
        have HSM := hid hsm
        have HC5 := hid hcell5
        have DD := hid (Inf.Dy.done DN.out t5 told LE.out)
        rw [HLL.out, HDD.out] at DD
        clear hx256 htl hsm hcell5 hi5
        by_cases h0 : x256 = 0
        · have hz : ((x256 : Int) == 0) = true := by simp; omega
          have DY := hid (show Inf.Dy s t 5 t5 told by
            have := DD.out
            rw [show Inf.dyEnd (L + 257) (D + 1) told = 5 by unfold Inf.dyEnd; rw [if_pos (by rw [← HX.out]; exact h0)]] at this
            exact this)
          have H0 := hid h0
          clear h0
          go_wp2
          have hfb := two_set1 (x := .pointer none) (two_set0 (x := .pointer none) (w := w5) FB5.out)
          refine bodyPost_ret (results_ct rfl _ _ q 146 _ (0, 0) _ rfl hfb Tryz.underlying146 rfl (by kernel_rfl)) rfl ?_
          exact ⟨5, t5, told, DY.out, by omega, rs_set2 RS5.out (by have := HQ.out; omega) hrq _ _, .inl ⟨by decide, rfl⟩⟩
        · have hz : ((x256 : Int) == 0) = false := by simp; omega
          have H0 := hid h0
          clear h0
          have hw1 : IntKind.i64.wrap ((L : Int) + 257) = (L : Int) + 257 := by rw [IntKind.wrap_i64]; omega
          have g1 : (0 : Int) ≤ (L : Int) + 257 := by omega
          have g2 : (L : Int) + 257 ≤ (cap5 : Int) := by omega
          have g3 : (L : Int) + 257 ≤ ((L + 257 + (D + 1) : Nat) : Int) := by omega
          have g4 : ¬ cap5 = L + 257 := by omega
          have hbelow : ∀ i, told.getD i 0 ≤ 15 := fun i => by
            rw [List.getD_eq_getElem?_getD]
            cases hg : told[i]? with
            | none => decide
            | some y => exact HSM.out y (List.mem_of_getElem? hg)
          have hlit : ∀ i, Inf.litOf told (L + 257) i ≤ 15 := fun i => by unfold Inf.litOf; split <;> omega
          have hdis : ∀ i, Inf.disOf told (L + 257) (D + 1) i ≤ 15 := fun i => by unfold Inf.disOf; split <;> omega
          have I1 := hid (show Ints w5.drew (some ⟨b5, o5, none⟩) (L + 257) (fun i => ((Inf.litOf told (L + 257) i : Nat) : Int)) from .inr ⟨b5, o5, rfl, hb5, fun i hi => by
            have hh := HC5.out i (by have := HTL.out; omega)
            have e : Inf.litOf told (L + 257) i = told.getD i 0 := by unfold Inf.litOf; rw [if_pos hi, Nat.min_eq_left (hbelow i)]
            show w5.cell? _ = some (.int .i64 ((Inf.litOf told (L + 257) i : Nat) : Int))
            rw [e]
            exact hh⟩)
          have I2 := hid (show Ints w5.drew (some ⟨b5, o5 + (L + 257), none⟩) (D + 1) (fun i => ((Inf.disOf told (L + 257) (D + 1) i : Nat) : Int)) from .inr ⟨b5, o5 + (L + 257), rfl, hb5, fun i hi => by
            have hh := HC5.out (L + 257 + i) (by have := HTL.out; omega)
            have e : Inf.disOf told (L + 257) (D + 1) i = told.getD (L + 257 + i) 0 := by unfold Inf.disOf; rw [if_pos hi, Nat.min_eq_left (hbelow (L + 257 + i))]
            show w5.cell? _ = some (.int .i64 ((Inf.disOf told (L + 257) (D + 1) i : Nat) : Int))
            rw [e, Nat.add_assoc]
            exact hh⟩)
          have HLT := hid hlit
          have HDS := hid hdis
          clear hbelow hlit hdis
          have hqw5 : q < w5.heap.size := lt_of_block FB5.out
          have hsz5 := RS5.out.touch.size
          obtain ⟨c, hc⟩ : ∃ c, c = Inf.dyEnd (L + 257) (D + 1) told := ⟨_, rfl⟩
          have hce : c = if errOf (Inf.litOf told (L + 257)) (L + 257) ≠ 0 then errOf (Inf.litOf told (L + 257)) (L + 257) else errOf (Inf.disOf told (L + 257) (D + 1)) (D + 1) := by
            rw [hc]
            unfold Inf.dyEnd
            rw [if_neg (by rw [← HX.out]; exact H0.out)]
          rw [← hc] at DD
          have HCE := hid hce
          clear hc hce
          by_cases hc0 : c = 0
          · have hz2 : errOf (Inf.litOf told (L + 257)) (L + 257) = 0 ∧ errOf (Inf.disOf told (L + 257) (D + 1)) (D + 1) = 0 := by
              have := HCE.out
              split at this <;> omega
            have TO := hid (to_ok (some ⟨b5, o5, none⟩) (some ⟨b5, o5 + (L + 257), none⟩) (L + 257) (D + 1) cap5 (cap5 - (L + 257)) (Inf.litOf told (L + 257)) (Inf.disOf told (L + 257) (D + 1)) w5.drew (by omega) (by omega) HLT.out HDS.out I1.out I2.out hz2.1 hz2.2)
            have HC0 := hid hc0
            clear hz2 hc0
            go_wp2_with fail
            go_region_with (go_at_call 102; refine TO.out.mono ?_; rintro e w6 ⟨bl, bd, rfl, tc6, tbl, tbd⟩; have FB6 := hid (show w6.heap[q]? = some (.cells #[.pointer none, .pointer none] 146 (0, 0)) from (tc6.block q hqw5 id).trans FB5.out); have j0 := cell_two0 FB6.out; have j1 := cell_two1 FB6.out; have jf0 := free_two (i := 0) FB6.out; have jf1 := free_two (i := 1) FB6.out; have TC6 := hid tc6; have TL6 := hid tbl; have TD6 := hid tbd; clear tc6 tbl tbd)
            go_wp2
            have hfb := two_set1 (x := .pointer (some ⟨bd, 0, none⟩)) (two_set0 (x := .pointer (some ⟨bl, 0, none⟩)) (w := w6) FB6.out)
            refine bodyPost_ret (results_ct rfl _ _ q 146 _ (0, 0) _ rfl hfb Tryz.underlying146 rfl (by kernel_rfl)) rfl ?_
            have RS6 : RStep w w6 r s t5 := ⟨by
              have := RS5.out.rd
              unfold Rd at this ⊢
              rw [TC6.out.block r (lt_of_block this) id]
              exact this, RS5.out.touch.drew.trans (TC6.out.mono (S' := fun k => k = r) (fun _ _ e => e.elim)) (fun _ _ e => e)⟩
            have tks := ((Touch.refl (fun k => k = q) w6).setCell (p := ⟨q, 0, none⟩) (fun _ => rfl) (.pointer (some ⟨bl, 0, none⟩))).setCell (p := ⟨q, 1, none⟩) (fun _ => rfl) (.pointer (some ⟨bd, 0, none⟩))
            have hsz : ((w6.setCell ⟨q, 0, none⟩ (.pointer (some ⟨bl, 0, none⟩))).setCell ⟨q, 1, none⟩ (.pointer (some ⟨bd, 0, none⟩))).heap.size = w6.heap.size := by simp [World.setCell]
            refine ⟨0, t5, told, HC0.out ▸ DD.out, ht5, rs_set2 RS6 (by have := HQ.out; omega) hrq _ _, .inr ⟨rfl, bl, bd, rfl, ?_, ?_⟩⟩
            · rw [hsz, HLL.out]
              exact (TL6.out.kept tks (fun k h1 _ e => by have : w5.heap.size ≤ k := h1; omega)).wide hsz5 (Nat.le_refl _)
            · rw [hsz, HLL.out, HDD.out]
              exact (TD6.out.kept tks (fun k h1 _ e => by have : w5.heap.size ≤ k := h1; omega)).wide hsz5 (Nat.le_refl _)
          · have TO := hid (to_err (some ⟨b5, o5, none⟩) (some ⟨b5, o5 + (L + 257), none⟩) (L + 257) (D + 1) cap5 (cap5 - (L + 257)) (Inf.litOf told (L + 257)) (Inf.disOf told (L + 257) (D + 1)) c w5.drew (by omega) (by omega) HLT.out HDS.out I1.out I2.out hc0 HCE.out)
            have HC0 := hid hc0
            clear hc0
            go_wp2_with fail
            go_region_with (go_at_call 102; refine TO.out.mono ?_; rintro e w6 ⟨rfl, tc6⟩; have FB6 := hid (show w6.heap[q]? = some (.cells #[.pointer none, .pointer none] 146 (0, 0)) from (tc6.block q hqw5 id).trans FB5.out); have j0 := cell_two0 FB6.out; have j1 := cell_two1 FB6.out; have jf0 := free_two (i := 0) FB6.out; have jf1 := free_two (i := 1) FB6.out; have TC6 := hid tc6; clear tc6)
            go_wp2
            have hfb := two_set1 (x := .pointer none) (two_set0 (x := .pointer none) (w := w6) FB6.out)
            refine bodyPost_ret (results_ct rfl _ _ q 146 _ (0, 0) _ rfl hfb Tryz.underlying146 rfl (by kernel_rfl)) rfl ?_
            have RS6 : RStep w w6 r s t5 := ⟨by
              have := RS5.out.rd
              unfold Rd at this ⊢
              rw [TC6.out.block r (lt_of_block this) id]
              exact this, RS5.out.touch.drew.trans (TC6.out.mono (S' := fun k => k = r) (fun _ _ e => e.elim)) (fun _ _ e => e)⟩
            exact ⟨c, t5, told, DD.out, ht5, rs_set2 RS6 (by have := HQ.out; omega) hrq _ _, .inl ⟨HC0.out, rfl⟩⟩
  · have RS4 := hid (RS3.out.trans st)
    have FB4 := hid (show w4.heap[q]? = some (.cells #[.pointer none, .pointer none] 146 (0, 0)) by rw [st.touch.block q (lt_of_block FB3.out) (fun e => hrq e.symm)]; exact FB3.out)
    have k0 := cell_two0 FB4.out
    have k1 := cell_two1 FB4.out
    have kf0 := free_two (i := 0) FB4.out
    have kf1 := free_two (i := 1) FB4.out
    have DY := hid (Inf.Dy.head _ _ (head5 ha14 HBIG.out (by rw [show t + 10 = t + 5 + 5 from rfl, ← HC.out]; omega)))
    clear st LT
    go_wp2
    have hfb := two_set1 (x := .pointer none) (two_set0 (x := .pointer none) (w := w4) FB4.out)
    refine bodyPost_ret (results_ct rfl _ _ q 146 _ (0, 0) _ rfl hfb Tryz.underlying146 rfl (by kernel_rfl)) rfl ?_
    exact ⟨3, t + 14 + 3 * ((8 * s.size - (t + 14)) / 3), [], DY.out, by omega, rs_set2 RS4.out (by have := HQ.out; omega) hrq _ _, .inl ⟨by decide, rfl⟩⟩
end Go.Proofs.YtffjkceedbblgaaGreatDoor
