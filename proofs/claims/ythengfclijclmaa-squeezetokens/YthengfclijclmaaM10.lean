/- Texts of this proof, one behind the other: what each says stands ahead of it. -/
import Derived.Test.YthengfclijclmaaM9
/- again of an unpacker, where it errs, and in all cases; conditions: the tables are ones, what is unpacked fits into memory. -/
namespace Go.Proofs.Ythengfclijclmaa
open Go.RowKit Go.Lib

theorem lb_small (sym : Nat) (h : sym ≤ 285) : lb sym ≤ 13 := by unfold lb; split <;> omega
theorem lenN_small (sym : Nat) (h1 : 257 ≤ sym) (h : sym ≤ 285) : lenN sym ≤ 40000 := by
  unfold lenN
  split
  · omega
  · have := ll_le (sym - 257) (by omega)
    omega
theorem rval_13 (s : ByteArray) (t n : Nat) (h : n ≤ 13) : Bt.rval s t n < 8192 :=
  Nat.lt_of_lt_of_le (Bt.rval_lt s t n) (by have : 2 ^ n ≤ 2 ^ 13 := Nat.pow_le_pow_right (by decide) h; omega)

set_option maxRecDepth 100000 in
set_option maxHeartbeats 4000000 in
theorem again_none (ub r bd : Nat) (v : Value) (out : List Nat) (most : Nat) (tl td : Option Addr) (s : ByteArray) (t sym : Nat) (w : World) (h : Up w ub r v out most tl td) (hr : Rd w r s t) (hsym : 285 < sym) :
    Calls Try.prog 87 #[.pointer (some ⟨ub, 0, none⟩), .int .i64 (sym : Nat), .pointer (some ⟨bd, 0, none⟩)] w fun e w' => e = .returned (.int .i64 (5 : Nat)) ∧ UpDone w w' ub r v out most tl td s (t) := by
  have HU := hid h
  have HR := hid hr
  clear h hr
  go_enter Try.func87, Try.ntmps87
  go_wp2_with fail
  refine (len_out (sym : Int) w (by omega)).mono ?_
  rintro e w1 ⟨rfl, rfl⟩
  go_wp2_with fail
  refine (number_no ub 0 0 w1).mono ?_
  rintro e w2 ⟨rfl, rfl⟩
  go_wp2
  go_ret
  exact ⟨rfl, UpDone.refl HU.out HR.out⟩

set_option maxRecDepth 100000 in
set_option maxHeartbeats 4000000 in
theorem again_cut (ub r bd : Nat) (v : Value) (out : List Nat) (most : Nat) (tl td : Option Addr) (s : ByteArray) (t sym : Nat) (w : World) (h : Up w ub r v out most tl td) (hr : Rd w r s t) (hs : s.size ≤ 140737488351232) (ht : t ≤ 8 * s.size) (hs1 : 257 ≤ sym) (hsym : sym ≤ 285) (hc : 8 * s.size < t + lb sym) :
    Calls Try.prog 87 #[.pointer (some ⟨ub, 0, none⟩), .int .i64 (sym : Nat), .pointer (some ⟨bd, 0, none⟩)] w fun e w' => e = .returned (.int .i64 (3 : Nat)) ∧ UpDone w w' ub r v out most tl td s (t) := by
  have hlb := lb_small sym hsym
  have hlen := lenN_small sym hs1 hsym
  have K1 := hid (number_end ub r v out most tl td s t (lenN sym) (lb sym) w h hr (by omega) (by omega) ht hc hlen)
  have HU := hid h
  have HR := hid hr
  clear h hr
  go_enter Try.func87, Try.ntmps87
  go_wp2_with fail
  refine (len_in sym w hs1 hsym).mono ?_
  rintro e w1 ⟨rfl, rfl⟩
  go_wp2_with fail
  refine K1.out.mono ?_
  rintro e w2 ⟨rfl, st1⟩
  have ST := hid st1
  clear st1 K1
  go_wp2
  go_ret
  exact ⟨rfl, UpDone.reads HU.out HR.out (ST.out.rstep HR.out)⟩

set_option maxRecDepth 100000 in
set_option maxHeartbeats 4000000 in
theorem again_next (ub r bd lo hi : Nat) (v : Value) (out : List Nat) (most : Nat) (tl td : Option Addr) (s : ByteArray) (t sym : Nat) (fd : Nat → Nat) (ld : Nat) (w : World) (h : Up w ub r v out most tl td) (hr : Rd w r s t) (hs : s.size ≤ 140737488351232) (_ht : t ≤ 8 * s.size)
    (hT : Inf.Tbl fd ld) (hB : TblIn w bd fd ld lo hi) (hap : ∀ k, lo ≤ k → k < hi → k ≠ r) (hs1 : 257 ≤ sym) (_hm1 : most ≤ 9223372036854775807) (_hl : out.length ≤ 70368744177664) (hsym : sym ≤ 285) (ht1 : t + lb sym ≤ 8 * s.size) (er i t1 : Nat) (hn : Inf.nx fd ld s (t + lb sym) = (er, i, t1)) (her : er ≠ 0) :
    Calls Try.prog 87 #[.pointer (some ⟨ub, 0, none⟩), .int .i64 (sym : Nat), .pointer (some ⟨bd, 0, none⟩)] w fun e w' => e = .returned (.int .i64 (er : Nat)) ∧ UpDone w w' ub r v out most tl td s (t + lb sym) := by
  have hlb := lb_small sym hsym
  have hlen := lenN_small sym hs1 hsym
  have K1 := hid (number_yes ub r v out most tl td s t (lenN sym) (lb sym) w h hr (by omega) (by omega) ht1 hlen)
  have hrv1 := rval_13 s t (lb sym) hlb
  have HU := hid h
  have HR := hid hr
  have HB := hid hB
  have HAP := hid hap
  obtain ⟨n, hnn⟩ : ∃ n, n = lenN sym + Bt.rval s t (lb sym) := ⟨_, rfl⟩
  rw [← hnn] at K1
  have hnb : n ≤ 50000 := by omega
  have HNN := hid hnn
  clear h hr hB hap hrv1 hnn
  go_enter Try.func87, Try.ntmps87
  go_wp2_with fail
  refine (len_in sym w hs1 hsym).mono ?_
  rintro e w1 ⟨rfl, rfl⟩
  go_wp2_with fail
  refine K1.out.mono ?_
  rintro e w2 ⟨rfl, st1⟩
  have U2 := hid (HU.out.reads HR.out st1.touch)
  have R2 := hid st1.rd
  have ST2 := hid st1
  have c2 := (up_cells U2.out).1
  have B2 := hid (HB.out.kept st1.touch (fun k h1 h2 e => HAP.out k h1 h2 e))
  have N2 := hid (next_nx bd r (t + lb sym) lo hi fd ld s w2 hT B2.out st1.rd (by omega) ht1)
  rw [hn] at N2
  clear st1 K1
  have het : t1 = t + lb sym := ((Inf.nx_fits hn ht1).2.2.2.1 her).1
  rw [het] at N2
  have hne : ((er : Int) != 0) = true := by simp; omega
  go_wp2_with fail
  refine N2.out.mono ?_
  rintro e w3 ⟨rfl, st2⟩
  have ST3 := hid (ST2.out.trans st2)
  clear st2 N2 ST2 B2 c2
  go_wp2
  go_ret
  exact ⟨rfl, UpDone.reads HU.out HR.out ST3.out⟩

set_option maxRecDepth 100000 in
set_option maxHeartbeats 4000000 in
theorem again_bad (ub r bd lo hi : Nat) (v : Value) (out : List Nat) (most : Nat) (tl td : Option Addr) (s : ByteArray) (t sym : Nat) (fd : Nat → Nat) (ld : Nat) (w : World) (h : Up w ub r v out most tl td) (hr : Rd w r s t) (hs : s.size ≤ 140737488351232) (_ht : t ≤ 8 * s.size)
    (hT : Inf.Tbl fd ld) (hB : TblIn w bd fd ld lo hi) (hap : ∀ k, lo ≤ k → k < hi → k ≠ r) (hs1 : 257 ≤ sym) (_hm1 : most ≤ 9223372036854775807) (_hl : out.length ≤ 70368744177664) (hsym : sym ≤ 285) (ht1 : t + lb sym ≤ 8 * s.size) (d t1 : Nat) (hn : Inf.nx fd ld s (t + lb sym) = (0, d, t1)) (hd : 29 < d) :
    Calls Try.prog 87 #[.pointer (some ⟨ub, 0, none⟩), .int .i64 (sym : Nat), .pointer (some ⟨bd, 0, none⟩)] w fun e w' => e = .returned (.int .i64 (5 : Nat)) ∧ UpDone w w' ub r v out most tl td s (t1) := by
  have hlb := lb_small sym hsym
  have hlen := lenN_small sym hs1 hsym
  have K1 := hid (number_yes ub r v out most tl td s t (lenN sym) (lb sym) w h hr (by omega) (by omega) ht1 hlen)
  have hrv1 := rval_13 s t (lb sym) hlb
  have HU := hid h
  have HR := hid hr
  have HB := hid hB
  have HAP := hid hap
  obtain ⟨n, hnn⟩ : ∃ n, n = lenN sym + Bt.rval s t (lb sym) := ⟨_, rfl⟩
  rw [← hnn] at K1
  have hnb : n ≤ 50000 := by omega
  have HNN := hid hnn
  clear h hr hB hap hrv1 hnn
  go_enter Try.func87, Try.ntmps87
  go_wp2_with fail
  refine (len_in sym w hs1 hsym).mono ?_
  rintro e w1 ⟨rfl, rfl⟩
  go_wp2_with fail
  refine K1.out.mono ?_
  rintro e w2 ⟨rfl, st1⟩
  have U2 := hid (HU.out.reads HR.out st1.touch)
  have R2 := hid st1.rd
  have ST2 := hid st1
  have c2 := (up_cells U2.out).1
  have B2 := hid (HB.out.kept st1.touch (fun k h1 h2 e => HAP.out k h1 h2 e))
  have N2 := hid (next_nx bd r (t + lb sym) lo hi fd ld s w2 hT B2.out st1.rd (by omega) ht1)
  rw [hn] at N2
  clear st1 K1
  go_wp2_with fail
  refine N2.out.mono ?_
  rintro e w3 ⟨rfl, st2⟩
  have U3 := hid (U2.out.reads R2.out st2.touch)
  have R3 := hid st2.rd
  have ST3 := hid (ST2.out.trans st2)
  have c3 := (up_cells U3.out).1
  clear st2 N2 ST2 B2 c2
  go_wp2_with fail
  refine (dist_out (d : Int) w3 (by omega)).mono ?_
  rintro e w4 ⟨rfl, rfl⟩
  go_wp2_with fail
  refine (number_no ub 0 0 w4).mono ?_
  rintro e w5 ⟨rfl, rfl⟩
  go_wp2
  go_ret
  exact ⟨rfl, UpDone.reads HU.out HR.out ST3.out⟩

set_option maxRecDepth 100000 in
set_option maxHeartbeats 4000000 in
theorem again_cut2 (ub r bd lo hi : Nat) (v : Value) (out : List Nat) (most : Nat) (tl td : Option Addr) (s : ByteArray) (t sym : Nat) (fd : Nat → Nat) (ld : Nat) (w : World) (h : Up w ub r v out most tl td) (hr : Rd w r s t) (hs : s.size ≤ 140737488351232) (_ht : t ≤ 8 * s.size)
    (hT : Inf.Tbl fd ld) (hB : TblIn w bd fd ld lo hi) (hap : ∀ k, lo ≤ k → k < hi → k ≠ r) (hs1 : 257 ≤ sym) (_hm1 : most ≤ 9223372036854775807) (_hl : out.length ≤ 70368744177664) (hsym : sym ≤ 285) (ht1 : t + lb sym ≤ 8 * s.size) (d t1 : Nat) (hn : Inf.nx fd ld s (t + lb sym) = (0, d, t1)) (hd : d ≤ 29) (ht2 : 8 * s.size < t1 + db d) :
    Calls Try.prog 87 #[.pointer (some ⟨ub, 0, none⟩), .int .i64 (sym : Nat), .pointer (some ⟨bd, 0, none⟩)] w fun e w' => e = .returned (.int .i64 (3 : Nat)) ∧ UpDone w w' ub r v out most tl td s (t1) := by
  have hlb := lb_small sym hsym
  have hlen := lenN_small sym hs1 hsym
  have K1 := hid (number_yes ub r v out most tl td s t (lenN sym) (lb sym) w h hr (by omega) (by omega) ht1 hlen)
  have hrv1 := rval_13 s t (lb sym) hlb
  have HU := hid h
  have HR := hid hr
  have HB := hid hB
  have HAP := hid hap
  obtain ⟨n, hnn⟩ : ∃ n, n = lenN sym + Bt.rval s t (lb sym) := ⟨_, rfl⟩
  rw [← hnn] at K1
  have hnb : n ≤ 50000 := by omega
  have HNN := hid hnn
  clear h hr hB hap hrv1 hnn
  go_enter Try.func87, Try.ntmps87
  go_wp2_with fail
  refine (len_in sym w hs1 hsym).mono ?_
  rintro e w1 ⟨rfl, rfl⟩
  go_wp2_with fail
  refine K1.out.mono ?_
  rintro e w2 ⟨rfl, st1⟩
  have U2 := hid (HU.out.reads HR.out st1.touch)
  have R2 := hid st1.rd
  have ST2 := hid st1
  have c2 := (up_cells U2.out).1
  have B2 := hid (HB.out.kept st1.touch (fun k h1 h2 e => HAP.out k h1 h2 e))
  have N2 := hid (next_nx bd r (t + lb sym) lo hi fd ld s w2 hT B2.out st1.rd (by omega) ht1)
  rw [hn] at N2
  clear st1 K1
  go_wp2_with fail
  refine N2.out.mono ?_
  rintro e w3 ⟨rfl, st2⟩
  have U3 := hid (U2.out.reads R2.out st2.touch)
  have R3 := hid st2.rd
  have ST3 := hid (ST2.out.trans st2)
  have c3 := (up_cells U3.out).1
  clear st2 N2 ST2 B2 c2
  go_wp2_with fail
  refine (dist_in d w3 hd).mono ?_
  rintro e w4 ⟨rfl, rfl⟩
  have hdb := db_le d (by omega)
  have hdl := dl_le d (by omega)
  have ht3 := (Inf.nx_fits hn ht1).1
  have K2 := hid (number_end ub r v out most tl td s t1 (dl d) (db d) w4 U3.out R3.out (by omega) (by omega) ht3 ht2 (by omega))
  go_wp2_with fail
  refine K2.out.mono ?_
  rintro e w5 ⟨rfl, st3⟩
  have ST5 := hid (ST3.out.trans (st3.rstep R3.out))
  clear st3 K2 ST3 c3
  go_wp2
  go_ret
  exact ⟨rfl, UpDone.reads HU.out HR.out ST5.out⟩

set_option maxRecDepth 100000 in
set_option maxHeartbeats 4000000 in
theorem again_far (ub r bd lo hi : Nat) (v : Value) (out : List Nat) (most : Nat) (tl td : Option Addr) (s : ByteArray) (t sym : Nat) (fd : Nat → Nat) (ld : Nat) (w : World) (h : Up w ub r v out most tl td) (hr : Rd w r s t) (hs : s.size ≤ 140737488351232) (_ht : t ≤ 8 * s.size)
    (hT : Inf.Tbl fd ld) (hB : TblIn w bd fd ld lo hi) (hap : ∀ k, lo ≤ k → k < hi → k ≠ r) (hs1 : 257 ≤ sym) (_hm1 : most ≤ 9223372036854775807) (_hl : out.length ≤ 70368744177664) (hsym : sym ≤ 285) (ht1 : t + lb sym ≤ 8 * s.size) (d t1 : Nat) (hn : Inf.nx fd ld s (t + lb sym) = (0, d, t1)) (hd : d ≤ 29) (ht2 : t1 + db d ≤ 8 * s.size) (hfar : out.length < dl d + Bt.rval s t1 (db d)) :
    Calls Try.prog 87 #[.pointer (some ⟨ub, 0, none⟩), .int .i64 (sym : Nat), .pointer (some ⟨bd, 0, none⟩)] w fun e w' => e = .returned (.int .i64 (9 : Nat)) ∧ UpDone w w' ub r v out most tl td s (t1 + db d) := by
  have hlb := lb_small sym hsym
  have hlen := lenN_small sym hs1 hsym
  have K1 := hid (number_yes ub r v out most tl td s t (lenN sym) (lb sym) w h hr (by omega) (by omega) ht1 hlen)
  have hrv1 := rval_13 s t (lb sym) hlb
  have HU := hid h
  have HR := hid hr
  have HB := hid hB
  have HAP := hid hap
  obtain ⟨n, hnn⟩ : ∃ n, n = lenN sym + Bt.rval s t (lb sym) := ⟨_, rfl⟩
  rw [← hnn] at K1
  have hnb : n ≤ 50000 := by omega
  have HNN := hid hnn
  clear h hr hB hap hrv1 hnn
  go_enter Try.func87, Try.ntmps87
  go_wp2_with fail
  refine (len_in sym w hs1 hsym).mono ?_
  rintro e w1 ⟨rfl, rfl⟩
  go_wp2_with fail
  refine K1.out.mono ?_
  rintro e w2 ⟨rfl, st1⟩
  have U2 := hid (HU.out.reads HR.out st1.touch)
  have R2 := hid st1.rd
  have ST2 := hid st1
  have c2 := (up_cells U2.out).1
  have B2 := hid (HB.out.kept st1.touch (fun k h1 h2 e => HAP.out k h1 h2 e))
  have N2 := hid (next_nx bd r (t + lb sym) lo hi fd ld s w2 hT B2.out st1.rd (by omega) ht1)
  rw [hn] at N2
  clear st1 K1
  go_wp2_with fail
  refine N2.out.mono ?_
  rintro e w3 ⟨rfl, st2⟩
  have U3 := hid (U2.out.reads R2.out st2.touch)
  have R3 := hid st2.rd
  have ST3 := hid (ST2.out.trans st2)
  have c3 := (up_cells U3.out).1
  clear st2 N2 ST2 B2 c2
  go_wp2_with fail
  refine (dist_in d w3 hd).mono ?_
  rintro e w4 ⟨rfl, rfl⟩
  have hdb := db_le d (by omega)
  have hdl := dl_le d (by omega)
  have hrv2 := rval_13 s t1 (db d) hdb
  have K2 := hid (number_yes ub r v out most tl td s t1 (dl d) (db d) w4 U3.out R3.out (by omega) (by omega) ht2 (by omega))
  obtain ⟨far, hff⟩ : ∃ far, far = dl d + Bt.rval s t1 (db d) := ⟨_, rfl⟩
  rw [← hff] at K2
  have hfb : far ≤ 60000 := by omega
  have HFF := hid hff
  clear hff hrv2
  go_wp2_with fail
  refine K2.out.mono ?_
  rintro e w5 ⟨rfl, st3⟩
  have U5 := hid (U3.out.reads R3.out st3.touch)
  have R5 := hid st3.rd
  have ST5 := hid (ST3.out.trans st3)
  have c5 := (up_cells U5.out).2.1
  clear st3 K2 ST3 c3 U2 R2 U3 R3
  obtain ⟨av, cv, hav⟩ := up_shape U5.out
  have hgt : (out.length : Int) < (far : Int) := by rw [HFF.out]; omega
  subst hav
  go_wp2
  go_ret
  exact ⟨rfl, UpDone.reads HU.out HR.out ST5.out⟩

set_option maxRecDepth 100000 in
set_option maxHeartbeats 4000000 in
theorem again_long (ub r bd lo hi : Nat) (v : Value) (out : List Nat) (most : Nat) (tl td : Option Addr) (s : ByteArray) (t sym : Nat) (fd : Nat → Nat) (ld : Nat) (w : World) (h : Up w ub r v out most tl td) (hr : Rd w r s t) (hs : s.size ≤ 140737488351232) (_ht : t ≤ 8 * s.size)
    (hT : Inf.Tbl fd ld) (hB : TblIn w bd fd ld lo hi) (hap : ∀ k, lo ≤ k → k < hi → k ≠ r) (hs1 : 257 ≤ sym) (hm1 : most ≤ 9223372036854775807) (hl : out.length ≤ 70368744177664) (hsym : sym ≤ 285) (ht1 : t + lb sym ≤ 8 * s.size) (d t1 : Nat) (hn : Inf.nx fd ld s (t + lb sym) = (0, d, t1)) (hd : d ≤ 29) (ht2 : t1 + db d ≤ 8 * s.size) (hfar : dl d + Bt.rval s t1 (db d) ≤ out.length) (hroom : most < out.length + (lenN sym + Bt.rval s t (lb sym))) :
    Calls Try.prog 87 #[.pointer (some ⟨ub, 0, none⟩), .int .i64 (sym : Nat), .pointer (some ⟨bd, 0, none⟩)] w fun e w' => e = .returned (.int .i64 (2 : Nat)) ∧ UpDone w w' ub r v out most tl td s (t1 + db d) := by
  have hlb := lb_small sym hsym
  have hlen := lenN_small sym hs1 hsym
  have K1 := hid (number_yes ub r v out most tl td s t (lenN sym) (lb sym) w h hr (by omega) (by omega) ht1 hlen)
  have hrv1 := rval_13 s t (lb sym) hlb
  have HU := hid h
  have HR := hid hr
  have HB := hid hB
  have HAP := hid hap
  obtain ⟨n, hnn⟩ : ∃ n, n = lenN sym + Bt.rval s t (lb sym) := ⟨_, rfl⟩
  rw [← hnn] at K1
  have hnb : n ≤ 50000 := by omega
  have HNN := hid hnn
  clear h hr hB hap hrv1 hnn
  go_enter Try.func87, Try.ntmps87
  go_wp2_with fail
  refine (len_in sym w hs1 hsym).mono ?_
  rintro e w1 ⟨rfl, rfl⟩
  go_wp2_with fail
  refine K1.out.mono ?_
  rintro e w2 ⟨rfl, st1⟩
  have U2 := hid (HU.out.reads HR.out st1.touch)
  have R2 := hid st1.rd
  have ST2 := hid st1
  have c2 := (up_cells U2.out).1
  have B2 := hid (HB.out.kept st1.touch (fun k h1 h2 e => HAP.out k h1 h2 e))
  have N2 := hid (next_nx bd r (t + lb sym) lo hi fd ld s w2 hT B2.out st1.rd (by omega) ht1)
  rw [hn] at N2
  clear st1 K1
  go_wp2_with fail
  refine N2.out.mono ?_
  rintro e w3 ⟨rfl, st2⟩
  have U3 := hid (U2.out.reads R2.out st2.touch)
  have R3 := hid st2.rd
  have ST3 := hid (ST2.out.trans st2)
  have c3 := (up_cells U3.out).1
  clear st2 N2 ST2 B2 c2
  go_wp2_with fail
  refine (dist_in d w3 hd).mono ?_
  rintro e w4 ⟨rfl, rfl⟩
  have hdb := db_le d (by omega)
  have hdl := dl_le d (by omega)
  have hrv2 := rval_13 s t1 (db d) hdb
  have K2 := hid (number_yes ub r v out most tl td s t1 (dl d) (db d) w4 U3.out R3.out (by omega) (by omega) ht2 (by omega))
  obtain ⟨far, hff⟩ : ∃ far, far = dl d + Bt.rval s t1 (db d) := ⟨_, rfl⟩
  rw [← hff] at K2
  have hfb : far ≤ 60000 := by omega
  have HFF := hid hff
  clear hff hrv2
  go_wp2_with fail
  refine K2.out.mono ?_
  rintro e w5 ⟨rfl, st3⟩
  have U5 := hid (U3.out.reads R3.out st3.touch)
  have R5 := hid st3.rd
  have ST5 := hid (ST3.out.trans st3)
  have c5 := (up_cells U5.out).2.1
  clear st3 K2 ST3 c3 U2 R2 U3 R3
  obtain ⟨av, cv, hav⟩ := up_shape U5.out
  have hgt : (far : Int) ≤ (out.length : Int) := by rw [HFF.out]; omega
  have HRM := hid (hasRoom_any ub r v out most tl td n w5 U5.out (by omega) (by omega) (by omega))
  have hdec : decide ((n : Int) ≤ (most : Int) - (out.length : Int)) = false := decide_eq_false (by rw [HNN.out]; omega)
  rw [hdec] at HRM
  clear hdec
  subst hav
  go_wp2_with fail
  refine HRM.out.mono ?_
  rintro e w6 ⟨rfl, st4⟩
  have D6 := hid ((UpDone.reads HU.out HR.out (ST5.out.trans (st4.rstep R5.out))))
  clear st4 HRM ST5 U5 R5 c5
  go_wp2
  go_ret
  exact ⟨rfl, D6.out⟩

theorem again_any (ub r bd lo hi : Nat) (v : Value) (out : List Nat) (most : Nat) (tl td : Option Addr) (s : ByteArray) (t sym : Nat) (fd : Nat → Nat) (ld : Nat) (w : World) (h : Up w ub r v out most tl td) (hr : Rd w r s t) (hs : s.size ≤ 140737488351232) (ht : t ≤ 8 * s.size)
    (hT : Inf.Tbl fd ld) (hB : TblIn w bd fd ld lo hi) (hap : ∀ k, lo ≤ k → k < hi → k ≠ r) (hs1 : 257 ≤ sym) (hm1 : most ≤ 9223372036854775807) (hl : out.length ≤ 70368744177664) :
    Calls Try.prog 87 #[.pointer (some ⟨ub, 0, none⟩), .int .i64 (sym : Nat), .pointer (some ⟨bd, 0, none⟩)] w fun e w' => e = .returned (.int .i64 ((Inf.ag fd ld s most sym t out).1 : Nat)) ∧ UpDone w w' ub r v (Inf.ag fd ld s most sym t out).2.2 most tl td s (Inf.ag fd ld s most sym t out).2.1 := by
  unfold Inf.ag
  by_cases c1 : 285 < sym
  · rw [if_pos c1]
    exact again_none ub r bd v out most tl td s t sym w h hr c1
  rw [if_neg c1]
  by_cases c2 : 8 * s.size < t + lb sym
  · rw [if_pos c2]
    exact again_cut ub r bd v out most tl td s t sym w h hr hs ht hs1 (by omega) c2
  rw [if_neg c2]
  obtain ⟨er, d, t1, hn⟩ : ∃ er d t1, Inf.nx fd ld s (t + lb sym) = (er, d, t1) := ⟨_, _, _, rfl⟩
  simp only [hn]
  by_cases c3 : er ≠ 0
  · rw [if_pos c3]
    exact again_next ub r bd lo hi v out most tl td s t sym fd ld w h hr hs ht hT hB hap hs1 hm1 hl (by omega) (by omega) er d t1 hn c3
  rw [if_neg c3]
  obtain rfl : er = 0 := by omega
  by_cases c4 : 29 < d
  · rw [if_pos c4]
    exact again_bad ub r bd lo hi v out most tl td s t sym fd ld w h hr hs ht hT hB hap hs1 hm1 hl (by omega) (by omega) d t1 hn c4
  rw [if_neg c4]
  by_cases c5 : 8 * s.size < t1 + db d
  · rw [if_pos c5]
    exact again_cut2 ub r bd lo hi v out most tl td s t sym fd ld w h hr hs ht hT hB hap hs1 hm1 hl (by omega) (by omega) d t1 hn (by omega) c5
  rw [if_neg c5]
  by_cases c6 : out.length < dl d + Bt.rval s t1 (db d)
  · rw [if_pos c6]
    exact again_far ub r bd lo hi v out most tl td s t sym fd ld w h hr hs ht hT hB hap hs1 hm1 hl (by omega) (by omega) d t1 hn (by omega) (by omega) c6
  rw [if_neg c6]
  by_cases c7 : most < out.length + (lenN sym + Bt.rval s t (lb sym))
  · rw [if_pos c7]
    exact again_long ub r bd lo hi v out most tl td s t sym fd ld w h hr hs ht hT hB hap hs1 hm1 hl (by omega) (by omega) d t1 hn (by omega) (by omega) (by omega) c7
  rw [if_neg c7]
  exact again_ok ub r bd lo hi v out most tl td s t sym d t1 fd ld w h hr hs hT hB hap hs1 (by omega) (by omega) hn (by omega) (by omega) (by omega) (by omega) hm1 hl
end Go.Proofs.Ythengfclijclmaa

/- Plain facts: what is unpacked stays within its bounds; no condition beside those told. -/
namespace Go.Proofs.Ythengfclijclmaa
namespace Inf

/-- What is unpacked so far is within the bound, and no more than its bits can tell. -/
structure Bd (s : ByteArray) (most t : Nat) (out : List Nat) : Prop where
  most : out.length ≤ most
  bits : out.length ≤ 50000 * t
  small : ∀ x ∈ out, x < 256
  fits : t ≤ 8 * s.size

theorem Bd.later {s : ByteArray} {most t t' : Nat} {out : List Nat} (h : Bd s most t out) (ht : t ≤ t') (hf : t' ≤ 8 * s.size) : Bd s most t' out := ⟨h.most, by have := h.bits; omega, h.small, hf⟩

/-- It fits into memory. -/
theorem Bd.room {s : ByteArray} {most t : Nat} {out : List Nat} (h : Bd s most t out) (hc : most ≤ 70368744177664 ∨ 400000 * s.size ≤ 70368744177664) : out.length ≤ 70368744177664 := by
  have h1 := h.most
  have h2 := h.bits
  have h3 := h.fits
  omega

theorem ag_keeps {fd : Nat → Nat} {ld : Nat} {s : ByteArray} {most sym t : Nat} {out : List Nat} {e t2 : Nat} {out2 : List Nat} (h : ag fd ld s most sym t out = (e, t2, out2)) (hs : 257 ≤ sym) (hb : Bd s most t out) : Bd s most t2 out2 ∧ t ≤ t2 := by
  unfold ag at h
  by_cases c1 : 285 < sym
  · rw [if_pos c1] at h
    simp only [Prod.mk.injEq] at h
    obtain ⟨rfl, rfl, rfl⟩ := h
    exact ⟨hb, Nat.le_refl _⟩
  rw [if_neg c1] at h
  by_cases c2 : 8 * s.size < t + lb sym
  · rw [if_pos c2] at h
    simp only [Prod.mk.injEq] at h
    obtain ⟨rfl, rfl, rfl⟩ := h
    exact ⟨hb, Nat.le_refl _⟩
  rw [if_neg c2] at h
  obtain ⟨er, d, t1, hn⟩ : ∃ er d t1, nx fd ld s (t + lb sym) = (er, d, t1) := ⟨_, _, _, rfl⟩
  simp only [hn] at h
  have hf := nx_fits hn (by omega)
  by_cases c3 : er ≠ 0
  · rw [if_pos c3] at h
    simp only [Prod.mk.injEq] at h
    obtain ⟨rfl, rfl, rfl⟩ := h
    exact ⟨hb.later (by omega) (by omega), by omega⟩
  rw [if_neg c3] at h
  have hf1 := hf.2.2.1 (by omega)
  by_cases c4 : 29 < d
  · rw [if_pos c4] at h
    simp only [Prod.mk.injEq] at h
    obtain ⟨rfl, rfl, rfl⟩ := h
    exact ⟨hb.later (by omega) (by omega), by omega⟩
  rw [if_neg c4] at h
  by_cases c5 : 8 * s.size < t1 + db d
  · rw [if_pos c5] at h
    simp only [Prod.mk.injEq] at h
    obtain ⟨rfl, rfl, rfl⟩ := h
    exact ⟨hb.later (by omega) (by omega), by omega⟩
  rw [if_neg c5] at h
  by_cases c6 : out.length < dl d + Bt.rval s t1 (db d)
  · rw [if_pos c6] at h
    simp only [Prod.mk.injEq] at h
    obtain ⟨rfl, rfl, rfl⟩ := h
    exact ⟨hb.later (by omega) (by omega), by omega⟩
  rw [if_neg c6] at h
  by_cases c7 : most < out.length + (lenN sym + Bt.rval s t (lb sym))
  · rw [if_pos c7] at h
    simp only [Prod.mk.injEq] at h
    obtain ⟨rfl, rfl, rfl⟩ := h
    exact ⟨hb.later (by omega) (by omega), by omega⟩
  rw [if_neg c7] at h
  simp only [Prod.mk.injEq] at h
  obtain ⟨rfl, rfl, rfl⟩ := h
  have hl := length_again (dl d + Bt.rval s t1 (db d)) (lenN sym + Bt.rval s t (lb sym)) out
  have h1 := lenN_small sym hs (by omega)
  have h2 := rval_13 s t (lb sym) (lb_small sym (by omega))
  have h3 := hb.bits
  exact ⟨⟨by omega, by omega, again_small _ _ _ hb.small, by omega⟩, by omega⟩
end Inf
end Go.Proofs.Ythengfclijclmaa
