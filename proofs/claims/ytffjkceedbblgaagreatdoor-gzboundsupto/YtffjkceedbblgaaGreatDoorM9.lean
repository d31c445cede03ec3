/- Texts of this proof, one behind the other: what each says stands ahead of it. -/
import Derived.Test.YtffjkceedbblgaaGreatDoorM8
import Derived.Deep.RegionHeld3
import Derived.Deep.RegionLaw
import Derived.Deep.AppendLies
import Derived.Deep.LoopGhost
import Derived.BigRegion
/- again of an unpacker: what it comes to; conditions: the tables are ones, what is unpacked fits into memory. -/
namespace Go.Proofs.YtffjkceedbblgaaGreatDoor
open Go.RowKit Go.Lib

theorem own_cell {w : World} {g n cap : Nat} {out : List Nat} (h : w.ownsRow 0 5 1 (.slice (some ⟨g, 0, none⟩) n cap) n (bytesV out)) (i : Nat) (hi : i < out.length) : w.cell? ⟨g, i, none⟩ = some (.int .u8 ((out.getD i 0 : Nat) : Int)) := by
  have := h.cells (g := g) rfl i (.int .u8 ((out.getD i 0 : Nat) : Int)) (by
    unfold bytesV
    rw [List.getElem?_map, List.getElem?_eq_getElem hi, List.getD_eq_getElem?_getD, List.getElem?_eq_getElem hi]
    rfl)
  rwa [add_zero] at this

theorem again_more {w1 wr w2 : World} {ub r g cap g2 cap2 N x : Nat} {v : Value} {out : List Nat} {most : Int} {tl td : Option Addr} {s : ByteArray} {t : Nat} {o : Obj} (dn : UpDone w1 wr ub r v out most tl td s t) (h : Up wr ub r (.slice (some ⟨g, 0, none⟩) N cap) out most tl td) (hr : Rd wr r s t)
    (hg : (wr.alloc o).drew.grownBy w2 (some g)) (hown : w2.ownsRow 0 5 1 (.slice (some ⟨g2, 0, none⟩) (N + 1) cap2) (N + 1) (bytesV out ++ [.int .u8 (x : Nat)])) (hN : N = out.length) (hat : g2 = g ∨ g2 = wr.heap.size + 1) :
    UpDone w1 (w2.setCell ⟨ub, 1, none⟩ (.slice (some ⟨g2, 0, none⟩) (N + 1) cap2)) ub r v (out ++ [x]) most tl td s t := by
  refine dn.trans (fun v1 u1 r1 => ?_)
  have e1 := (up_cells u1).2.1
  have e2 := (up_cells h).2.1
  rw [e1] at e2
  simp only [Option.some.injEq] at e2
  subst e2
  refine up_grown h hr (o := o) ⟨hg.os, hg.tape, hg.output, hg.size, hg.block⟩ ?_ ?_
  · rw [List.length_append, List.length_singleton, ← hN]
    unfold bytesV at hown ⊢
    rw [List.map_append]
    exact hown
  · rcases hat with e | e
    · exact .inl (by rw [e]; rfl)
    · exact .inr (by rw [e]; rfl)

set_option maxRecDepth 100000 in
set_option maxHeartbeats 4000000 in
theorem again_ok (ub r bd lo hi : Nat) (v : Value) (out : List Nat) (most : Nat) (tl td : Option Addr) (s : ByteArray) (t sym d t1 : Nat) (fd : Nat → Nat) (ld : Nat) (w : World) (h : Up w ub r v out most tl td) (hr : Rd w r s t) (hs : s.size ≤ 140737488351232)
    (hT : Inf.Tbl fd ld) (hB : TblIn w bd fd ld lo hi) (hap : ∀ k, lo ≤ k → k < hi → k ≠ r) (hs1 : 257 ≤ sym) (hs2 : sym ≤ 285) (ht1 : t + lb sym ≤ 8 * s.size) (hn : Inf.nx fd ld s (t + lb sym) = (0, d, t1)) (hd : d ≤ 29) (ht2 : t1 + db d ≤ 8 * s.size)
    (hfar : dl d + Bt.rval s t1 (db d) ≤ out.length) (hroom : out.length + (lenN sym + Bt.rval s t (lb sym)) ≤ most) (hm1 : most ≤ 9223372036854775807) (hl : out.length ≤ 70368744177664) :
    Calls Tryz.prog 101 #[.pointer (some ⟨ub, 0, none⟩), .int .i64 (sym : Nat), .pointer (some ⟨bd, 0, none⟩)] w fun e w' => e = .returned (.int .i64 0) ∧ UpDone w w' ub r v (Inf.again (dl d + Bt.rval s t1 (db d)) (lenN sym + Bt.rval s t (lb sym)) out) most tl td s (t1 + db d) := by
  have hlb : lb sym ≤ 13 := by unfold lb; split <;> omega
  have hlen : lenN sym ≤ 40000 := by
    unfold lenN
    split
    · omega
    · have := ll_le (sym - 257) (by omega)
      omega
  have hdb := db_le d (by omega)
  have hdl := dl_le d (by omega)
  have K1 := hid (number_yes ub r v out most tl td s t (lenN sym) (lb sym) w h hr (by omega) (by omega) ht1 hlen)
  have hrv1 : Bt.rval s t (lb sym) < 8192 := Nat.lt_of_lt_of_le (Bt.rval_lt s t (lb sym)) (by have : 2 ^ lb sym ≤ 2 ^ 13 := Nat.pow_le_pow_right (by decide) hlb; omega)
  have hrv2 : Bt.rval s t1 (db d) < 8192 := Nat.lt_of_lt_of_le (Bt.rval_lt s t1 (db d)) (by have : 2 ^ db d ≤ 2 ^ 13 := Nat.pow_le_pow_right (by decide) hdb; omega)
  have HU := hid h
  have HR := hid hr
  have HB := hid hB
  have HAP := hid hap
  have hdl1 := dl_pos d
  obtain ⟨n, hnn⟩ : ∃ n, n = lenN sym + Bt.rval s t (lb sym) := ⟨_, rfl⟩
  obtain ⟨far, hff⟩ : ∃ far, far = dl d + Bt.rval s t1 (db d) := ⟨_, rfl⟩
  rw [← hnn] at hroom K1 ⊢
  rw [← hff] at hfar ⊢
  have hnb : n ≤ 50000 := by omega
  have hf1 : 1 ≤ far := by omega
  have hf2 : far ≤ 60000 := by omega
  have HFF := hid hff
  clear h hr hB hap hrv1 hrv2 hnn hff
  go_enter Tryz.func101, Tryz.ntmps101
  go_wp2_with fail
  refine (len_in sym w hs1 hs2).mono ?_
  rintro e w1 ⟨rfl, rfl⟩
  go_wp2_with fail
  refine K1.out.mono ?_
  rintro e w2 ⟨rfl, st1⟩
  have U2 := hid (HU.out.reads HR.out st1.touch)
  have R2 := hid st1.rd
  have ST2 := hid st1
  have c2 := (up_cells U2.out).1
  have B2 := hid (HB.out.kept st1.touch (fun k h1 h2 e => HAP.out k h1 h2 e))
  have N2 := hid (next_nx bd r (t + lb sym) lo hi fd ld s w2 hT B2.out st1.rd (by omega) ht1)
  rw [hn] at N2
  clear st1 K1
  go_wp2_with fail
  refine N2.out.mono ?_
  rintro e w3 ⟨rfl, st2⟩
  have U3 := hid (U2.out.reads R2.out st2.touch)
  have R3 := hid st2.rd
  have ST3 := hid (ST2.out.trans st2)
  have c3 := (up_cells U3.out).1
  clear st2 N2 ST2 B2 c2
  go_wp2_with fail
  refine (dist_in d w3 hd).mono ?_
  rintro e w4 ⟨rfl, rfl⟩
  have K2 := hid (number_yes ub r v out most tl td s t1 (dl d) (db d) w4 U3.out R3.out (by omega) (by omega) ht2 (by omega))
  rw [← HFF.out] at K2
  go_wp2_with fail
  refine K2.out.mono ?_
  rintro e w5 ⟨rfl, st3⟩
  have U5 := hid (U3.out.reads R3.out st3.touch)
  have R5 := hid st3.rd
  have ST5 := hid (ST3.out.trans st3)
  have c5 := (up_cells U5.out).2.1
  clear st3 K2 ST3 c3 U2 R2 U3 R3
  obtain ⟨av, cv, hav⟩ := up_shape U5.out
  have HRM := hid (hasRoom_any ub r v out most tl td n w5 U5.out (by omega) (by omega) (by omega))
  have hdec : decide ((n : Int) ≤ (most : Int) - (out.length : Int)) = true := decide_eq_true (by omega)
  rw [hdec] at HRM
  clear hdec
  subst hav
  go_wp2_with fail
  refine HRM.out.mono ?_
  rintro e w6 ⟨rfl, st4⟩
  have D6 := hid ((UpDone.reads HU.out HR.out (ST5.out.trans (st4.rstep R5.out))))
  clear st4 HRM ST5 U5 R5 c5
  go_wp2_with fail
  go_loopg [60] n (fun gk i wr => ∃ k : Nat, k + gk = n ∧ i = .int .i64 (k : Nat) ∧ UpDone w1 wr ub r (.slice av out.length cv) (Inf.again far k out) most tl td s (t1 + db d))
  case atStart => exact ⟨0, by omega, rfl, D6.out⟩
  case round =>
    obtain ⟨k, hk, rfl, hdone⟩ := hrel
    have DN := hid hdone
    obtain ⟨v1, u1, r1, tc1, o1⟩ := hdone
    have U1 := hid u1
    have R1 := hid r1
    clear u1 r1 tc1 o1
    by_cases hlt : k < n
    · have hlk := Inf.length_again far k out
      obtain ⟨g, cap, hv1, _, hg⟩ := U1.out.2.form (by omega)
      obtain ⟨N, hN⟩ : ∃ N, N = (Inf.again far k out).length := ⟨_, rfl⟩
      subst hv1
      have hcx := own_cell U1.out.2 (N - far) (by omega)
      have c1 := (up_cells U1.out).2.1
      have f1 : wr.frozen? ⟨ub, 1, none⟩ = false := by simp [World.frozen?, U1.out.1]
      obtain ⟨hne1, hne2, hne3⟩ := up_own U1.out R1.out
      have hown := U1.out.2
      obtain ⟨x, hx⟩ : ∃ x, x = (Inf.again far k out).getD (N - far) 0 := ⟨_, rfl⟩
      rw [← hx] at hcx
      rw [← hN] at c1 hown
      have HX := hid hx
      have HN := hid hN
      have hN1 : far ≤ N := by omega
      have hN2 : N ≤ 80000000000000 := by omega
      clear hx hN hlk
      have hge : ((N : Int) - (far : Int)) = ((N - far : Nat) : Int) := by omega
      obtain ⟨i0, hin, hz0, hz1, hz2⟩ := info_parts Tryz.info5
      have HGE := hid hge
      clear hge
      have hub := lt_of_block U1.out.1
      go_wp2_with fail
      obtain ⟨M, hM⟩ : ∃ M, M = N - far := ⟨_, rfl⟩
      have hwr : IntKind.i64.wrap ((N : Int) - (far : Int)) = (M : Int) := by rw [IntKind.wrap_i64]; omega
      have q1 : (0 : Int) ≤ (M : Int) := by omega
      have q2 : (M : Int) < (N : Int) := by omega
      rw [← hM] at hcx
      have HMM := hid hM
      clear hM
      have hgub : ub ≠ g := fun e => hne3 (by rw [e]; rfl)
      have hfz : ∀ o, (wr.alloc o).frozen? ⟨ub, 1, none⟩ = false := fun o => by rw [World.frozen?_of_block (w := wr) (Below.heap_alloc _ _ _ hub)]; exact f1
      have hca : ∀ o, (wr.alloc o).cell? ⟨ub, 1, none⟩ = some (.slice (some ⟨g, 0, none⟩) N cap) := fun o => by rw [World.cell?_of_block (w := wr) (Below.heap_alloc _ _ _ hub)]; exact c1
      go_region_law ((refine step_append_keep _ (by rfl) _ _ _ (by rfl) 5 i0 _ 1 Tryz.underlying36 hin hz0 hz1 hz2 rfl g N cap _ (by rfl) ((hown.alloc _).drew) ⟨wr.heap.size, 0, none⟩ 1 1 [.int .u8 (x : Nat)] (by rfl) (by rfl) (World.news_of_block (cs := #[.int .u8 (x : Nat)]) (t := 5) (fr := (0, 0)) (heap_alloc_new wr _)) (by simp [Value.oneCell']) (by omega) (by unfold maxLen; omega) (by omega) (wr.heap.size + 1) (by simp) ?_; intro g2 cap2 w2 hown2 hgrow hat hkeep; have k2 : w2.cell? ⟨ub, 1, none⟩ = some (.slice (some ⟨g, 0, none⟩) N cap) := (by rw [hgrow.cell_far _ (by simp; omega) (by simp; omega)]; simpa using hca _); have kf2 : w2.frozen? ⟨ub, 1, none⟩ = false := (by rw [hgrow.frozen_far _ (by simp; omega) (by simp; omega)]; simpa using hfz _)))
      all_goals
        rw [← HN.out] at U1
        have FIN := hid (again_more DN.out U1.out R1.out hgrow hown2 HN.out hat)
        clear hown2 hgrow hat hkeep
        go_wp2
        go_roundg (gk - 1)
        case measure => omega
        case rel =>
          refine ⟨k + 1, by omega, by go_num, ?_⟩
          rw [Inf.again_last, ← HN.out, ← HX.out]
          exact FIN.out
    · obtain rfl : k = n := by omega
      go_wp2
      go_ret
      exact ⟨rfl, DN.out⟩
end Go.Proofs.YtffjkceedbblgaaGreatDoor

/- again of an unpacker, where it errs, and in all cases; conditions: the tables are ones, what is unpacked fits into memory. -/
namespace Go.Proofs.YtffjkceedbblgaaGreatDoor
open Go.RowKit Go.Lib

theorem lb_small (sym : Nat) (h : sym ≤ 285) : lb sym ≤ 13 := by unfold lb; split <;> omega
theorem lenN_small (sym : Nat) (h1 : 257 ≤ sym) (h : sym ≤ 285) : lenN sym ≤ 40000 := by
  unfold lenN
  split
  · omega
  · have := ll_le (sym - 257) (by omega)
    omega
theorem rval_13 (s : ByteArray) (t n : Nat) (h : n ≤ 13) : Bt.rval s t n < 8192 :=
  Nat.lt_of_lt_of_le (Bt.rval_lt s t n) (by have : 2 ^ n ≤ 2 ^ 13 := Nat.pow_le_pow_right (by decide) h; omega)

set_option maxRecDepth 100000 in
set_option maxHeartbeats 4000000 in
theorem again_none (ub r bd : Nat) (v : Value) (out : List Nat) (most : Nat) (tl td : Option Addr) (s : ByteArray) (t sym : Nat) (w : World) (h : Up w ub r v out most tl td) (hr : Rd w r s t) (hsym : 285 < sym) :
    Calls Tryz.prog 101 #[.pointer (some ⟨ub, 0, none⟩), .int .i64 (sym : Nat), .pointer (some ⟨bd, 0, none⟩)] w fun e w' => e = .returned (.int .i64 (5 : Nat)) ∧ UpDone w w' ub r v out most tl td s (t) := by
  have HU := hid h
  have HR := hid hr
  clear h hr
  go_enter Tryz.func101, Tryz.ntmps101
  go_wp2_with fail
  refine (len_out (sym : Int) w (by omega)).mono ?_
  rintro e w1 ⟨rfl, rfl⟩
  go_wp2_with fail
  refine (number_no ub 0 0 w1).mono ?_
  rintro e w2 ⟨rfl, rfl⟩
  go_wp2
  go_ret
  exact ⟨rfl, UpDone.refl HU.out HR.out⟩

set_option maxRecDepth 100000 in
set_option maxHeartbeats 4000000 in
theorem again_cut (ub r bd : Nat) (v : Value) (out : List Nat) (most : Nat) (tl td : Option Addr) (s : ByteArray) (t sym : Nat) (w : World) (h : Up w ub r v out most tl td) (hr : Rd w r s t) (hs : s.size ≤ 140737488351232) (ht : t ≤ 8 * s.size) (hs1 : 257 ≤ sym) (hsym : sym ≤ 285) (hc : 8 * s.size < t + lb sym) :
    Calls Tryz.prog 101 #[.pointer (some ⟨ub, 0, none⟩), .int .i64 (sym : Nat), .pointer (some ⟨bd, 0, none⟩)] w fun e w' => e = .returned (.int .i64 (3 : Nat)) ∧ UpDone w w' ub r v out most tl td s (t) := by
  have hlb := lb_small sym hsym
  have hlen := lenN_small sym hs1 hsym
  have K1 := hid (number_end ub r v out most tl td s t (lenN sym) (lb sym) w h hr (by omega) (by omega) ht hc hlen)
  have HU := hid h
  have HR := hid hr
  clear h hr
  go_enter Tryz.func101, Tryz.ntmps101
  go_wp2_with fail
  refine (len_in sym w hs1 hsym).mono ?_
  rintro e w1 ⟨rfl, rfl⟩
  go_wp2_with fail
  refine K1.out.mono ?_
  rintro e w2 ⟨rfl, st1⟩
  have ST := hid st1
  clear st1 K1
  go_wp2
  go_ret
  exact ⟨rfl, UpDone.reads HU.out HR.out (ST.out.rstep HR.out)⟩

set_option maxRecDepth 100000 in
set_option maxHeartbeats 4000000 in
theorem again_next (ub r bd lo hi : Nat) (v : Value) (out : List Nat) (most : Nat) (tl td : Option Addr) (s : ByteArray) (t sym : Nat) (fd : Nat → Nat) (ld : Nat) (w : World) (h : Up w ub r v out most tl td) (hr : Rd w r s t) (hs : s.size ≤ 140737488351232) (_ht : t ≤ 8 * s.size)
    (hT : Inf.Tbl fd ld) (hB : TblIn w bd fd ld lo hi) (hap : ∀ k, lo ≤ k → k < hi → k ≠ r) (hs1 : 257 ≤ sym) (_hm1 : most ≤ 9223372036854775807) (_hl : out.length ≤ 70368744177664) (hsym : sym ≤ 285) (ht1 : t + lb sym ≤ 8 * s.size) (er i t1 : Nat) (hn : Inf.nx fd ld s (t + lb sym) = (er, i, t1)) (her : er ≠ 0) :
    Calls Tryz.prog 101 #[.pointer (some ⟨ub, 0, none⟩), .int .i64 (sym : Nat), .pointer (some ⟨bd, 0, none⟩)] w fun e w' => e = .returned (.int .i64 (er : Nat)) ∧ UpDone w w' ub r v out most tl td s (t + lb sym) := by
  have hlb := lb_small sym hsym
  have hlen := lenN_small sym hs1 hsym
  have K1 := hid (number_yes ub r v out most tl td s t (lenN sym) (lb sym) w h hr (by omega) (by omega) ht1 hlen)
  have hrv1 := rval_13 s t (lb sym) hlb
  have HU := hid h
  have HR := hid hr
  have HB := hid hB
  have HAP := hid hap
  obtain ⟨n, hnn⟩ : ∃ n, n = lenN sym + Bt.rval s t (lb sym) := ⟨_, rfl⟩
  rw [← hnn] at K1
  have hnb : n ≤ 50000 := by omega
  have HNN := hid hnn
  clear h hr hB hap hrv1 hnn
  go_enter Tryz.func101, Tryz.ntmps101
  go_wp2_with fail
  refine (len_in sym w hs1 hsym).mono ?_
  rintro e w1 ⟨rfl, rfl⟩
  go_wp2_with fail
  refine K1.out.mono ?_
  rintro e w2 ⟨rfl, st1⟩
  have U2 := hid (HU.out.reads HR.out st1.touch)
  have R2 := hid st1.rd
  have ST2 := hid st1
  have c2 := (up_cells U2.out).1
  have B2 := hid (HB.out.kept st1.touch (fun k h1 h2 e => HAP.out k h1 h2 e))
  have N2 := hid (next_nx bd r (t + lb sym) lo hi fd ld s w2 hT B2.out st1.rd (by omega) ht1)
  rw [hn] at N2
  clear st1 K1
  have het : t1 = t + lb sym := ((Inf.nx_fits hn ht1).2.2.2.1 her).1
  rw [het] at N2
  have hne : ((er : Int) != 0) = true := by simp; omega
  go_wp2_with fail
  refine N2.out.mono ?_
  rintro e w3 ⟨rfl, st2⟩
  have ST3 := hid (ST2.out.trans st2)
  clear st2 N2 ST2 B2 c2
  go_wp2
  go_ret
  exact ⟨rfl, UpDone.reads HU.out HR.out ST3.out⟩

set_option maxRecDepth 100000 in
set_option maxHeartbeats 4000000 in
theorem again_bad (ub r bd lo hi : Nat) (v : Value) (out : List Nat) (most : Nat) (tl td : Option Addr) (s : ByteArray) (t sym : Nat) (fd : Nat → Nat) (ld : Nat) (w : World) (h : Up w ub r v out most tl td) (hr : Rd w r s t) (hs : s.size ≤ 140737488351232) (_ht : t ≤ 8 * s.size)
    (hT : Inf.Tbl fd ld) (hB : TblIn w bd fd ld lo hi) (hap : ∀ k, lo ≤ k → k < hi → k ≠ r) (hs1 : 257 ≤ sym) (_hm1 : most ≤ 9223372036854775807) (_hl : out.length ≤ 70368744177664) (hsym : sym ≤ 285) (ht1 : t + lb sym ≤ 8 * s.size) (d t1 : Nat) (hn : Inf.nx fd ld s (t + lb sym) = (0, d, t1)) (hd : 29 < d) :
    Calls Tryz.prog 101 #[.pointer (some ⟨ub, 0, none⟩), .int .i64 (sym : Nat), .pointer (some ⟨bd, 0, none⟩)] w fun e w' => e = .returned (.int .i64 (5 : Nat)) ∧ UpDone w w' ub r v out most tl td s (t1) := by
  have hlb := lb_small sym hsym
  have hlen := lenN_small sym hs1 hsym
  have K1 := hid (number_yes ub r v out most tl td s t (lenN sym) (lb sym) w h hr (by omega) (by omega) ht1 hlen)
  have hrv1 := rval_13 s t (lb sym) hlb
  have HU := hid h
  have HR := hid hr
  have HB := hid hB
  have HAP := hid hap
  obtain ⟨n, hnn⟩ : ∃ n, n = lenN sym + Bt.rval s t (lb sym) := ⟨_, rfl⟩
  rw [← hnn] at K1
  have hnb : n ≤ 50000 := by omega
  have HNN := hid hnn
  clear h hr hB hap hrv1 hnn
  go_enter Tryz.func101, Tryz.ntmps101
  go_wp2_with fail
  refine (len_in sym w hs1 hsym).mono ?_
  rintro e w1 ⟨rfl, rfl⟩
  go_wp2_with fail
  refine K1.out.mono ?_
  rintro e w2 ⟨rfl, st1⟩
  have U2 := hid (HU.out.reads HR.out st1.touch)
  have R2 := hid st1.rd
  have ST2 := hid st1
  have c2 := (up_cells U2.out).1
  have B2 := hid (HB.out.kept st1.touch (fun k h1 h2 e => HAP.out k h1 h2 e))
  have N2 := hid (next_nx bd r (t + lb sym) lo hi fd ld s w2 hT B2.out st1.rd (by omega) ht1)
  rw [hn] at N2
  clear st1 K1
  go_wp2_with fail
  refine N2.out.mono ?_
  rintro e w3 ⟨rfl, st2⟩
  have U3 := hid (U2.out.reads R2.out st2.touch)
  have R3 := hid st2.rd
  have ST3 := hid (ST2.out.trans st2)
  have c3 := (up_cells U3.out).1
  clear st2 N2 ST2 B2 c2
  go_wp2_with fail
  refine (dist_out (d : Int) w3 (by omega)).mono ?_
  rintro e w4 ⟨rfl, rfl⟩
  go_wp2_with fail
  refine (number_no ub 0 0 w4).mono ?_
  rintro e w5 ⟨rfl, rfl⟩
  go_wp2
  go_ret
  exact ⟨rfl, UpDone.reads HU.out HR.out ST3.out⟩

set_option maxRecDepth 100000 in
set_option maxHeartbeats 4000000 in
theorem again_cut2 (ub r bd lo hi : Nat) (v : Value) (out : List Nat) (most : Nat) (tl td : Option Addr) (s : ByteArray) (t sym : Nat) (fd : Nat → Nat) (ld : Nat) (w : World) (h : Up w ub r v out most tl td) (hr : Rd w r s t) (hs : s.size ≤ 140737488351232) (_ht : t ≤ 8 * s.size)
    (hT : Inf.Tbl fd ld) (hB : TblIn w bd fd ld lo hi) (hap : ∀ k, lo ≤ k → k < hi → k ≠ r) (hs1 : 257 ≤ sym) (_hm1 : most ≤ 9223372036854775807) (_hl : out.length ≤ 70368744177664) (hsym : sym ≤ 285) (ht1 : t + lb sym ≤ 8 * s.size) (d t1 : Nat) (hn : Inf.nx fd ld s (t + lb sym) = (0, d, t1)) (hd : d ≤ 29) (ht2 : 8 * s.size < t1 + db d) :
    Calls Tryz.prog 101 #[.pointer (some ⟨ub, 0, none⟩), .int .i64 (sym : Nat), .pointer (some ⟨bd, 0, none⟩)] w fun e w' => e = .returned (.int .i64 (3 : Nat)) ∧ UpDone w w' ub r v out most tl td s (t1) := by
  have hlb := lb_small sym hsym
  have hlen := lenN_small sym hs1 hsym
  have K1 := hid (number_yes ub r v out most tl td s t (lenN sym) (lb sym) w h hr (by omega) (by omega) ht1 hlen)
  have hrv1 := rval_13 s t (lb sym) hlb
  have HU := hid h
  have HR := hid hr
  have HB := hid hB
  have HAP := hid hap
  obtain ⟨n, hnn⟩ : ∃ n, n = lenN sym + Bt.rval s t (lb sym) := ⟨_, rfl⟩
  rw [← hnn] at K1
  have hnb : n ≤ 50000 := by omega
  have HNN := hid hnn
  clear h hr hB hap hrv1 hnn
  go_enter Tryz.func101, Tryz.ntmps101
  go_wp2_with fail
  refine (len_in sym w hs1 hsym).mono ?_
  rintro e w1 ⟨rfl, rfl⟩
  go_wp2_with fail
  refine K1.out.mono ?_
  rintro e w2 ⟨rfl, st1⟩
  have U2 := hid (HU.out.reads HR.out st1.touch)
  have R2 := hid st1.rd
  have ST2 := hid st1
  have c2 := (up_cells U2.out).1
  have B2 := hid (HB.out.kept st1.touch (fun k h1 h2 e => HAP.out k h1 h2 e))
  have N2 := hid (next_nx bd r (t + lb sym) lo hi fd ld s w2 hT B2.out st1.rd (by omega) ht1)
  rw [hn] at N2
  clear st1 K1
  go_wp2_with fail
  refine N2.out.mono ?_
  rintro e w3 ⟨rfl, st2⟩
  have U3 := hid (U2.out.reads R2.out st2.touch)
  have R3 := hid st2.rd
  have ST3 := hid (ST2.out.trans st2)
  have c3 := (up_cells U3.out).1
  clear st2 N2 ST2 B2 c2
  go_wp2_with fail
  refine (dist_in d w3 hd).mono ?_
  rintro e w4 ⟨rfl, rfl⟩
  have hdb := db_le d (by omega)
  have hdl := dl_le d (by omega)
  have ht3 := (Inf.nx_fits hn ht1).1
  have K2 := hid (number_end ub r v out most tl td s t1 (dl d) (db d) w4 U3.out R3.out (by omega) (by omega) ht3 ht2 (by omega))
  go_wp2_with fail
  refine K2.out.mono ?_
  rintro e w5 ⟨rfl, st3⟩
  have ST5 := hid (ST3.out.trans (st3.rstep R3.out))
  clear st3 K2 ST3 c3
  go_wp2
  go_ret
  exact ⟨rfl, UpDone.reads HU.out HR.out ST5.out⟩

set_option maxRecDepth 100000 in
set_option maxHeartbeats 4000000 in
theorem again_far (ub r bd lo hi : Nat) (v : Value) (out : List Nat) (most : Nat) (tl td : Option Addr) (s : ByteArray) (t sym : Nat) (fd : Nat → Nat) (ld : Nat) (w : World) (h : Up w ub r v out most tl td) (hr : Rd w r s t) (hs : s.size ≤ 140737488351232) (_ht : t ≤ 8 * s.size)
    (hT : Inf.Tbl fd ld) (hB : TblIn w bd fd ld lo hi) (hap : ∀ k, lo ≤ k → k < hi → k ≠ r) (hs1 : 257 ≤ sym) (_hm1 : most ≤ 9223372036854775807) (_hl : out.length ≤ 70368744177664) (hsym : sym ≤ 285) (ht1 : t + lb sym ≤ 8 * s.size) (d t1 : Nat) (hn : Inf.nx fd ld s (t + lb sym) = (0, d, t1)) (hd : d ≤ 29) (ht2 : t1 + db d ≤ 8 * s.size) (hfar : out.length < dl d + Bt.rval s t1 (db d)) :
    Calls Tryz.prog 101 #[.pointer (some ⟨ub, 0, none⟩), .int .i64 (sym : Nat), .pointer (some ⟨bd, 0, none⟩)] w fun e w' => e = .returned (.int .i64 (9 : Nat)) ∧ UpDone w w' ub r v out most tl td s (t1 + db d) := by
  have hlb := lb_small sym hsym
  have hlen := lenN_small sym hs1 hsym
  have K1 := hid (number_yes ub r v out most tl td s t (lenN sym) (lb sym) w h hr (by omega) (by omega) ht1 hlen)
  have hrv1 := rval_13 s t (lb sym) hlb
  have HU := hid h
  have HR := hid hr
  have HB := hid hB
  have HAP := hid hap
  obtain ⟨n, hnn⟩ : ∃ n, n = lenN sym + Bt.rval s t (lb sym) := ⟨_, rfl⟩
  rw [← hnn] at K1
  have hnb : n ≤ 50000 := by omega
  have HNN := hid hnn
  clear h hr hB hap hrv1 hnn
  go_enter Tryz.func101, Tryz.ntmps101
  go_wp2_with fail
  refine (len_in sym w hs1 hsym).mono ?_
  rintro e w1 ⟨rfl, rfl⟩
  go_wp2_with fail
  refine K1.out.mono ?_
  rintro e w2 ⟨rfl, st1⟩
  have U2 := hid (HU.out.reads HR.out st1.touch)
  have R2 := hid st1.rd
  have ST2 := hid st1
  have c2 := (up_cells U2.out).1
  have B2 := hid (HB.out.kept st1.touch (fun k h1 h2 e => HAP.out k h1 h2 e))
  have N2 := hid (next_nx bd r (t + lb sym) lo hi fd ld s w2 hT B2.out st1.rd (by omega) ht1)
  rw [hn] at N2
  clear st1 K1
  go_wp2_with fail
  refine N2.out.mono ?_
  rintro e w3 ⟨rfl, st2⟩
  have U3 := hid (U2.out.reads R2.out st2.touch)
  have R3 := hid st2.rd
  have ST3 := hid (ST2.out.trans st2)
  have c3 := (up_cells U3.out).1
  clear st2 N2 ST2 B2 c2
  go_wp2_with fail
  refine (dist_in d w3 hd).mono ?_
  rintro e w4 ⟨rfl, rfl⟩
  have hdb := db_le d (by omega)
  have hdl := dl_le d (by omega)
  have hrv2 := rval_13 s t1 (db d) hdb
  have K2 := hid (number_yes ub r v out most tl td s t1 (dl d) (db d) w4 U3.out R3.out (by omega) (by omega) ht2 (by omega))
  obtain ⟨far, hff⟩ : ∃ far, far = dl d + Bt.rval s t1 (db d) := ⟨_, rfl⟩
  rw [← hff] at K2
  have hfb : far ≤ 60000 := by omega
  have HFF := hid hff
  clear hff hrv2
  go_wp2_with fail
  refine K2.out.mono ?_
  rintro e w5 ⟨rfl, st3⟩
  have U5 := hid (U3.out.reads R3.out st3.touch)
  have R5 := hid st3.rd
  have ST5 := hid (ST3.out.trans st3)
  have c5 := (up_cells U5.out).2.1
  clear st3 K2 ST3 c3 U2 R2 U3 R3
  obtain ⟨av, cv, hav⟩ := up_shape U5.out
  have hgt : (out.length : Int) < (far : Int) := by rw [HFF.out]; omega
  subst hav
  go_wp2
  go_ret
  exact ⟨rfl, UpDone.reads HU.out HR.out ST5.out⟩

set_option maxRecDepth 100000 in
set_option maxHeartbeats 4000000 in
theorem again_long (ub r bd lo hi : Nat) (v : Value) (out : List Nat) (most : Nat) (tl td : Option Addr) (s : ByteArray) (t sym : Nat) (fd : Nat → Nat) (ld : Nat) (w : World) (h : Up w ub r v out most tl td) (hr : Rd w r s t) (hs : s.size ≤ 140737488351232) (_ht : t ≤ 8 * s.size)
    (hT : Inf.Tbl fd ld) (hB : TblIn w bd fd ld lo hi) (hap : ∀ k, lo ≤ k → k < hi → k ≠ r) (hs1 : 257 ≤ sym) (hm1 : most ≤ 9223372036854775807) (hl : out.length ≤ 70368744177664) (hsym : sym ≤ 285) (ht1 : t + lb sym ≤ 8 * s.size) (d t1 : Nat) (hn : Inf.nx fd ld s (t + lb sym) = (0, d, t1)) (hd : d ≤ 29) (ht2 : t1 + db d ≤ 8 * s.size) (hfar : dl d + Bt.rval s t1 (db d) ≤ out.length) (hroom : most < out.length + (lenN sym + Bt.rval s t (lb sym))) :
    Calls Tryz.prog 101 #[.pointer (some ⟨ub, 0, none⟩), .int .i64 (sym : Nat), .pointer (some ⟨bd, 0, none⟩)] w fun e w' => e = .returned (.int .i64 (2 : Nat)) ∧ UpDone w w' ub r v out most tl td s (t1 + db d) := by
  have hlb := lb_small sym hsym
  have hlen := lenN_small sym hs1 hsym
  have K1 := hid (number_yes ub r v out most tl td s t (lenN sym) (lb sym) w h hr (by omega) (by omega) ht1 hlen)
  have hrv1 := rval_13 s t (lb sym) hlb
  have HU := hid h
  have HR := hid hr
  have HB := hid hB
  have HAP := hid hap
  obtain ⟨n, hnn⟩ : ∃ n, n = lenN sym + Bt.rval s t (lb sym) := ⟨_, rfl⟩
  rw [← hnn] at K1
  have hnb : n ≤ 50000 := by omega
  have HNN := hid hnn
  clear h hr hB hap hrv1 hnn
  go_enter Tryz.func101, Tryz.ntmps101
  go_wp2_with fail
  refine (len_in sym w hs1 hsym).mono ?_
  rintro e w1 ⟨rfl, rfl⟩
  go_wp2_with fail
  refine K1.out.mono ?_
  rintro e w2 ⟨rfl, st1⟩
  have U2 := hid (HU.out.reads HR.out st1.touch)
  have R2 := hid st1.rd
  have ST2 := hid st1
  have c2 := (up_cells U2.out).1
  have B2 := hid (HB.out.kept st1.touch (fun k h1 h2 e => HAP.out k h1 h2 e))
  have N2 := hid (next_nx bd r (t + lb sym) lo hi fd ld s w2 hT B2.out st1.rd (by omega) ht1)
  rw [hn] at N2
  clear st1 K1
  go_wp2_with fail
  refine N2.out.mono ?_
  rintro e w3 ⟨rfl, st2⟩
  have U3 := hid (U2.out.reads R2.out st2.touch)
  have R3 := hid st2.rd
  have ST3 := hid (ST2.out.trans st2)
  have c3 := (up_cells U3.out).1
  clear st2 N2 ST2 B2 c2
  go_wp2_with fail
  refine (dist_in d w3 hd).mono ?_
  rintro e w4 ⟨rfl, rfl⟩
  have hdb := db_le d (by omega)
  have hdl := dl_le d (by omega)
  have hrv2 := rval_13 s t1 (db d) hdb
  have K2 := hid (number_yes ub r v out most tl td s t1 (dl d) (db d) w4 U3.out R3.out (by omega) (by omega) ht2 (by omega))
  obtain ⟨far, hff⟩ : ∃ far, far = dl d + Bt.rval s t1 (db d) := ⟨_, rfl⟩
  rw [← hff] at K2
  have hfb : far ≤ 60000 := by omega
  have HFF := hid hff
  clear hff hrv2
  go_wp2_with fail
  refine K2.out.mono ?_
  rintro e w5 ⟨rfl, st3⟩
  have U5 := hid (U3.out.reads R3.out st3.touch)
  have R5 := hid st3.rd
  have ST5 := hid (ST3.out.trans st3)
  have c5 := (up_cells U5.out).2.1
  clear st3 K2 ST3 c3 U2 R2 U3 R3
  obtain ⟨av, cv, hav⟩ := up_shape U5.out
  have hgt : (far : Int) ≤ (out.length : Int) := by rw [HFF.out]; omega
  have HRM := hid (hasRoom_any ub r v out most tl td n w5 U5.out (by omega) (by omega) (by omega))
  have hdec : decide ((n : Int) ≤ (most : Int) - (out.length : Int)) = false := decide_eq_false (by rw [HNN.out]; omega)
  rw [hdec] at HRM
  clear hdec
  subst hav
  go_wp2_with fail
  refine HRM.out.mono ?_
  rintro e w6 ⟨rfl, st4⟩
  have D6 := hid ((UpDone.reads HU.out HR.out (ST5.out.trans (st4.rstep R5.out))))
  clear st4 HRM ST5 U5 R5 c5
  go_wp2
  go_ret
  exact ⟨rfl, D6.out⟩

theorem again_any (ub r bd lo hi : Nat) (v : Value) (out : List Nat) (most : Nat) (tl td : Option Addr) (s : ByteArray) (t sym : Nat) (fd : Nat → Nat) (ld : Nat) (w : World) (h : Up w ub r v out most tl td) (hr : Rd w r s t) (hs : s.size ≤ 140737488351232) (ht : t ≤ 8 * s.size)
    (hT : Inf.Tbl fd ld) (hB : TblIn w bd fd ld lo hi) (hap : ∀ k, lo ≤ k → k < hi → k ≠ r) (hs1 : 257 ≤ sym) (hm1 : most ≤ 9223372036854775807) (hl : out.length ≤ 70368744177664) :
    Calls Tryz.prog 101 #[.pointer (some ⟨ub, 0, none⟩), .int .i64 (sym : Nat), .pointer (some ⟨bd, 0, none⟩)] w fun e w' => e = .returned (.int .i64 ((Inf.ag fd ld s most sym t out).1 : Nat)) ∧ UpDone w w' ub r v (Inf.ag fd ld s most sym t out).2.2 most tl td s (Inf.ag fd ld s most sym t out).2.1 := by
  unfold Inf.ag
  by_cases c1 : 285 < sym
  · rw [if_pos c1]
    exact again_none ub r bd v out most tl td s t sym w h hr c1
  rw [if_neg c1]
  by_cases c2 : 8 * s.size < t + lb sym
  · rw [if_pos c2]
    exact again_cut ub r bd v out most tl td s t sym w h hr hs ht hs1 (by omega) c2
  rw [if_neg c2]
  obtain ⟨er, d, t1, hn⟩ : ∃ er d t1, Inf.nx fd ld s (t + lb sym) = (er, d, t1) := ⟨_, _, _, rfl⟩
  simp only [hn]
  by_cases c3 : er ≠ 0
  · rw [if_pos c3]
    exact again_next ub r bd lo hi v out most tl td s t sym fd ld w h hr hs ht hT hB hap hs1 hm1 hl (by omega) (by omega) er d t1 hn c3
  rw [if_neg c3]
  obtain rfl : er = 0 := by omega
  by_cases c4 : 29 < d
  · rw [if_pos c4]
    exact again_bad ub r bd lo hi v out most tl td s t sym fd ld w h hr hs ht hT hB hap hs1 hm1 hl (by omega) (by omega) d t1 hn c4
  rw [if_neg c4]
  by_cases c5 : 8 * s.size < t1 + db d
  · rw [if_pos c5]
    exact again_cut2 ub r bd lo hi v out most tl td s t sym fd ld w h hr hs ht hT hB hap hs1 hm1 hl (by omega) (by omega) d t1 hn (by omega) c5
  rw [if_neg c5]
  by_cases c6 : out.length < dl d + Bt.rval s t1 (db d)
  · rw [if_pos c6]
    exact again_far ub r bd lo hi v out most tl td s t sym fd ld w h hr hs ht hT hB hap hs1 hm1 hl (by omega) (by omega) d t1 hn (by omega) (by omega) c6
  rw [if_neg c6]
  by_cases c7 : most < out.length + (lenN sym + Bt.rval s t (lb sym))
  · rw [if_pos c7]
    exact again_long ub r bd lo hi v out most tl td s t sym fd ld w h hr hs ht hT hB hap hs1 hm1 hl (by omega) (by omega) d t1 hn (by omega) (by omega) (by omega) c7
  rw [if_neg c7]
  exact again_ok ub r bd lo hi v out most tl td s t sym d t1 fd ld w h hr hs hT hB hap hs1 (by omega) (by omega) hn (by omega) (by omega) (by omega) (by omega) hm1 hl
end Go.Proofs.YtffjkceedbblgaaGreatDoor
