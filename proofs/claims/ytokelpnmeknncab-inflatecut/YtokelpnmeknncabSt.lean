/- stored of an unpacker in all cases: what it comes to; conditions: what is unpacked fits into memory. -/
import Derived.Test.YtokelpnmeknncabIq
namespace Go.Proofs.Ytokelpnmeknncab
open Go.RowKit Go.Lib

set_option maxRecDepth 100000 in
set_option maxHeartbeats 4000000 in
theorem stored_end1 (ub r : Nat) (v : Value) (out : List Nat) (most : Nat) (tl td : Option Addr) (s : ByteArray) (t p : Nat) (w : World) (h : Up w ub r v out most tl td) (hr : Rd w r s t) (hs : s.size ≤ 140737488351232) (ht : t ≤ 8 * s.size) (hp : (t + 7) / 8 = p) (h1 : s.size < p + 2) :
    Calls Try.prog 49 #[.pointer (some ⟨ub, 0, none⟩)] w fun e w' => e = .returned (.int .i64 (3 : Nat)) ∧ UpDone w w' ub r v out most tl td s t := by
  have T1 := hid (twoBytes_end ub r v out most tl td s t w h hr hs ht (by omega))
  have HU := hid h
  have HR := hid hr
  clear h hr
  go_enter Try.func49, Try.ntmps49
  go_wp2_with fail
  refine T1.out.mono ?_
  rintro e w1 ⟨rfl, rfl⟩
  go_wp2
  go_ret
  exact ⟨rfl, UpDone.refl HU.out HR.out⟩

set_option maxRecDepth 100000 in
set_option maxHeartbeats 4000000 in
theorem stored_end2 (ub r : Nat) (v : Value) (out : List Nat) (most : Nat) (tl td : Option Addr) (s : ByteArray) (t p : Nat) (w : World) (h : Up w ub r v out most tl td) (hr : Rd w r s t) (hs : s.size ≤ 140737488351232) (ht : t ≤ 8 * s.size) (hp : (t + 7) / 8 = p) (h1 : p + 2 ≤ s.size) (h2 : s.size < p + 4) :
    Calls Try.prog 49 #[.pointer (some ⟨ub, 0, none⟩)] w fun e w' => e = .returned (.int .i64 (3 : Nat)) ∧ UpDone w w' ub r v out most tl td s (8 * (p + 2)) := by
  have T1 := hid (twoBytes_yes ub r v out most tl td s t w h hr hs ht (by omega))
  rw [hp] at T1
  generalize Bt.byteN s p + 256 * Bt.byteN s (p + 1) = n at T1
  have HU := hid h
  have HR := hid hr
  clear h hr
  go_enter Try.func49, Try.ntmps49
  go_wp2_with fail
  refine T1.out.mono ?_
  rintro e w1 ⟨rfl, hst⟩
  have R1 := hid hst
  have U1 := hid (HU.out.reads HR.out hst.touch)
  have D1 := hid (UpDone.reads HU.out HR.out hst)
  clear hst T1
  have T2 := hid (twoBytes_end ub r v out most tl td s (8 * (p + 2)) w1 U1.out R1.out.rd hs (by omega) (by omega))
  go_wp2_with fail
  refine T2.out.mono ?_
  rintro e w2 ⟨rfl, rfl⟩
  go_wp2
  go_ret
  exact ⟨rfl, D1.out⟩

set_option maxRecDepth 100000 in
set_option maxHeartbeats 4000000 in
theorem stored_size (ub r : Nat) (v : Value) (out : List Nat) (most : Nat) (tl td : Option Addr) (s : ByteArray) (t p n m : Nat) (w : World) (h : Up w ub r v out most tl td) (hr : Rd w r s t) (hs : s.size ≤ 140737488351232) (ht : t ≤ 8 * s.size) (hp : (t + 7) / 8 = p) (h2 : p + 4 ≤ s.size)
    (hn : Bt.byteN s p + 256 * Bt.byteN s (p + 1) = n) (hn' : Bt.byteN s (p + 2) + 256 * Bt.byteN s (p + 3) = m) (hne : m ≠ 65535 - n) :
    Calls Try.prog 49 #[.pointer (some ⟨ub, 0, none⟩)] w fun e w' => e = .returned (.int .i64 (11 : Nat)) ∧ UpDone w w' ub r v out most tl td s (8 * (p + 4)) := by
  have hn16 : n < 65536 := by have := Bt.byteN_lt s p; have := Bt.byteN_lt s (p + 1); omega
  have T1 := hid (twoBytes_yes ub r v out most tl td s t w h hr hs ht (by omega))
  rw [hp, hn] at T1
  have HU := hid h
  have HR := hid hr
  have HN' := hid hn'
  clear h hr hn hn'
  go_enter Try.func49, Try.ntmps49
  go_wp2_with fail
  refine T1.out.mono ?_
  rintro e w1 ⟨rfl, hst⟩
  have R1 := hid hst
  have U1 := hid (HU.out.reads HR.out hst.touch)
  clear hst T1
  have T2 := hid (twoBytes_yes ub r v out most tl td s (8 * (p + 2)) w1 U1.out R1.out.rd hs (by omega) (by omega))
  rw [show (8 * (p + 2) + 7) / 8 = p + 2 by omega, show p + 2 + 1 = p + 3 by omega, HN'.out, show 8 * (p + 2 + 2) = 8 * (p + 4) by omega] at T2
  have hflip := i64_flip' n hn16
  go_wp2_with fail
  refine T2.out.mono ?_
  rintro e w2 ⟨rfl, hst⟩
  have D2 := hid (UpDone.reads HU.out HR.out (R1.out.trans hst))
  clear hst T2 U1 R1
  have hb : ((m : Int) != 65535 - (n : Int)) = true := by simp; omega
  have HNE := hid hne
  clear hne
  go_wp2
  go_ret
  exact ⟨rfl, D2.out⟩

set_option maxRecDepth 100000 in
set_option maxHeartbeats 4000000 in
theorem stored_long (ub r : Nat) (v : Value) (out : List Nat) (most : Nat) (tl td : Option Addr) (s : ByteArray) (t p n : Nat) (w : World) (h : Up w ub r v out most tl td) (hr : Rd w r s t) (hs : s.size ≤ 140737488351232) (ht : t ≤ 8 * s.size) (hp : (t + 7) / 8 = p) (h2 : p + 4 ≤ s.size)
    (hn : Bt.byteN s p + 256 * Bt.byteN s (p + 1) = n) (hn' : Bt.byteN s (p + 2) + 256 * Bt.byteN s (p + 3) = 65535 - n) (hm1 : most ≤ 9223372036854775807) (hl : out.length ≤ 70368744177664) (hroom : most < out.length + n) :
    Calls Try.prog 49 #[.pointer (some ⟨ub, 0, none⟩)] w fun e w' => e = .returned (.int .i64 (2 : Nat)) ∧ UpDone w w' ub r v out most tl td s (8 * (p + 4)) := by
  have hn16 : n < 65536 := by have := Bt.byteN_lt s p; have := Bt.byteN_lt s (p + 1); omega
  have T1 := hid (twoBytes_yes ub r v out most tl td s t w h hr hs ht (by omega))
  rw [hp, hn] at T1
  have HU := hid h
  have HR := hid hr
  have HN' := hid hn'
  clear h hr hn hn'
  go_enter Try.func49, Try.ntmps49
  go_wp2_with fail
  refine T1.out.mono ?_
  rintro e w1 ⟨rfl, hst⟩
  have R1 := hid hst
  have U1 := hid (HU.out.reads HR.out hst.touch)
  clear hst T1
  have T2 := hid (twoBytes_yes ub r v out most tl td s (8 * (p + 2)) w1 U1.out R1.out.rd hs (by omega) (by omega))
  rw [show (8 * (p + 2) + 7) / 8 = p + 2 by omega, show p + 2 + 1 = p + 3 by omega, HN'.out, show 8 * (p + 2 + 2) = 8 * (p + 4) by omega] at T2
  have hflip := i64_flip' n hn16
  go_wp2_with fail
  refine T2.out.mono ?_
  rintro e w2 ⟨rfl, hst⟩
  have U2 := hid (U1.out.reads R1.out.rd hst.touch)
  have R2 := hid (R1.out.trans hst)
  clear hst T2 U1 R1
  rw [show ((65535 - n : Nat) : Int) = 65535 - (n : Int) by omega]
  have HRM := hid (hasRoom_any ub r v out most tl td n w2 U2.out (by omega) (by omega) (by omega))
  have hdec : decide ((n : Int) ≤ (most : Int) - (out.length : Int)) = false := decide_eq_false (by omega)
  rw [hdec] at HRM
  clear hdec
  go_wp2_with fail
  refine HRM.out.mono ?_
  rintro e w3 ⟨rfl, hst⟩
  have D3 := hid (UpDone.reads HU.out HR.out (R2.out.trans (hst.rstep R2.out.rd)))
  clear hst HRM
  go_wp2
  go_ret
  exact ⟨rfl, D3.out⟩

set_option maxRecDepth 100000 in
set_option maxHeartbeats 4000000 in
theorem stored_cut (ub r : Nat) (v : Value) (out : List Nat) (most : Nat) (tl td : Option Addr) (s : ByteArray) (t p n : Nat) (w : World) (h : Up w ub r v out most tl td) (hr : Rd w r s t) (hs : s.size ≤ 140737488351232) (ht : t ≤ 8 * s.size) (hp : (t + 7) / 8 = p) (h2 : p + 4 ≤ s.size)
    (hn : Bt.byteN s p + 256 * Bt.byteN s (p + 1) = n) (hn' : Bt.byteN s (p + 2) + 256 * Bt.byteN s (p + 3) = 65535 - n) (hm1 : most ≤ 9223372036854775807) (hl : out.length ≤ 70368744177664) (hroom : out.length + n ≤ most) (hcut : s.size < p + 4 + n) :
    Calls Try.prog 49 #[.pointer (some ⟨ub, 0, none⟩)] w fun e w' => e = .returned (.int .i64 (3 : Nat)) ∧ UpDone w w' ub r v out most tl td s (8 * (p + 4)) := by
  have hn16 : n < 65536 := by have := Bt.byteN_lt s p; have := Bt.byteN_lt s (p + 1); omega
  have T1 := hid (twoBytes_yes ub r v out most tl td s t w h hr hs ht (by omega))
  rw [hp, hn] at T1
  have HU := hid h
  have HR := hid hr
  have HN' := hid hn'
  clear h hr hn hn'
  go_enter Try.func49, Try.ntmps49
  go_wp2_with fail
  refine T1.out.mono ?_
  rintro e w1 ⟨rfl, hst⟩
  have R1 := hid hst
  have U1 := hid (HU.out.reads HR.out hst.touch)
  clear hst T1
  have T2 := hid (twoBytes_yes ub r v out most tl td s (8 * (p + 2)) w1 U1.out R1.out.rd hs (by omega) (by omega))
  rw [show (8 * (p + 2) + 7) / 8 = p + 2 by omega, show p + 2 + 1 = p + 3 by omega, HN'.out, show 8 * (p + 2 + 2) = 8 * (p + 4) by omega] at T2
  have hflip := i64_flip' n hn16
  go_wp2_with fail
  refine T2.out.mono ?_
  rintro e w2 ⟨rfl, hst⟩
  have U2 := hid (U1.out.reads R1.out.rd hst.touch)
  have R2 := hid (R1.out.trans hst)
  clear hst T2 U1 R1
  rw [show ((65535 - n : Nat) : Int) = 65535 - (n : Int) by omega]
  have HRM := hid (hasRoom_any ub r v out most tl td n w2 U2.out (by omega) (by omega) (by omega))
  have hdec : decide ((n : Int) ≤ (most : Int) - (out.length : Int)) = true := decide_eq_true (by omega)
  rw [hdec] at HRM
  clear hdec
  go_wp2_with fail
  refine HRM.out.mono ?_
  rintro e w3 ⟨rfl, hst⟩
  have U3 := hid (U2.out.reads R2.out.rd (hst.touch _))
  have R3 := hid (R2.out.trans (hst.rstep R2.out.rd))
  clear hst HRM U2 R2
  have RB := hid (rbytes_end r s (8 * (p + 4)) n w3 R3.out.rd (by omega) (by omega) (by omega) (by omega))
  have c3 := (up_cells U3.out).1
  have D3 := hid (UpDone.reads HU.out HR.out R3.out)
  go_wp2_with fail
  refine RB.out.mono ?_
  rintro e w4 ⟨rfl, rfl⟩
  go_wp2
  go_ret
  exact ⟨rfl, D3.out⟩

theorem stored_any (ub r : Nat) (v : Value) (out : List Nat) (most : Nat) (tl td : Option Addr) (s : ByteArray) (t : Nat) (w : World) (h : Up w ub r v out most tl td) (hr : Rd w r s t) (hs : s.size ≤ 140737488351232) (ht : t ≤ 8 * s.size) (hm1 : most ≤ 9223372036854775807) (hl : out.length ≤ 70368744177664) :
    Calls Try.prog 49 #[.pointer (some ⟨ub, 0, none⟩)] w fun e w' => e = .returned (.int .i64 ((Inf.st s most t out).1 : Nat)) ∧ UpDone w w' ub r v (Inf.st s most t out).2.2 most tl td s (Inf.st s most t out).2.1 := by
  obtain ⟨p, hp⟩ : ∃ p, (t + 7) / 8 = p := ⟨_, rfl⟩
  obtain ⟨n, hn⟩ : ∃ n, Bt.byteN s p + 256 * Bt.byteN s (p + 1) = n := ⟨_, rfl⟩
  unfold Inf.st
  simp only [hp, hn]
  by_cases c1 : s.size < p + 2
  · rw [if_pos c1]
    exact stored_end1 ub r v out most tl td s t p w h hr hs ht hp c1
  rw [if_neg c1]
  by_cases c2 : s.size < p + 4
  · rw [if_pos c2]
    exact stored_end2 ub r v out most tl td s t p w h hr hs ht hp (by omega) c2
  rw [if_neg c2]
  by_cases c3 : Bt.byteN s (p + 2) + 256 * Bt.byteN s (p + 3) ≠ 65535 - n
  · rw [if_pos c3]
    exact stored_size ub r v out most tl td s t p n _ w h hr hs ht hp (by omega) hn rfl c3
  rw [if_neg c3]
  have hn' : Bt.byteN s (p + 2) + 256 * Bt.byteN s (p + 3) = 65535 - n := by omega
  by_cases c4 : most < out.length + n
  · rw [if_pos c4]
    exact stored_long ub r v out most tl td s t p n w h hr hs ht hp (by omega) hn hn' hm1 hl c4
  rw [if_neg c4]
  by_cases c5 : s.size < p + 4 + n
  · rw [if_pos c5]
    exact stored_cut ub r v out most tl td s t p n w h hr hs ht hp (by omega) hn hn' hm1 hl (by omega) c5
  rw [if_neg c5]
  exact stored_yes ub r v out most tl td s t p n w h hr hs ht hp (by omega) hn hn' (by omega) (by omega) (by omega) hl

theorem st_keeps {s : ByteArray} {most t : Nat} {out : List Nat} {e t2 : Nat} {out2 : List Nat} (h : Inf.st s most t out = (e, t2, out2)) (hb : Inf.Bd s most t out) : Inf.Bd s most t2 out2 ∧ t ≤ t2 := by
  obtain ⟨p, hp⟩ : ∃ p, (t + 7) / 8 = p := ⟨_, rfl⟩
  obtain ⟨n, hn⟩ : ∃ n, Bt.byteN s p + 256 * Bt.byteN s (p + 1) = n := ⟨_, rfl⟩
  have hf := hb.fits
  unfold Inf.st at h
  simp only [hp, hn] at h
  by_cases c1 : s.size < p + 2
  · rw [if_pos c1] at h
    simp only [Prod.mk.injEq] at h
    obtain ⟨rfl, rfl, rfl⟩ := h
    exact ⟨hb, Nat.le_refl _⟩
  rw [if_neg c1] at h
  by_cases c2 : s.size < p + 4
  · rw [if_pos c2] at h
    simp only [Prod.mk.injEq] at h
    obtain ⟨rfl, rfl, rfl⟩ := h
    exact ⟨hb.later (by omega) (by omega), by omega⟩
  rw [if_neg c2] at h
  by_cases c3 : Bt.byteN s (p + 2) + 256 * Bt.byteN s (p + 3) ≠ 65535 - n
  · rw [if_pos c3] at h
    simp only [Prod.mk.injEq] at h
    obtain ⟨rfl, rfl, rfl⟩ := h
    exact ⟨hb.later (by omega) (by omega), by omega⟩
  rw [if_neg c3] at h
  by_cases c4 : most < out.length + n
  · rw [if_pos c4] at h
    simp only [Prod.mk.injEq] at h
    obtain ⟨rfl, rfl, rfl⟩ := h
    exact ⟨hb.later (by omega) (by omega), by omega⟩
  rw [if_neg c4] at h
  by_cases c5 : s.size < p + 4 + n
  · rw [if_pos c5] at h
    simp only [Prod.mk.injEq] at h
    obtain ⟨rfl, rfl, rfl⟩ := h
    exact ⟨hb.later (by omega) (by omega), by omega⟩
  rw [if_neg c5] at h
  simp only [Prod.mk.injEq] at h
  obtain ⟨rfl, rfl, rfl⟩ := h
  have hbits := hb.bits
  refine ⟨⟨by simp; omega, by simp; omega, fun x hx => ?_, by omega⟩, by omega⟩
  rcases List.mem_append.1 hx with hx | hx
  · exact hb.small x hx
  · simp at hx
    obtain ⟨i, _, rfl⟩ := hx
    exact Bt.byteN_lt _ _
end Go.Proofs.Ytokelpnmeknncab
