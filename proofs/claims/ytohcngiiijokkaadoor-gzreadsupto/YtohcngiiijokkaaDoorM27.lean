/- Texts of this proof, one behind the other: what each says stands ahead of it. -/
import Derived.Test.YtohcngiiijokkaaDoorM26
import Derived.Deep.CutRange
import Derived.Test.YtohcngiiijokkaaDoorM24
/- A reader of parts: name; conditions: those told. -/
namespace Go.Proofs.YtohcngiiijokkaaDoor
open Go.RowKit

set_option maxRecDepth 100000 in
set_option maxHeartbeats 8000000 in
theorem name_no1 (b : Nat) (s : ByteArray) (t : Nat) (w : World) (r : Gr w b s t) (_hs : s.size ≤ 70368744177664) (ht : t ≤ s.size) (HZ : Gz.zeroAt s t = none) :
    Calls Tryd.prog 27 #[.pointer (some ⟨b, 0, none⟩)] w fun e w' => e = .returned (.tuple #[.string ⟨#[]⟩, .agg #[.int .i64 3, .int .i64 (t : Nat)]]) ∧ Touch (fun k => k = b) w w' := by
  have T0 := hid ((Touch.refl (fun _ => False) w).alloc (.cells #[.int .i64 0, .int .i64 0] 26))
  have r0 := r.new T0.out id
  have FB0 := hid (two_new (w := w) (.int .i64 0) (.int .i64 0) 26)
  have HB := hid r.lt
  have KI := hid (fun w => index_any (s.extract t s.size) w)
  rw [first_nul s t ht, HZ] at KI
  have c0 := r0.c0
  have c1 := r0.c1
  have R0 := hid r0
  clear r r0 HZ
  go_enter Tryd.func27, Tryd.ntmps27
  go_upto_region 1 with fail
  generalize w.alloc (.cells #[.int .i64 0, .int .i64 0] 26) = w0 at *
  obtain ⟨q, hq⟩ : ∃ q, q = w.heap.size := ⟨_, rfl⟩
  rw [← hq] at FB0 ⊢
  have HQ := hid (show w.heap.size ≤ q ∧ b < q from ⟨by omega, by have := HB.out; omega⟩)
  clear hq HB
  go_region_with (go_at_call 35; refine (KI.out _).mono ?_; rintro e w ⟨rfl, rfl⟩)
  all_goals
    clear KI
    go_wp2_with fail
    refine (fault_any b s t 3 _ (R0.out.new ((Touch.refl (fun _ => False) w0).drew) id)).mono ?_
    rintro e w1 ⟨rfl, t1⟩
    have T1 := hid ((T0.out.drew).trans t1 (fun _ _ e => e))
    have fb1 := (t1.block q (lt_of_block (w := w0.drew) FB0.out) id).trans FB0.out
    have g0 := cell_two0 fb1
    have g1 := cell_two1 fb1
    have gf0 := free_two (i := 0) fb1
    have gf1 := free_two (i := 1) fb1
    have FB1 := hid fb1
    clear fb1 t1
    go_wp2
    refine bodyPost_ret (results_tc rfl _ _ q 26 _ (0, 0) _ rfl (fset FB1.out _ _) Tryd.underlying26 rfl (by kernel_rfl)) rfl ?_
    exact ⟨rfl, ftouch (T1.out.one b) HQ.out.1 _ _⟩
set_option maxRecDepth 100000 in
set_option maxHeartbeats 8000000 in
theorem name_no2 (b : Nat) (s : ByteArray) (t z : Nat) (w : World) (r : Gr w b s t) (_hs : s.size ≤ 70368744177664) (ht : t ≤ s.size) (HZ : Gz.zeroAt s t = some z) (hl : 256 < z - t) :
    Calls Tryd.prog 27 #[.pointer (some ⟨b, 0, none⟩)] w fun e w' => e = .returned (.tuple #[.string ⟨#[]⟩, .agg #[.int .i64 2, .int .i64 (t : Nat)]]) ∧ Touch (fun k => k = b) w w' := by
  have T0 := hid ((Touch.refl (fun _ => False) w).alloc (.cells #[.int .i64 0, .int .i64 0] 26))
  have r0 := r.new T0.out id
  have FB0 := hid (two_new (w := w) (.int .i64 0) (.int .i64 0) 26)
  have HB := hid r.lt
  have KI := hid (fun w => index_any (s.extract t s.size) w)
  rw [first_nul s t ht, HZ] at KI
  replace KI := hid (fun w => KI.out w)
  simp only at KI
  have hin := Gz.zero_in HZ
  obtain ⟨m, hm⟩ : ∃ m, m = z - t := ⟨_, rfl⟩
  rw [← hm] at KI hl
  have hl1 : (256 : Int) < (m : Int) := by omega
  have hl2 : ¬ ((m : Int) < 0) := by omega
  clear hin hm hl
  have c0 := r0.c0
  have c1 := r0.c1
  have R0 := hid r0
  clear r r0 HZ
  go_enter Tryd.func27, Tryd.ntmps27
  go_upto_region 1 with fail
  generalize w.alloc (.cells #[.int .i64 0, .int .i64 0] 26) = w0 at *
  obtain ⟨q, hq⟩ : ∃ q, q = w.heap.size := ⟨_, rfl⟩
  rw [← hq] at FB0 ⊢
  have HQ := hid (show w.heap.size ≤ q ∧ b < q from ⟨by omega, by have := HB.out; omega⟩)
  clear hq HB
  go_region_with (go_at_call 35; refine (KI.out _).mono ?_; rintro e w ⟨rfl, rfl⟩)
  all_goals
    clear KI
    go_wp2_with fail
    refine (fault_any b s t 2 _ (R0.out.new ((Touch.refl (fun _ => False) w0).drew) id)).mono ?_
    rintro e w1 ⟨rfl, t1⟩
    have T1 := hid ((T0.out.drew).trans t1 (fun _ _ e => e))
    have fb1 := (t1.block q (lt_of_block (w := w0.drew) FB0.out) id).trans FB0.out
    have g0 := cell_two0 fb1
    have g1 := cell_two1 fb1
    have gf0 := free_two (i := 0) fb1
    have gf1 := free_two (i := 1) fb1
    have FB1 := hid fb1
    clear fb1 t1
    go_wp2
    refine bodyPost_ret (results_tc rfl _ _ q 26 _ (0, 0) _ rfl (fset FB1.out _ _) Tryd.underlying26 rfl (by kernel_rfl)) rfl ?_
    exact ⟨rfl, ftouch (T1.out.one b) HQ.out.1 _ _⟩
set_option maxRecDepth 100000 in
set_option maxHeartbeats 8000000 in
theorem name_yes (b : Nat) (s : ByteArray) (t z : Nat) (w : World) (r : Gr w b s t) (hs : s.size ≤ 70368744177664) (ht : t ≤ s.size) (HZ : Gz.zeroAt s t = some z) (hl : z - t ≤ 256) :
    Calls Tryd.prog 27 #[.pointer (some ⟨b, 0, none⟩)] w fun e w' => e = .returned (.tuple #[.string (s.extract t z), .agg #[.int .i64 0, .int .i64 0]]) ∧ GStep w w' b s (z + 1) := by
  have T0 := hid ((Touch.refl (fun _ => False) w).alloc (.cells #[.int .i64 0, .int .i64 0] 26))
  have r0 := r.new T0.out id
  have FB0 := hid (two_new (w := w) (.int .i64 0) (.int .i64 0) 26)
  have HB := hid r.lt
  have KI := hid (fun w => index_any (s.extract t s.size) w)
  rw [first_nul s t ht, HZ] at KI
  replace KI := hid (fun w => KI.out w)
  simp only at KI
  have hin := Gz.zero_in HZ
  obtain ⟨m, hm⟩ : ∃ m, m = z - t := ⟨_, rfl⟩
  rw [← hm] at KI hl
  have hl1 : ¬ ((256 : Int) < (m : Int)) := by omega
  have hl2 : ¬ ((m : Int) < 0) := by omega
  have hw : IntKind.i64.wrap ((t : Int) + (m : Int)) = (z : Int) := by rw [IntKind.wrap_i64]; omega
  have hw2 : IntKind.i64.wrap ((t : Int) + ((m : Int) + 1)) = ((z + 1 : Nat) : Int) := by rw [IntKind.wrap_i64]; omega
  obtain ⟨z1, hz1⟩ : ∃ z1, z1 = z + 1 := ⟨_, rfl⟩
  rw [← hz1] at hw2 ⊢
  have h1 : t ≤ z := hin.1
  have h2 : z ≤ s.size := by omega
  have hm2 : (m : Int) ≤ 256 := by omega
  clear hin hm hl hz1
  have c0 := r0.c0
  have c1 := r0.c1
  have R0 := hid r0
  clear r r0 HZ
  go_enter Tryd.func27, Tryd.ntmps27
  go_upto_region 1 with fail
  generalize w.alloc (.cells #[.int .i64 0, .int .i64 0] 26) = w0 at *
  obtain ⟨q, hq⟩ : ∃ q, q = w.heap.size := ⟨_, rfl⟩
  rw [← hq] at FB0 ⊢
  have HQ := hid (show w.heap.size ≤ q ∧ b < q from ⟨by omega, by have := HB.out; omega⟩)
  clear hq HB
  have f1 := R0.out.f1
  go_region_with (go_at_call 35; refine (KI.out _).mono ?_; rintro e w ⟨rfl, rfl⟩)
  all_goals
    clear KI
    go_wp2
    go_region
    have hqb : q ≠ b := by have := HQ.out; omega
    have hbq : b ≠ q := Ne.symm hqb
    have FB1 := hid (show (w0.setCell ⟨b, 1, none⟩ (.int .i64 (z1 : Nat))).heap[q]? = some (.cells #[.int .i64 0, .int .i64 0] 26 (0, 0)) from (Below.heap_setCell w0 _ _ _ hqb).trans FB0.out)
    have g0 := cell_two0 FB1.out
    have g1 := cell_two1 FB1.out
    have gf0 := free_two (i := 0) FB1.out
    have gf1 := free_two (i := 1) FB1.out
    have GS := hid (R0.out.set (Touch.refl (fun _ => False) w0) z1)
    have HQB := hid hqb
    clear hqb hbq
    go_wp2
    refine bodyPost_ret (results_tc rfl _ _ q 26 #[.int .i64 0, .int .i64 0] (0, 0) _ rfl (fset (w' := w0.setCell ⟨b, 1, none⟩ (.int .i64 (z1 : Nat))) FB1.out _ _) Tryd.underlying26 rfl (by kernel_rfl)) rfl ?_
    exact ⟨rfl, ⟨Gr.fset (w := w0.setCell ⟨b, 1, none⟩ (.int .i64 (z1 : Nat))) GS.out.gr (Ne.symm HQB.out) _ _, (ftouch ((T0.out.one b).trans GS.out.touch (fun _ _ e => e)) HQ.out.1 _ _).drew.drew⟩⟩
end Go.Proofs.YtohcngiiijokkaaDoor

/- A reader of parts: headSum; conditions: those told. -/
namespace Go.Proofs.YtohcngiiijokkaaDoor
open Go.RowKit

/-- A fault, or none and a place further on. -/
def FPost (w : World) (b : Nat) (s : ByteArray) : Except Gz.Bad Nat → Ending → World → Prop
  | .error x, e, w' => e = .returned (.agg #[.int .i64 (x.1 : Nat), .int .i64 (x.2 : Nat)]) ∧ Touch (fun k => k = b) w w'
  | .ok t', e, w' => e = .returned (.agg #[.int .i64 0, .int .i64 0]) ∧ GStep w w' b s t'
theorem num_cut (s : ByteArray) (t n : Nat) (h : t + n ≤ s.size) : (s.extract t (t + n)).size = n ∧ Gz.num (s.extract t (t + n)) 0 n = Gz.num s t n := by
  have hx : (s.extract t (t + n)).size = n := by rw [ByteArray.size_extract]; omega
  refine ⟨hx, ?_⟩
  rw [← (show Gz.Win (s.extract t (t + n)) s t from ⟨by omega, fun i hi => (Gz.byteN_extract s t (t + n) i h (by omega)).symm⟩).num n 0 (by omega), Nat.add_zero]
theorem number_cut (s : ByteArray) (t n : Nat) (h : t + n ≤ s.size) (hn : n ≤ 4) (w : World) : Calls Tryd.prog 25 #[.string (s.extract t (t + n))] w fun e w' => e = .returned (.int .i64 ((Gz.num s t n : Nat) : Int)) ∧ w = w' := by
  obtain ⟨h1, h2⟩ := num_cut s t n h
  have := number_any (s.extract t (t + n)) (by omega) w
  rw [h1, h2] at this
  exact this
set_option maxRecDepth 100000 in
set_option maxHeartbeats 8000000 in
theorem headSum_any (b : Nat) (s : ByteArray) (p t : Nat) (w : World) (r : Gr w b s t) (hq : Quart w) (hb0 : b ≠ 0) (hs : s.size ≤ 70368744177664) (hp : p ≤ t) (ht : t ≤ s.size) :
    Calls Tryd.prog 18 #[.pointer (some ⟨b, 0, none⟩), .int .i64 (p : Nat)] w (FPost w b s (Gz.sumAt s p t true)) := by
  unfold Gz.sumAt
  rw [if_pos rfl]
  by_cases h : s.size < t + 2
  · rw [if_pos h]
    show Calls Tryd.prog 18 _ w fun e w' => _ ∧ _
    have T0 := hid ((Touch.refl (fun _ => False) w).alloc (.cells #[.int .i64 0, .int .i64 0] 26))
    have r0 := r.new T0.out id
    have FB0 := hid (two_new (w := w) (.int .i64 0) (.int .i64 0) 26)
    have HB := hid r.lt
    have Q0 := hid (hq.new T0.out id)
    have c1 := r0.c1
    have R0 := hid r0
    clear r r0 hq
    go_enter Tryd.func18, Tryd.ntmps18
    go_wp2_with fail
    generalize w.alloc (.cells #[.int .i64 0, .int .i64 0] 26) = w0 at *
    obtain ⟨q, hq⟩ : ∃ q, q = w.heap.size := ⟨_, rfl⟩
    rw [← hq] at FB0 ⊢
    have HQ := hid (show w.heap.size ≤ q ∧ b < q from ⟨by omega, by have := HB.out; omega⟩)
    clear hq HB c1
    refine (gtake_no b s t 2 w0 R0.out (by omega) (by omega) ht h).mono ?_
    rintro e w1 ⟨rfl, t1⟩
    have T1 := hid (T0.out.trans t1 (fun _ _ e => e))
    have R1 := hid (R0.out.new t1 id)
    have FB1 := hid ((t1.block q (lt_of_block FB0.out) id).trans FB0.out)
    clear t1 T0 R0 FB0 Q0
    go_wp2_with fail
    refine (fault_any b s t 3 w1 R1.out).mono ?_
    rintro e w2 ⟨rfl, t2⟩
    have T2 := hid (T1.out.trans t2 (fun _ _ e => e))
    have fb := (t2.block q (lt_of_block FB1.out) id).trans FB1.out
    clear t2 T1 R1 FB1
    have g0 := cell_two0 fb
    have g1 := cell_two1 fb
    have gf0 := free_two (i := 0) fb
    have gf1 := free_two (i := 1) fb
    have FB := hid fb
    clear fb
    go_wp2
    refine bodyPost_ret (results_c rfl _ _ q 26 _ (0, 0) _ rfl (fset FB.out _ _) Tryd.underlying26 rfl (by kernel_rfl)) rfl ?_
    exact ⟨rfl, ftouch (T2.out.one b) HQ.out.1 _ _⟩
  · rw [if_neg h]
    have KN := hid (fun w => number_cut s t 2 (by omega) (by decide) w)
    have KL := hid (fun w hq => lowSum_any (s.extract p t) (by rw [ByteArray.size_extract]; omega) w hq)
    have KT := hid (fun w r => gtake_yes b s t 2 w r (by omega) (by omega))
    obtain ⟨n, hn⟩ : ∃ n, n = Gz.num s t 2 := ⟨_, rfl⟩
    obtain ⟨m, hm⟩ : ∃ m, m = Gz.sum (s.extract p t) % 65536 := ⟨_, rfl⟩
    rw [← hn, ← hm]
    simp only [← hn] at KN
    simp only [← hm] at KL
    clear hn hm
    have HPT := hid hp
    by_cases h2 : n ≠ m
    · rw [if_pos h2]
      show Calls Tryd.prog 18 _ w fun e w' => _ ∧ _
      have hI : ((n : Int) == (m : Int)) = false := by simp; omega
      clear h2
      have T0 := hid ((Touch.refl (fun _ => False) w).alloc (.cells #[.int .i64 0, .int .i64 0] 26))
      have r0 := r.new T0.out id
      have FB0 := hid (two_new (w := w) (.int .i64 0) (.int .i64 0) 26)
      have HB := hid r.lt
      have Q0 := hid (hq.new T0.out id)
      have c1 := r0.c1
      have R0 := hid r0
      clear r r0 hq
      go_enter Tryd.func18, Tryd.ntmps18
      go_wp2_with fail
      generalize w.alloc (.cells #[.int .i64 0, .int .i64 0] 26) = w0 at *
      obtain ⟨q, hq⟩ : ∃ q, q = w.heap.size := ⟨_, rfl⟩
      rw [← hq] at FB0 ⊢
      have HQ := hid (show w.heap.size ≤ q ∧ b < q from ⟨by omega, by have := HB.out; omega⟩)
      clear hq HB c1
      refine (KT.out w0 R0.out).mono ?_
      rintro e w1 ⟨rfl, g1⟩
      have T1 := hid ((T0.out.one b).trans g1.touch (fun _ _ e => e))
      have c0 := g1.gr.c0
      have Q1 := hid (Q0.out.new g1.touch (fun e => hb0 e.symm))
      have fb := (g1.touch.block q (lt_of_block FB0.out) (fun e => by have := HQ.out; omega)).trans FB0.out
      clear g1 T0 R0 FB0 Q0 KT
      go_wp2
      go_region_with (first | (go_at_call 25; refine (KN.out _).mono ?_; rintro e w ⟨rfl, rfl⟩) | (go_at_call 28; refine (KL.out _ (by exact Q1.out)).mono ?_; rintro e w ⟨rfl, rfl⟩))
      all_goals
        clear KN KL
        have g0 := cell_two0 fb
        have g1 := cell_two1 fb
        have gf0 := free_two (i := 0) fb
        have gf1 := free_two (i := 1) fb
        have FB := hid fb
        clear fb
        go_wp2
        refine bodyPost_ret (results_c rfl _ _ q 26 #[.int .i64 10, .int .i64 (t : Nat)] (0, 0) _ rfl (fset (w' := w1) FB.out _ _) Tryd.underlying26 rfl (by kernel_rfl)) rfl ?_
        exact ⟨rfl, (ftouch T1.out HQ.out.1 _ _).drew⟩
    · rw [if_neg h2]
      show Calls Tryd.prog 18 _ w fun e w' => _ ∧ _
      have hI : ((n : Int) == (m : Int)) = true := by simp; omega
      clear h2
      have T0 := hid ((Touch.refl (fun _ => False) w).alloc (.cells #[.int .i64 0, .int .i64 0] 26))
      have r0 := r.new T0.out id
      have FB0 := hid (two_new (w := w) (.int .i64 0) (.int .i64 0) 26)
      have HB := hid r.lt
      have Q0 := hid (hq.new T0.out id)
      have c1 := r0.c1
      have R0 := hid r0
      clear r r0 hq
      go_enter Tryd.func18, Tryd.ntmps18
      go_wp2_with fail
      generalize w.alloc (.cells #[.int .i64 0, .int .i64 0] 26) = w0 at *
      obtain ⟨q, hq⟩ : ∃ q, q = w.heap.size := ⟨_, rfl⟩
      rw [← hq] at FB0 ⊢
      have HQ := hid (show w.heap.size ≤ q ∧ b < q from ⟨by omega, by have := HB.out; omega⟩)
      clear hq HB c1
      refine (KT.out w0 R0.out).mono ?_
      rintro e w1 ⟨rfl, g1⟩
      have T1 := hid ((T0.out.one b).trans g1.touch (fun _ _ e => e))
      have c0 := g1.gr.c0
      have R1 := hid g1.gr
      have Q1 := hid (Q0.out.new g1.touch (fun e => hb0 e.symm))
      have fb := (g1.touch.block q (lt_of_block FB0.out) (fun e => by have := HQ.out; omega)).trans FB0.out
      clear g1 T0 R0 FB0 Q0 KT
      go_wp2
      go_region_with (first | (go_at_call 25; refine (KN.out _).mono ?_; rintro e w ⟨rfl, rfl⟩) | (go_at_call 28; refine (KL.out _ (by exact Q1.out)).mono ?_; rintro e w ⟨rfl, rfl⟩))
      all_goals
        clear KN KL
        have g0 := cell_two0 fb
        have g1 := cell_two1 fb
        have gf0 := free_two (i := 0) fb
        have gf1 := free_two (i := 1) fb
        have FB := hid fb
        clear fb
        go_wp2
        refine bodyPost_ret (results_c rfl _ _ q 26 #[.int .i64 0, .int .i64 0] (0, 0) _ rfl (fset (w' := w1) FB.out _ _) Tryd.underlying26 rfl (by kernel_rfl)) rfl ?_
        have hbq : b ≠ q := by have := HQ.out; omega
        exact ⟨rfl, ⟨R1.out.fset hbq _ _, (ftouch T1.out HQ.out.1 _ _).drew⟩⟩
end Go.Proofs.YtohcngiiijokkaaDoor

/- Plain facts: what is unpacked hangs on the bound only in that it is too low or not; no condition beside those told. -/
namespace Go.Proofs.YtohcngiiijokkaaDoor
namespace Inf

/-- By another bound: the same, or too long. -/
theorem ag_bound {fd : Nat → Nat} {ld : Nat} {s : ByteArray} {m sym t : Nat} {out : List Nat} {t2 : Nat} {out2 : List Nat} (h : ag fd ld s m sym t out = (0, t2, out2)) : out.length ≤ out2.length ∧ ∀ m', (out2.length ≤ m' → ag fd ld s m' sym t out = (0, t2, out2)) ∧ (m' < out2.length → ag fd ld s m' sym t out = (2, t2, out)) := by
  unfold ag at h
  by_cases c1 : 285 < sym
  · rw [if_pos c1] at h; simp at h
  rw [if_neg c1] at h
  by_cases c2 : 8 * s.size < t + lb sym
  · rw [if_pos c2] at h; simp at h
  rw [if_neg c2] at h
  obtain ⟨er, d, t1, hn⟩ : ∃ er d t1, nx fd ld s (t + lb sym) = (er, d, t1) := ⟨_, _, _, rfl⟩
  simp only [hn] at h
  by_cases c3 : er ≠ 0
  · rw [if_pos c3] at h
    simp only [Prod.mk.injEq] at h
    exact absurd h.1 c3
  rw [if_neg c3] at h
  by_cases c4 : 29 < d
  · rw [if_pos c4] at h; simp at h
  rw [if_neg c4] at h
  by_cases c5 : 8 * s.size < t1 + db d
  · rw [if_pos c5] at h; simp at h
  rw [if_neg c5] at h
  by_cases c6 : out.length < dl d + Bt.rval s t1 (db d)
  · rw [if_pos c6] at h; simp at h
  rw [if_neg c6] at h
  by_cases c7 : m < out.length + (lenN sym + Bt.rval s t (lb sym))
  · rw [if_pos c7] at h; simp at h
  rw [if_neg c7] at h
  simp only [Prod.mk.injEq, true_and] at h
  obtain ⟨rfl, rfl⟩ := h
  have hl := length_again (dl d + Bt.rval s t1 (db d)) (lenN sym + Bt.rval s t (lb sym)) out
  refine ⟨by omega, fun m' => ⟨fun hm => ?_, fun hm => ?_⟩⟩
  · unfold ag
    simp only [hn]
    rw [if_neg c1, if_neg c2, if_neg c3, if_neg c4, if_neg c5, if_neg c6, if_neg (by omega)]
  · unfold ag
    simp only [hn]
    rw [if_neg c1, if_neg c2, if_neg c3, if_neg c4, if_neg c5, if_neg c6, if_pos (by omega)]

theorem st_bound {s : ByteArray} {m t : Nat} {out : List Nat} {t2 : Nat} {out2 : List Nat} (h : st s m t out = (0, t2, out2)) : out.length ≤ out2.length ∧ ∀ m', (out2.length ≤ m' → st s m' t out = (0, t2, out2)) ∧ (m' < out2.length → ∃ t3, st s m' t out = (2, t3, out)) := by
  obtain ⟨q, hq⟩ : ∃ q, (t + 7) / 8 = q := ⟨_, rfl⟩
  obtain ⟨n, hn⟩ : ∃ n, Bt.byteN s q + 256 * Bt.byteN s (q + 1) = n := ⟨_, rfl⟩
  unfold st at h
  simp only [hq, hn] at h
  by_cases c1 : s.size < q + 2
  · rw [if_pos c1] at h; simp at h
  rw [if_neg c1] at h
  by_cases c2 : s.size < q + 4
  · rw [if_pos c2] at h; simp at h
  rw [if_neg c2] at h
  by_cases c3 : Bt.byteN s (q + 2) + 256 * Bt.byteN s (q + 3) ≠ 65535 - n
  · rw [if_pos c3] at h; simp at h
  rw [if_neg c3] at h
  by_cases c4 : m < out.length + n
  · rw [if_pos c4] at h; simp at h
  rw [if_neg c4] at h
  by_cases c5 : s.size < q + 4 + n
  · rw [if_pos c5] at h; simp at h
  rw [if_neg c5] at h
  simp only [Prod.mk.injEq, true_and] at h
  obtain ⟨rfl, rfl⟩ := h
  refine ⟨by simp, fun m' => ⟨fun hm => ?_, fun hm => ⟨8 * (q + 4), ?_⟩⟩⟩
  · simp at hm
    unfold st
    simp only [hq, hn]
    rw [if_neg c1, if_neg c2, if_neg c3, if_neg (by omega), if_neg c5]
  · simp at hm
    unfold st
    simp only [hq, hn]
    rw [if_neg c1, if_neg c2, if_neg c3, if_pos (by omega)]

theorem sy_bound {fl : Nat → Nat} {ll : Nat} {fd : Nat → Nat} {ld : Nat} {s : ByteArray} {m t : Nat} {out : List Nat} {e t' : Nat} {o : List Nat} (h : Sy fl ll fd ld s m t out e t' o) : e = 0 → out.length ≤ o.length ∧ ∀ m', (o.length ≤ m' → Sy fl ll fd ld s m' t out 0 t' o) ∧ (out.length ≤ m' → m' < o.length → ∃ t3 o3, Sy fl ll fd ld s m' t out 2 t3 o3) := by
  induction h with
  | err t out e i t1 n he => intro h0; exact absurd h0 he
  | fin t out t1 n => intro _; exact ⟨Nat.le_refl _, fun m' => ⟨fun _ => .fin t out t1 n, fun h1 h2 => by omega⟩⟩
  | full => intro h0; exact absurd h0 (by decide)
  | lit t out i t1 n hi hm e t' out' r ih =>
    intro h0
    obtain ⟨h1, h2⟩ := ih h0
    simp at h1
    subst h0
    refine ⟨by omega, fun m' => ⟨fun hm' => .lit t out i t1 n hi (by omega) 0 t' out' ((h2 m').1 hm'), fun ha hb => ?_⟩⟩
    by_cases hc : m' ≤ out.length
    · exact ⟨t1, out, .full t out i t1 n hi hc⟩
    · obtain ⟨t3, o3, h3⟩ := (h2 m').2 (by simp; omega) hb
      exact ⟨t3, o3, .lit t out i t1 n hi (by omega) 2 t3 o3 h3⟩
  | agErr t out i t1 n hi e t2 out2 a he => intro h0; exact absurd h0 he
  | ag t out i t1 n hi t2 out2 a e t' out' r ih =>
    intro h0
    obtain ⟨h1, h2⟩ := ih h0
    obtain ⟨g1, g2⟩ := ag_bound a
    subst h0
    refine ⟨by omega, fun m' => ⟨fun hm' => .ag t out i t1 n hi t2 out2 ((g2 m').1 (by omega)) 0 t' out' ((h2 m').1 hm'), fun ha hb => ?_⟩⟩
    by_cases hc : m' < out2.length
    · exact ⟨t2, out, .agErr t out i t1 n hi 2 t2 out ((g2 m').2 hc) (by decide)⟩
    · obtain ⟨t3, o3, h3⟩ := (h2 m').2 (by omega) hb
      exact ⟨t3, o3, .ag t out i t1 n hi t2 out2 ((g2 m').1 (by omega)) 2 t3 o3 h3⟩

theorem bk_bound {s : ByteArray} {m k t : Nat} {out : List Nat} {e t' : Nat} {o : List Nat} (h : Bk s m k t out e t' o) (h0 : e = 0) : out.length ≤ o.length ∧ ∀ m', (o.length ≤ m' → Bk s m' k t out 0 t' o) ∧ (out.length ≤ m' → m' < o.length → ∃ t3 o3, Bk s m' k t out 2 t3 o3) := by
  cases h with
  | stored _ _ _ _ _ h =>
    subst h0
    obtain ⟨h1, h2⟩ := st_bound h
    exact ⟨h1, fun m' => ⟨fun hm => .stored t out 0 t' o ((h2 m').1 hm), fun _ hb => by
      obtain ⟨t3, h3⟩ := (h2 m').2 hb
      exact ⟨t3, out, .stored t out 2 t3 out h3⟩⟩⟩
  | fixed _ _ _ _ _ h =>
    obtain ⟨h1, h2⟩ := sy_bound h h0
    exact ⟨h1, fun m' => ⟨fun hm => .fixed t out 0 t' o ((h2 m').1 hm), fun ha hb => by
      obtain ⟨t3, o3, h3⟩ := (h2 m').2 ha hb
      exact ⟨t3, o3, .fixed t out 2 t3 o3 h3⟩⟩⟩
  | head _ _ _ _ told h he => exact absurd h0 he
  | dyn _ _ t1 told h _ _ _ r =>
    obtain ⟨h1, h2⟩ := sy_bound r h0
    exact ⟨h1, fun m' => ⟨fun hm => .dyn t out t1 told h 0 t' o ((h2 m').1 hm), fun ha hb => by
      obtain ⟨t3, o3, h3⟩ := (h2 m').2 ha hb
      exact ⟨t3, o3, .dyn t out t1 told h 2 t3 o3 h3⟩⟩⟩
  | bad => exact absurd h0 (by decide)

theorem un_bound {s : ByteArray} {m t : Nat} {out : List Nat} {e t' : Nat} {o : List Nat} (h : Un s m t out e t' o) : e = 0 → out.length ≤ o.length ∧ ∀ m', (o.length ≤ m' → Un s m' t out 0 t' o) ∧ (out.length ≤ m' → m' < o.length → ∃ t3 o3, Un s m' t out 2 t3 o3) := by
  induction h with
  | cut1 => intro h0; exact absurd h0 (by decide)
  | cut2 => intro h0; exact absurd h0 (by decide)
  | err t out hf e t' out' b he => intro h0; exact absurd h0 he
  | last t out hf h1 t' out' b =>
    intro _
    obtain ⟨g1, g2⟩ := bk_bound b rfl
    exact ⟨g1, fun m' => ⟨fun hm => .last t out hf h1 t' out' ((g2 m').1 hm), fun ha hb => by
      obtain ⟨t3, o3, h3⟩ := (g2 m').2 ha hb
      exact ⟨t3, o3, .err t out hf 2 t3 o3 h3 (by decide)⟩⟩⟩
  | more t out hf h1 t1 out1 b e t' out' r ih =>
    intro h0
    obtain ⟨i1, i2⟩ := ih h0
    obtain ⟨g1, g2⟩ := bk_bound b rfl
    refine ⟨by omega, fun m' => ⟨fun hm => .more t out hf h1 t1 out1 ((g2 m').1 (by omega)) 0 t' out' ((i2 m').1 hm), fun ha hb => ?_⟩⟩
    by_cases hc : m' < out1.length
    · obtain ⟨t3, o3, h3⟩ := (g2 m').2 ha hc
      exact ⟨t3, o3, .err t out hf 2 t3 o3 h3 (by decide)⟩
    · obtain ⟨t3, o3, h3⟩ := (i2 m').2 (by omega) hb
      exact ⟨t3, o3, .more t out hf h1 t1 out1 ((g2 m').1 (by omega)) 2 t3 o3 h3⟩
end Inf

/-- Bytes behind what there is. -/
theorem pre_append (p q : ByteArray) : Inf.Pre p (p ++ q) := by
  refine ⟨by simp, fun j hj => ?_⟩
  rw [← byte_get p j hj, ← byte_get (p ++ q) j (by simp; omega), ByteArray.getElem_append_left hj]

theorem extract_mid (a d m : ByteArray) : (a ++ d ++ m).extract a.size (a ++ d ++ m).size = d ++ m := by
  rw [ByteArray.append_assoc]
  generalize d ++ m = x
  apply ByteArray.ext
  rw [ByteArray.data_extract, ByteArray.data_append, ByteArray.size_append]
  apply Array.ext'
  rw [Array.toList_extract, Array.toList_append]
  show List.extract (a.data.toList ++ x.data.toList) a.data.size (a.data.size + x.data.size) = _
  rw [List.extract_eq_take_drop, ← Array.length_toList (xs := a.data), List.drop_left, ← Array.length_toList (xs := x.data)]
  simp
  exact List.take_of_length_le (by show x.data.toList.length ≤ x.data.size; rw [Array.length_toList]; exact Nat.le_refl _)

/-- Behind other bytes, and ahead of more: the same. -/
theorem more_says {d more : ByteArray} {f m : Nat} {S : ByteArray} {N : Nat} {S2 : ByteArray} {N2 C2 A2 : Nat} (h : Says d 0 m S N 0 0) (h2 : Says (d ++ more) f m S2 N2 C2 A2) : S2 = S ∧ N2 = f + N ∧ C2 = 0 ∧ A2 = 0 ∧ N ≤ d.size := by
  obtain ⟨er, t', out', hun, ht', hr⟩ := h
  obtain ⟨er2, t2, out2, hun2, ht2, hr2⟩ := h2
  rcases hr with ⟨h0, hS, hN, _, _⟩ | ⟨h0, _, _, hC, _⟩
  · subst h0
    have hx := (pre_append d more).un hun (Inf.bd_zero _ _) (by decide)
    obtain ⟨rfl, rfl, rfl⟩ := hx.det hun2
    rcases hr2 with ⟨_, gS, gN, gC, gA⟩ | ⟨g0, _⟩
    · exact ⟨by rw [gS, hS], by omega, gC, gA, by omega⟩
    · exact absurd rfl g0
  · omega

/-- A bound that is just enough; one that is too low. -/
theorem bound_says {d : ByteArray} {m : Nat} {S : ByteArray} {N : Nat} (h : Says d 0 m S N 0 0) : (∀ S2 N2 C2 A2, Says d 0 S.size S2 N2 C2 A2 → S2 = S ∧ N2 = N ∧ C2 = 0 ∧ A2 = 0) ∧ (0 < S.size → ∀ S2 N2 C2 A2, Says d 0 (S.size - 1) S2 N2 C2 A2 → C2 = 2) := by
  obtain ⟨er, t', out', hun, ht', hr⟩ := h
  rcases hr with ⟨h0, hS, hN, _, _⟩ | ⟨h0, _, _, hC, _⟩
  · subst h0
    obtain ⟨g1, g2⟩ := Inf.un_bound hun rfl
    have hsz : S.size = out'.length := by rw [hS, size_strOf]
    refine ⟨fun S2 N2 C2 A2 h2 => ?_, fun hpos S2 N2 C2 A2 h2 => ?_⟩
    · obtain ⟨er2, t2, out2, hun2, ht2, hr2⟩ := h2
      rw [hsz] at hun2
      obtain ⟨rfl, rfl, rfl⟩ := ((g2 out'.length).1 (Nat.le_refl _)).det hun2
      rcases hr2 with ⟨_, gS, gN, gC, gA⟩ | ⟨g0, _⟩
      · exact ⟨by rw [gS, hS], by omega, gC, gA⟩
      · exact absurd rfl g0
    · obtain ⟨er2, t2, out2, hun2, ht2, hr2⟩ := h2
      rw [hsz] at hun2
      obtain ⟨t3, o3, h3⟩ := (g2 (out'.length - 1)).2 (by simp) (by omega)
      obtain ⟨rfl, rfl, rfl⟩ := h3.det hun2
      rcases hr2 with ⟨g0, _⟩ | ⟨_, _, _, gC, _⟩
      · exact absurd g0 (by decide)
      · exact gC
  · omega
end Go.Proofs.YtohcngiiijokkaaDoor
