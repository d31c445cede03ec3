/- Texts of this proof, one behind the other: what each says stands ahead of it. -/
import Derived.Test.YtffjkceedbblgaaGreatDoorM30
import Derived.Deep.CutRange
import Derived.Test.YtffjkceedbblgaaGreatDoorM29
/- A reader of parts: name; conditions: those told. -/
namespace Go.Proofs.YtffjkceedbblgaaGreatDoor
open Go.RowKit

set_option maxRecDepth 100000 in
set_option maxHeartbeats 8000000 in
theorem name_no1 (b : Nat) (s : ByteArray) (t : Nat) (w : World) (r : Gr w b s t) (_hs : s.size ≤ 70368744177664) (ht : t ≤ s.size) (HZ : Gz.zeroAt s t = none) :
    Calls Tryz.prog 53 #[.pointer (some ⟨b, 0, none⟩)] w fun e w' => e = .returned (.tuple #[.string ⟨#[]⟩, .agg #[.int .i64 3, .int .i64 (t : Nat)]]) ∧ Touch (fun k => k = b) w w' := by
  have T0 := hid ((Touch.refl (fun _ => False) w).alloc (.cells #[.int .i64 0, .int .i64 0] 31))
  have r0 := r.new T0.out id
  have FB0 := hid (two_new (w := w) (.int .i64 0) (.int .i64 0) 31)
  have HB := hid r.lt
  have KI := hid (fun w => index_any (s.extract t s.size) w)
  rw [first_nul s t ht, HZ] at KI
  have c0 := r0.c0
  have c1 := r0.c1
  have R0 := hid r0
  clear r r0 HZ
  go_enter Tryz.func53, Tryz.ntmps53
  go_upto_region 1 with fail
  generalize w.alloc (.cells #[.int .i64 0, .int .i64 0] 31) = w0 at *
  obtain ⟨q, hq⟩ : ∃ q, q = w.heap.size := ⟨_, rfl⟩
  rw [← hq] at FB0 ⊢
  have HQ := hid (show w.heap.size ≤ q ∧ b < q from ⟨by omega, by have := HB.out; omega⟩)
  clear hq HB
  go_region_with (go_at_call 37; refine (KI.out _).mono ?_; rintro e w ⟨rfl, rfl⟩)
  all_goals
    clear KI
    go_wp2_with fail
    refine (fault_any b s t 3 _ (R0.out.new ((Touch.refl (fun _ => False) w0).drew) id)).mono ?_
    rintro e w1 ⟨rfl, t1⟩
    have T1 := hid ((T0.out.drew).trans t1 (fun _ _ e => e))
    have fb1 := (t1.block q (lt_of_block (w := w0.drew) FB0.out) id).trans FB0.out
    have g0 := cell_two0 fb1
    have g1 := cell_two1 fb1
    have gf0 := free_two (i := 0) fb1
    have gf1 := free_two (i := 1) fb1
    have FB1 := hid fb1
    clear fb1 t1
    go_wp2
    refine bodyPost_ret (results_tc rfl _ _ q 31 _ (0, 0) _ rfl (fset FB1.out _ _) Tryz.underlying31 rfl (by kernel_rfl)) rfl ?_
    exact ⟨rfl, ftouch (T1.out.one b) HQ.out.1 _ _⟩
set_option maxRecDepth 100000 in
set_option maxHeartbeats 8000000 in
theorem name_no2 (b : Nat) (s : ByteArray) (t z : Nat) (w : World) (r : Gr w b s t) (_hs : s.size ≤ 70368744177664) (ht : t ≤ s.size) (HZ : Gz.zeroAt s t = some z) (hl : 256 < z - t) :
    Calls Tryz.prog 53 #[.pointer (some ⟨b, 0, none⟩)] w fun e w' => e = .returned (.tuple #[.string ⟨#[]⟩, .agg #[.int .i64 2, .int .i64 (t : Nat)]]) ∧ Touch (fun k => k = b) w w' := by
  have T0 := hid ((Touch.refl (fun _ => False) w).alloc (.cells #[.int .i64 0, .int .i64 0] 31))
  have r0 := r.new T0.out id
  have FB0 := hid (two_new (w := w) (.int .i64 0) (.int .i64 0) 31)
  have HB := hid r.lt
  have KI := hid (fun w => index_any (s.extract t s.size) w)
  rw [first_nul s t ht, HZ] at KI
  replace KI := hid (fun w => KI.out w)
  simp only at KI
  have hin := Gz.zero_in HZ
  obtain ⟨m, hm⟩ : ∃ m, m = z - t := ⟨_, rfl⟩
  rw [← hm] at KI hl
  have hl1 : (256 : Int) < (m : Int) := by omega
  have hl2 : ¬ ((m : Int) < 0) := by omega
  clear hin hm hl
  have c0 := r0.c0
  have c1 := r0.c1
  have R0 := hid r0
  clear r r0 HZ
  go_enter Tryz.func53, Tryz.ntmps53
  go_upto_region 1 with fail
  generalize w.alloc (.cells #[.int .i64 0, .int .i64 0] 31) = w0 at *
  obtain ⟨q, hq⟩ : ∃ q, q = w.heap.size := ⟨_, rfl⟩
  rw [← hq] at FB0 ⊢
  have HQ := hid (show w.heap.size ≤ q ∧ b < q from ⟨by omega, by have := HB.out; omega⟩)
  clear hq HB
  go_region_with (go_at_call 37; refine (KI.out _).mono ?_; rintro e w ⟨rfl, rfl⟩)
  all_goals
    clear KI
    go_wp2_with fail
    refine (fault_any b s t 2 _ (R0.out.new ((Touch.refl (fun _ => False) w0).drew) id)).mono ?_
    rintro e w1 ⟨rfl, t1⟩
    have T1 := hid ((T0.out.drew).trans t1 (fun _ _ e => e))
    have fb1 := (t1.block q (lt_of_block (w := w0.drew) FB0.out) id).trans FB0.out
    have g0 := cell_two0 fb1
    have g1 := cell_two1 fb1
    have gf0 := free_two (i := 0) fb1
    have gf1 := free_two (i := 1) fb1
    have FB1 := hid fb1
    clear fb1 t1
    go_wp2
    refine bodyPost_ret (results_tc rfl _ _ q 31 _ (0, 0) _ rfl (fset FB1.out _ _) Tryz.underlying31 rfl (by kernel_rfl)) rfl ?_
    exact ⟨rfl, ftouch (T1.out.one b) HQ.out.1 _ _⟩
set_option maxRecDepth 100000 in
set_option maxHeartbeats 8000000 in
theorem name_yes (b : Nat) (s : ByteArray) (t z : Nat) (w : World) (r : Gr w b s t) (hs : s.size ≤ 70368744177664) (ht : t ≤ s.size) (HZ : Gz.zeroAt s t = some z) (hl : z - t ≤ 256) :
    Calls Tryz.prog 53 #[.pointer (some ⟨b, 0, none⟩)] w fun e w' => e = .returned (.tuple #[.string (s.extract t z), .agg #[.int .i64 0, .int .i64 0]]) ∧ GStep w w' b s (z + 1) := by
  have T0 := hid ((Touch.refl (fun _ => False) w).alloc (.cells #[.int .i64 0, .int .i64 0] 31))
  have r0 := r.new T0.out id
  have FB0 := hid (two_new (w := w) (.int .i64 0) (.int .i64 0) 31)
  have HB := hid r.lt
  have KI := hid (fun w => index_any (s.extract t s.size) w)
  rw [first_nul s t ht, HZ] at KI
  replace KI := hid (fun w => KI.out w)
  simp only at KI
  have hin := Gz.zero_in HZ
  obtain ⟨m, hm⟩ : ∃ m, m = z - t := ⟨_, rfl⟩
  rw [← hm] at KI hl
  have hl1 : ¬ ((256 : Int) < (m : Int)) := by omega
  have hl2 : ¬ ((m : Int) < 0) := by omega
  have hw : IntKind.i64.wrap ((t : Int) + (m : Int)) = (z : Int) := by rw [IntKind.wrap_i64]; omega
  have hw2 : IntKind.i64.wrap ((t : Int) + ((m : Int) + 1)) = ((z + 1 : Nat) : Int) := by rw [IntKind.wrap_i64]; omega
  obtain ⟨z1, hz1⟩ : ∃ z1, z1 = z + 1 := ⟨_, rfl⟩
  rw [← hz1] at hw2 ⊢
  have h1 : t ≤ z := hin.1
  have h2 : z ≤ s.size := by omega
  have hm2 : (m : Int) ≤ 256 := by omega
  clear hin hm hl hz1
  have c0 := r0.c0
  have c1 := r0.c1
  have R0 := hid r0
  clear r r0 HZ
  go_enter Tryz.func53, Tryz.ntmps53
  go_upto_region 1 with fail
  generalize w.alloc (.cells #[.int .i64 0, .int .i64 0] 31) = w0 at *
  obtain ⟨q, hq⟩ : ∃ q, q = w.heap.size := ⟨_, rfl⟩
  rw [← hq] at FB0 ⊢
  have HQ := hid (show w.heap.size ≤ q ∧ b < q from ⟨by omega, by have := HB.out; omega⟩)
  clear hq HB
  have f1 := R0.out.f1
  go_region_with (go_at_call 37; refine (KI.out _).mono ?_; rintro e w ⟨rfl, rfl⟩)
  all_goals
    clear KI
    go_wp2
    go_region
    have hqb : q ≠ b := by have := HQ.out; omega
    have hbq : b ≠ q := Ne.symm hqb
    have FB1 := hid (show (w0.setCell ⟨b, 1, none⟩ (.int .i64 (z1 : Nat))).heap[q]? = some (.cells #[.int .i64 0, .int .i64 0] 31 (0, 0)) from (Below.heap_setCell w0 _ _ _ hqb).trans FB0.out)
    have g0 := cell_two0 FB1.out
    have g1 := cell_two1 FB1.out
    have gf0 := free_two (i := 0) FB1.out
    have gf1 := free_two (i := 1) FB1.out
    have GS := hid (R0.out.set (Touch.refl (fun _ => False) w0) z1)
    have HQB := hid hqb
    clear hqb hbq
    go_wp2
    refine bodyPost_ret (results_tc rfl _ _ q 31 #[.int .i64 0, .int .i64 0] (0, 0) _ rfl (fset (w' := w0.setCell ⟨b, 1, none⟩ (.int .i64 (z1 : Nat))) FB1.out _ _) Tryz.underlying31 rfl (by kernel_rfl)) rfl ?_
    exact ⟨rfl, ⟨Gr.fset (w := w0.setCell ⟨b, 1, none⟩ (.int .i64 (z1 : Nat))) GS.out.gr (Ne.symm HQB.out) _ _, (ftouch ((T0.out.one b).trans GS.out.touch (fun _ _ e => e)) HQ.out.1 _ _).drew.drew⟩⟩
end Go.Proofs.YtffjkceedbblgaaGreatDoor

/- A reader of parts: headSum; conditions: those told. -/
namespace Go.Proofs.YtffjkceedbblgaaGreatDoor
open Go.RowKit

/-- A fault, or none and a place further on. -/
def FPost (w : World) (b : Nat) (s : ByteArray) : Except Gz.Bad Nat → Ending → World → Prop
  | .error x, e, w' => e = .returned (.agg #[.int .i64 (x.1 : Nat), .int .i64 (x.2 : Nat)]) ∧ Touch (fun k => k = b) w w'
  | .ok t', e, w' => e = .returned (.agg #[.int .i64 0, .int .i64 0]) ∧ GStep w w' b s t'
theorem num_cut (s : ByteArray) (t n : Nat) (h : t + n ≤ s.size) : (s.extract t (t + n)).size = n ∧ Gz.num (s.extract t (t + n)) 0 n = Gz.num s t n := by
  have hx : (s.extract t (t + n)).size = n := by rw [ByteArray.size_extract]; omega
  refine ⟨hx, ?_⟩
  rw [← (show Gz.Win (s.extract t (t + n)) s t from ⟨by omega, fun i hi => (Gz.byteN_extract s t (t + n) i h (by omega)).symm⟩).num n 0 (by omega), Nat.add_zero]
theorem number_cut (s : ByteArray) (t n : Nat) (h : t + n ≤ s.size) (hn : n ≤ 4) (w : World) : Calls Tryz.prog 51 #[.string (s.extract t (t + n))] w fun e w' => e = .returned (.int .i64 ((Gz.num s t n : Nat) : Int)) ∧ w = w' := by
  obtain ⟨h1, h2⟩ := num_cut s t n h
  have := number_any (s.extract t (t + n)) (by omega) w
  rw [h1, h2] at this
  exact this
set_option maxRecDepth 100000 in
set_option maxHeartbeats 8000000 in
theorem headSum_any (b : Nat) (s : ByteArray) (p t : Nat) (w : World) (r : Gr w b s t) (hq : Quart w) (hb0 : b ≠ 0) (hs : s.size ≤ 70368744177664) (hp : p ≤ t) (ht : t ≤ s.size) :
    Calls Tryz.prog 35 #[.pointer (some ⟨b, 0, none⟩), .int .i64 (p : Nat)] w (FPost w b s (Gz.sumAt s p t true)) := by
  unfold Gz.sumAt
  rw [if_pos rfl]
  by_cases h : s.size < t + 2
  · rw [if_pos h]
    show Calls Tryz.prog 35 _ w fun e w' => _ ∧ _
    have T0 := hid ((Touch.refl (fun _ => False) w).alloc (.cells #[.int .i64 0, .int .i64 0] 31))
    have r0 := r.new T0.out id
    have FB0 := hid (two_new (w := w) (.int .i64 0) (.int .i64 0) 31)
    have HB := hid r.lt
    have Q0 := hid (hq.new T0.out id)
    have c1 := r0.c1
    have R0 := hid r0
    clear r r0 hq
    go_enter Tryz.func35, Tryz.ntmps35
    go_wp2_with fail
    generalize w.alloc (.cells #[.int .i64 0, .int .i64 0] 31) = w0 at *
    obtain ⟨q, hq⟩ : ∃ q, q = w.heap.size := ⟨_, rfl⟩
    rw [← hq] at FB0 ⊢
    have HQ := hid (show w.heap.size ≤ q ∧ b < q from ⟨by omega, by have := HB.out; omega⟩)
    clear hq HB c1
    refine (gtake_no b s t 2 w0 R0.out (by omega) (by omega) ht h).mono ?_
    rintro e w1 ⟨rfl, t1⟩
    have T1 := hid (T0.out.trans t1 (fun _ _ e => e))
    have R1 := hid (R0.out.new t1 id)
    have FB1 := hid ((t1.block q (lt_of_block FB0.out) id).trans FB0.out)
    clear t1 T0 R0 FB0 Q0
    go_wp2_with fail
    refine (fault_any b s t 3 w1 R1.out).mono ?_
    rintro e w2 ⟨rfl, t2⟩
    have T2 := hid (T1.out.trans t2 (fun _ _ e => e))
    have fb := (t2.block q (lt_of_block FB1.out) id).trans FB1.out
    clear t2 T1 R1 FB1
    have g0 := cell_two0 fb
    have g1 := cell_two1 fb
    have gf0 := free_two (i := 0) fb
    have gf1 := free_two (i := 1) fb
    have FB := hid fb
    clear fb
    go_wp2
    refine bodyPost_ret (results_c rfl _ _ q 31 _ (0, 0) _ rfl (fset FB.out _ _) Tryz.underlying31 rfl (by kernel_rfl)) rfl ?_
    exact ⟨rfl, ftouch (T2.out.one b) HQ.out.1 _ _⟩
  · rw [if_neg h]
    have KN := hid (fun w => number_cut s t 2 (by omega) (by decide) w)
    have KL := hid (fun w hq => lowSum_any (s.extract p t) (by rw [ByteArray.size_extract]; omega) w hq)
    have KT := hid (fun w r => gtake_yes b s t 2 w r (by omega) (by omega))
    obtain ⟨n, hn⟩ : ∃ n, n = Gz.num s t 2 := ⟨_, rfl⟩
    obtain ⟨m, hm⟩ : ∃ m, m = Gz.sum (s.extract p t) % 65536 := ⟨_, rfl⟩
    rw [← hn, ← hm]
    simp only [← hn] at KN
    simp only [← hm] at KL
    clear hn hm
    have HPT := hid hp
    by_cases h2 : n ≠ m
    · rw [if_pos h2]
      show Calls Tryz.prog 35 _ w fun e w' => _ ∧ _
      have hI : ((n : Int) == (m : Int)) = false := by simp; omega
      clear h2
      have T0 := hid ((Touch.refl (fun _ => False) w).alloc (.cells #[.int .i64 0, .int .i64 0] 31))
      have r0 := r.new T0.out id
      have FB0 := hid (two_new (w := w) (.int .i64 0) (.int .i64 0) 31)
      have HB := hid r.lt
      have Q0 := hid (hq.new T0.out id)
      have c1 := r0.c1
      have R0 := hid r0
      clear r r0 hq
      go_enter Tryz.func35, Tryz.ntmps35
      go_wp2_with fail
      generalize w.alloc (.cells #[.int .i64 0, .int .i64 0] 31) = w0 at *
      obtain ⟨q, hq⟩ : ∃ q, q = w.heap.size := ⟨_, rfl⟩
      rw [← hq] at FB0 ⊢
      have HQ := hid (show w.heap.size ≤ q ∧ b < q from ⟨by omega, by have := HB.out; omega⟩)
      clear hq HB c1
      refine (KT.out w0 R0.out).mono ?_
      rintro e w1 ⟨rfl, g1⟩
      have T1 := hid ((T0.out.one b).trans g1.touch (fun _ _ e => e))
      have c0 := g1.gr.c0
      have Q1 := hid (Q0.out.new g1.touch (fun e => hb0 e.symm))
      have fb := (g1.touch.block q (lt_of_block FB0.out) (fun e => by have := HQ.out; omega)).trans FB0.out
      clear g1 T0 R0 FB0 Q0 KT
      go_wp2
      go_region_with (first | (go_at_call 51; refine (KN.out _).mono ?_; rintro e w ⟨rfl, rfl⟩) | (go_at_call 26; refine (KL.out _ (by exact Q1.out)).mono ?_; rintro e w ⟨rfl, rfl⟩))
      all_goals
        clear KN KL
        have g0 := cell_two0 fb
        have g1 := cell_two1 fb
        have gf0 := free_two (i := 0) fb
        have gf1 := free_two (i := 1) fb
        have FB := hid fb
        clear fb
        go_wp2
        refine bodyPost_ret (results_c rfl _ _ q 31 #[.int .i64 10, .int .i64 (t : Nat)] (0, 0) _ rfl (fset (w' := w1) FB.out _ _) Tryz.underlying31 rfl (by kernel_rfl)) rfl ?_
        exact ⟨rfl, (ftouch T1.out HQ.out.1 _ _).drew⟩
    · rw [if_neg h2]
      show Calls Tryz.prog 35 _ w fun e w' => _ ∧ _
      have hI : ((n : Int) == (m : Int)) = true := by simp; omega
      clear h2
      have T0 := hid ((Touch.refl (fun _ => False) w).alloc (.cells #[.int .i64 0, .int .i64 0] 31))
      have r0 := r.new T0.out id
      have FB0 := hid (two_new (w := w) (.int .i64 0) (.int .i64 0) 31)
      have HB := hid r.lt
      have Q0 := hid (hq.new T0.out id)
      have c1 := r0.c1
      have R0 := hid r0
      clear r r0 hq
      go_enter Tryz.func35, Tryz.ntmps35
      go_wp2_with fail
      generalize w.alloc (.cells #[.int .i64 0, .int .i64 0] 31) = w0 at *
      obtain ⟨q, hq⟩ : ∃ q, q = w.heap.size := ⟨_, rfl⟩
      rw [← hq] at FB0 ⊢
      have HQ := hid (show w.heap.size ≤ q ∧ b < q from ⟨by omega, by have := HB.out; omega⟩)
      clear hq HB c1
      refine (KT.out w0 R0.out).mono ?_
      rintro e w1 ⟨rfl, g1⟩
      have T1 := hid ((T0.out.one b).trans g1.touch (fun _ _ e => e))
      have c0 := g1.gr.c0
      have R1 := hid g1.gr
      have Q1 := hid (Q0.out.new g1.touch (fun e => hb0 e.symm))
      have fb := (g1.touch.block q (lt_of_block FB0.out) (fun e => by have := HQ.out; omega)).trans FB0.out
      clear g1 T0 R0 FB0 Q0 KT
      go_wp2
      go_region_with (first | (go_at_call 51; refine (KN.out _).mono ?_; rintro e w ⟨rfl, rfl⟩) | (go_at_call 26; refine (KL.out _ (by exact Q1.out)).mono ?_; rintro e w ⟨rfl, rfl⟩))
      all_goals
        clear KN KL
        have g0 := cell_two0 fb
        have g1 := cell_two1 fb
        have gf0 := free_two (i := 0) fb
        have gf1 := free_two (i := 1) fb
        have FB := hid fb
        clear fb
        go_wp2
        refine bodyPost_ret (results_c rfl _ _ q 31 #[.int .i64 0, .int .i64 0] (0, 0) _ rfl (fset (w' := w1) FB.out _ _) Tryz.underlying31 rfl (by kernel_rfl)) rfl ?_
        have hbq : b ≠ q := by have := HQ.out; omega
        exact ⟨rfl, ⟨R1.out.fset hbq _ _, (ftouch T1.out HQ.out.1 _ _).drew⟩⟩
end Go.Proofs.YtffjkceedbblgaaGreatDoor

/- A reader of parts: packed; conditions: those told. -/
namespace Go.Proofs.YtffjkceedbblgaaGreatDoor
open Go.RowKit

/-- A text and a place further on, or a fault. -/
def TPost (w : World) (b : Nat) (s : ByteArray) : Except Gz.Bad (ByteArray × Nat) → Ending → World → Prop
  | .error x, e, w' => e = .returned (.tuple #[.string ⟨#[]⟩, .agg #[.int .i64 (x.1 : Nat), .int .i64 (x.2 : Nat)]]) ∧ Touch (fun k => k = b) w w'
  | .ok x, e, w' => e = .returned (.tuple #[.string x.1, .agg #[.int .i64 0, .int .i64 0]]) ∧ GStep w w' b s x.2
theorem says_small {d : ByteArray} {f m : Nat} {S : ByteArray} {N C A : Nat} (h : Says d f m S N C A) : S.size ≤ 400000 * d.size := by
  obtain ⟨er, t', out', hun, ht, hr⟩ := h
  rcases hr with ⟨_, h1, _⟩ | ⟨_, h1, _⟩
  · have hb := (Inf.un_bd hun (Inf.bd_zero _ _)).bits
    rw [h1, size_strOf]
    omega
  · rw [h1]
    simp
set_option maxRecDepth 100000 in
set_option maxHeartbeats 8000000 in
theorem packed_any (b : Nat) (s : ByteArray) (t most : Nat) (w : World) (r : Gr w b s t) (hq : Quart w) (hb0 : b ≠ 0) (hs : s.size ≤ 140737488) (ht : t ≤ s.size) (hm : most ≤ 9223372036854775807) :
    Calls Tryz.prog 36 #[.pointer (some ⟨b, 0, none⟩), .int .i64 (most : Nat)] w fun e w' => ∃ x, Gz.packR s t most x ∧ TPost w b s x e w' := by
  have KU := hid (fun w => Unpack_says s t most w (by omega) ht hm (.inr (by omega)))
  have T0 := hid ((Touch.refl (fun _ => False) w).alloc (.cells #[.int .i64 0, .int .i64 0] 31))
  have r0 := r.new T0.out id
  have FB0 := hid (two_new (w := w) (.int .i64 0) (.int .i64 0) 31)
  have HB := hid r.lt
  have Q0 := hid (hq.new T0.out id)
  have c0 := r0.c0
  have c1 := r0.c1
  have R0 := hid r0
  clear r r0 hq
  go_enter Tryz.func36, Tryz.ntmps36
  go_upto_region 1 with fail
  generalize w.alloc (.cells #[.int .i64 0, .int .i64 0] 31) = w0 at *
  obtain ⟨q, hq⟩ : ∃ q, q = w.heap.size := ⟨_, rfl⟩
  rw [← hq] at FB0 ⊢
  have HQ := hid (show w.heap.size ≤ q ∧ b < q from ⟨by omega, by have := HB.out; omega⟩)
  clear hq HB
  have RA := hid (R0.out.new ((Touch.refl (fun _ => False) w0).alloc (.cells #[.int .i64 0, .int .i64 0] 31)) id)
  have c0a := RA.out.c0
  have c1a := RA.out.c1
  have HW0 := hid (show q < w0.heap.size from lt_of_block FB0.out)
  go_cut [6, 7, 8] (fun v6 v7 v8 wd => ∃ (S : ByteArray) (N C A q8 : Nat), v6 = .string S ∧ v7 = .int .i64 (N : Nat) ∧ v8 = .pointer (some ⟨q8, 0, none⟩) ∧ Says (s.extract t s.size) t most S N C A ∧ wd.heap[q8]? = some (.cells #[.int .i64 (C : Nat), .int .i64 (A : Nat)] 31 (0, 0)) ∧ q < q8 ∧ Touch (fun _ => False) w0 wd)
  case first =>
    go_region_with (go_at_call 54; refine (KU.out _).mono ?_; rintro e w2 ⟨S, N, C, A, rfl, hsy, tc⟩; have HSY := hid hsy; have TC := hid tc; (try (have jb : w2.heap[w0.heap.size]? = some (.cells #[.int .i64 0, .int .i64 0] 31 (0, 0)) := (tc.block _ (by simp) id).trans (by show (w0.heap.push _)[_]? = _; simp); have JB := hid jb; have j0 := cell_two0 jb; have j1 := cell_two1 jb; have jf0 := free_two (i := 0) jb; have jf1 := free_two (i := 1) jb; clear jb)); clear hsy tc)
    all_goals
      go_wp2_with fail
      go_meet
      case rel => first
        | exact ⟨S, N, C, A, _, rfl, rfl, rfl, HSY.out, two_new _ _ _, Nat.lt_of_lt_of_le HW0.out TC.out.size, (((Touch.refl (fun _ => False) w0).drew.trans TC.out (fun _ _ e => e)).alloc _)⟩
        | exact ⟨S, N, C, A, w0.heap.size, rfl, rfl, rfl, HSY.out, fset JB.out _ _, HW0.out, ftouch (((Touch.refl (fun _ => False) w0).alloc _).drew.trans TC.out (fun _ _ e => e)) (Nat.le_refl _) _ _⟩
  obtain ⟨S, N, C, A, q8, rfl, rfl, rfl, hsy, hb8, hq8, tc⟩ := hcut
  have HIN := hid (Gz.says_in ht hsy)
  have HSY := hid hsy
  have T1 := hid (T0.out.trans tc (fun _ _ e => e))
  have R1 := hid (R0.out.new tc id)
  have Q1 := hid (Q0.out.new tc id)
  have FB1 := hid ((tc.block q (lt_of_block FB0.out) id).trans FB0.out)
  have H8 := hid hq8
  have k0 := cell_two0 hb8
  have k1 := cell_two1 hb8
  have B8 := hid hb8
  clear hsy tc hb8 hq8 T0 R0 Q0 FB0 RA c0 c1 c0a c1a KU HW0
  by_cases hC : C = 0
  · subst hC
    have r1 := R1.out
    have c1 := r1.c1
    have f1 := r1.f1
    obtain ⟨hN1, hN2⟩ := HIN.out.2 rfl
    have GS := hid (r1.set (Touch.refl (fun _ => False) wc) N)
    have hqb : q ≠ b := by have := HQ.out; omega
    have FB2 := hid (show (wc.setCell ⟨b, 1, none⟩ (.int .i64 (N : Nat))).heap[q]? = some (.cells #[.int .i64 0, .int .i64 0] 31 (0, 0)) from (Below.heap_setCell wc _ _ _ hqb).trans FB1.out)
    have T2 := hid ((T1.out.one b).trans GS.out.touch (fun _ _ e => e))
    have Q2 := hid (Q1.out.new GS.out.touch (fun e => hb0 e.symm))
    have HNN := hid (show t ≤ N ∧ N ≤ s.size from ⟨hN1, hN2⟩)
    have HQB := hid hqb
    clear r1 hqb hN1 hN2 T1 R1 Q1 FB1 B8
    go_wp2_with fail
    generalize wc.setCell ⟨b, 1, none⟩ (.int .i64 (N : Nat)) = w2 at *
    by_cases h8 : s.size < N + 8
    · refine (gtake_no b s N 8 w2 GS.out.gr (by omega) (by omega) HNN.out.2 h8).mono ?_
      rintro e w3 ⟨rfl, t3⟩
      have T3 := hid (T2.out.trans t3 (fun _ _ e => e.elim))
      have R3 := hid (GS.out.gr.new t3 id)
      have FB3 := hid ((t3.block q (lt_of_block FB2.out) id).trans FB2.out)
      clear t3 T2 FB2 Q2 k0 k1 c1 f1
      go_wp2_with fail
      refine (fault_any b s N 3 w3 R3.out).mono ?_
      rintro e w4 ⟨rfl, t4⟩
      have T4 := hid (T3.out.trans t4 (fun _ _ e => e.elim))
      have fb := (t4.block q (lt_of_block FB3.out) id).trans FB3.out
      clear t4 T3 R3 FB3
      have g0 := cell_two0 fb
      have g1 := cell_two1 fb
      have gf0 := free_two (i := 0) fb
      have gf1 := free_two (i := 1) fb
      have FB := hid fb
      clear fb
      go_wp2
      refine bodyPost_ret (results_tc rfl _ _ q 31 _ (0, 0) _ rfl (fset FB.out _ _) Tryz.underlying31 rfl (by kernel_rfl)) rfl ?_
      exact ⟨.error (3, N), ⟨S, N, 0, A, HSY.out, HIN.out.1, fun _ => HNN.out, by rw [if_neg (by decide), if_pos h8]⟩, rfl, ftouch T4.out HQ.out.1 _ _⟩
    · have hx8 : (s.extract N (N + 8)).size = 8 := by rw [ByteArray.size_extract]; omega
      have e1 : (s.extract N (N + 8)).extract 0 4 = s.extract N (N + 4) := by
        rw [ByteArray.extract_extract]
        congr 1
        omega
      have e2 : (s.extract N (N + 8)).extract 4 8 = s.extract (N + 4) (N + 8) := by
        rw [ByteArray.extract_extract]
        congr 1
        omega
      have KN1 := hid (fun w => number_cut s N 4 (by omega) (by decide) w)
      have KN2 := hid (fun w => number_cut s (N + 4) 4 (by omega) (by decide) w)
      rw [show N + 4 + 4 = N + 8 by omega] at KN2
      rw [← e1] at KN1
      rw [← e2] at KN2
      have KT := hid (fun w r => gtake_yes b s N 8 w r (by omega) (by omega))
      have hSz : S.size ≤ 140737488355328 := by
        have h1 := says_small HSY.out
        rw [ByteArray.size_extract] at h1
        omega
      have KS := hid (fun w hq => sum_any S hSz w hq)
      obtain ⟨n1, hn1⟩ : ∃ n, n = Gz.num s N 4 := ⟨_, rfl⟩
      obtain ⟨n2, hn2⟩ : ∃ n, n = Gz.num s (N + 4) 4 := ⟨_, rfl⟩
      obtain ⟨m1, hm1⟩ : ∃ n, n = Gz.sum S := ⟨_, rfl⟩
      have HPK := hid (show ∀ x, x = (if n1 ≠ m1 then Except.error (10, N) else if n2 ≠ S.size then .error (11, N + 4) else .ok (S, N + 8)) → Gz.packR s t most x from fun x hx => ⟨S, N, 0, A, HSY.out, HIN.out.1, fun _ => HNN.out, by rw [if_neg (by decide), if_neg h8, hx, hn1, hn2, hm1]⟩)
      simp only [← hn1] at KN1
      simp only [← hn2] at KN2
      simp only [← hm1] at KS
      generalize s.extract N (N + 8) = x8 at *
      clear e1 e2 hn1 hn2 hm1 k0 k1 c1 f1
      refine (KT.out w2 GS.out.gr).mono ?_
      rintro e w3 ⟨rfl, g3⟩
      have T3 := hid (T2.out.trans g3.touch (fun _ _ e => e))
      have R3 := hid g3.gr
      have FB3 := hid ((g3.touch.block q (lt_of_block FB2.out) HQB.out).trans FB2.out)
      have Q3 := hid (Q2.out.new g3.touch (fun e => hb0 e.symm))
      clear g3 T2 FB2 Q2 GS KT
      go_wp2_with fail
      refine (KN1.out w3).mono ?_
      rintro e w4 ⟨rfl, rfl⟩
      clear KN1
      go_wp2_with fail
      refine (KS.out w3 Q3.out).mono ?_
      rintro e w4 ⟨rfl, rfl⟩
      clear KS
      have fb := FB3.out
      have g0 := cell_two0 fb
      have g1 := cell_two1 fb
      have gf0 := free_two (i := 0) fb
      have gf1 := free_two (i := 1) fb
      clear fb
      by_cases h10 : n1 ≠ m1
      · have hI : ((n1 : Int) == (m1 : Int)) = false := by simp; omega
        have H10 := hid h10
        clear h10
        go_wp2
        refine bodyPost_ret (results_tc rfl _ _ q 31 _ (0, 0) _ rfl (fset FB3.out _ _) Tryz.underlying31 rfl (by kernel_rfl)) rfl ?_
        exact ⟨.error (10, N), HPK.out _ (by rw [if_pos H10.out]), rfl, ftouch T3.out HQ.out.1 _ _⟩
      · have hI : ((n1 : Int) == (m1 : Int)) = true := by simp; omega
        have H10 := hid h10
        clear h10
        go_wp2_with fail
        refine (KN2.out w3).mono ?_
        rintro e w4 ⟨rfl, rfl⟩
        clear KN2
        by_cases h11 : n2 ≠ S.size
        · have hI2 : ((n2 : Int) == (S.size : Int)) = false := by simp; omega
          have H11 := hid h11
          clear h11
          go_wp2
          refine bodyPost_ret (results_tc rfl _ _ q 31 _ (0, 0) _ rfl (fset FB3.out _ _) Tryz.underlying31 rfl (by kernel_rfl)) rfl ?_
          exact ⟨.error (11, N + 4), HPK.out _ (by rw [if_neg H10.out, if_pos H11.out]), rfl, ftouch T3.out HQ.out.1 _ _⟩
        · have hI2 : ((n2 : Int) == (S.size : Int)) = true := by simp; omega
          have H11 := hid h11
          clear h11
          go_wp2
          refine bodyPost_ret (results_tc rfl _ _ q 31 _ (0, 0) _ rfl (fset FB3.out _ _) Tryz.underlying31 rfl (by kernel_rfl)) rfl ?_
          exact ⟨.ok (S, N + 8), HPK.out _ (by rw [if_neg H10.out, if_neg H11.out]), rfl, ⟨R3.out.fset (Ne.symm HQB.out) _ _, ftouch T3.out HQ.out.1 _ _⟩⟩
  · have hCI : ((C : Int) == 0) = false := by simp; omega
    have HC := hid hC
    have fb := FB1.out
    have g0 := cell_two0 fb
    have g1 := cell_two1 fb
    have gf0 := free_two (i := 0) fb
    have gf1 := free_two (i := 1) fb
    clear fb hC
    go_wp2
    go_region
    all_goals go_wp2
    all_goals
      refine bodyPost_ret (results_tc rfl _ _ q 31 #[.int .i64 (C : Nat), .int .i64 (A : Nat)] (0, 0) _ rfl (fset (w' := wc) FB1.out _ _) Tryz.underlying31 rfl (by kernel_rfl)) rfl ?_
      exact ⟨.error (C, A), ⟨S, N, C, A, HSY.out, HIN.out.1, HIN.out.2, by rw [if_pos HC.out]⟩, rfl, (ftouch (T1.out.one b) HQ.out.1 _ _).drew⟩
end Go.Proofs.YtffjkceedbblgaaGreatDoor
