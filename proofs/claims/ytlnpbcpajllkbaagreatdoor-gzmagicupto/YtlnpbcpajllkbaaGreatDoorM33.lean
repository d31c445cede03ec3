/- Texts of this proof, one behind the other: what each says stands ahead of it. -/
import Derived.Test.YtlnpbcpajllkbaaGreatDoorM32
import Derived.Deep.RegionWith
import Derived.Deep.CutRange
/- A reader of parts: extra and name; conditions: those told. -/
namespace Go.Proofs.YtlnpbcpajllkbaaGreatDoor
open Go.RowKit

theorem fset {w' : World} {q : Nat} {u v : Value} {ty : TypeId} (h : w'.heap[q]? = some (.cells #[u, v] ty (0, 0))) (x y : Value) : ((w'.setCell ⟨q, 0, none⟩ x).setCell ⟨q, 1, none⟩ y).heap[q]? = some (.cells #[x, y] ty (0, 0)) := two_set1 (two_set0 h)
theorem ftouch {S : Nat → Prop} {w w' : World} {q : Nat} (T : Touch S w w') (hq : w.heap.size ≤ q) (x y : Value) : Touch S w ((w'.setCell ⟨q, 0, none⟩ x).setCell ⟨q, 1, none⟩ y) :=
  (T.setCell (p := ⟨q, 0, none⟩) (fun h => absurd h (Nat.not_lt.2 hq)) x).setCell (p := ⟨q, 1, none⟩) (fun h => absurd h (Nat.not_lt.2 hq)) y
theorem Gr.fset {w : World} {b q : Nat} {s : ByteArray} {t : Nat} (r : Gr w b s t) (h : b ≠ q) (x y : Value) : Gr ((w.setCell ⟨q, 0, none⟩ x).setCell ⟨q, 1, none⟩ y) b s t := by
  unfold Gr
  rw [Below.heap_setCell _ _ _ _ h, Below.heap_setCell _ _ _ _ h]
  exact r
theorem Touch.one {w w' : World} (T : Touch (fun _ => False) w w') (b : Nat) : Touch (fun k => k = b) w w' := T.mono (fun _ _ e => e.elim)
set_option maxRecDepth 100000 in
set_option maxHeartbeats 8000000 in
theorem extra_no1 (b : Nat) (s : ByteArray) (t : Nat) (w : World) (r : Gr w b s t) (hs : s.size ≤ 70368744177664) (ht : t ≤ s.size) (h : s.size < t + 2) :
    Calls Tryz.prog 52 #[.pointer (some ⟨b, 0, none⟩)] w fun e w' => e = .returned (.tuple #[.string ⟨#[]⟩, .agg #[.int .i64 3, .int .i64 (t : Nat)]]) ∧ Touch (fun k => k = b) w w' := by
  have T0 := hid ((Touch.refl (fun _ => False) w).alloc (.cells #[.int .i64 0, .int .i64 0] 31))
  have R0 := hid (r.new T0.out id)
  have FB0 := hid (two_new (w := w) (.int .i64 0) (.int .i64 0) 31)
  have HB := hid r.lt
  clear r
  go_enter Tryz.func52, Tryz.ntmps52
  go_wp2_with fail
  generalize w.alloc (.cells #[.int .i64 0, .int .i64 0] 31) = w0 at *
  obtain ⟨q, hq⟩ : ∃ q, q = w.heap.size := ⟨_, rfl⟩
  rw [← hq] at FB0 ⊢
  have HQ := hid (show w.heap.size ≤ q ∧ b < q from ⟨by omega, by have := HB.out; omega⟩)
  clear hq HB
  refine (fault_any b s t 3 w0 R0.out).mono ?_
  rintro e w1 ⟨rfl, t1⟩
  have T1 := hid (T0.out.trans t1 (fun _ _ e => e))
  have R1 := hid (R0.out.new t1 id)
  have FB1 := hid ((t1.block q (lt_of_block FB0.out) id).trans FB0.out)
  clear t1 T0 R0 FB0
  have T2 := hid (T1.out.alloc (.cells #[.int .i64 3, .int .i64 (t : Nat)] 31))
  have R2 := hid (R1.out.new ((Touch.refl (fun _ => False) w1).alloc (.cells #[.int .i64 3, .int .i64 (t : Nat)] 31)) id)
  have FB2 := hid ((((Touch.refl (fun _ => False) w1).alloc (.cells #[.int .i64 3, .int .i64 (t : Nat)] 31)).block q (lt_of_block FB1.out) id).trans FB1.out)
  have CB2 := hid (two_new (w := w1) (.int .i64 3) (.int .i64 (t : Nat)) 31)
  have HC := hid (show q < w1.heap.size from lt_of_block FB1.out)
  clear T1 R1 FB1
  go_wp2_with fail
  generalize w1.alloc (.cells #[.int .i64 3, .int .i64 (t : Nat)] 31) = w2 at *
  obtain ⟨cq, hcq⟩ : ∃ cq, cq = w1.heap.size := ⟨_, rfl⟩
  rw [← hcq] at CB2 HC ⊢
  clear hcq
  refine (gtake_no b s t 2 w2 R2.out (by omega) (by omega) ht h).mono ?_
  rintro e w3 ⟨rfl, t3⟩
  have T3 := hid (T2.out.trans t3 (fun _ _ e => e))
  have fb3 := (t3.block q (lt_of_block FB2.out) id).trans FB2.out
  have cb3 := (t3.block cq (lt_of_block CB2.out) id).trans CB2.out
  clear t3 T2 R2 FB2 CB2
  have k0 := cell_two0 cb3
  have k1 := cell_two1 cb3
  have g0 := cell_two0 fb3
  have g1 := cell_two1 fb3
  have gf0 := free_two (i := 0) fb3
  have gf1 := free_two (i := 1) fb3
  have FB3 := hid fb3
  clear fb3 cb3
  go_wp2
  go_region
  all_goals go_wp2
  all_goals
    refine bodyPost_ret (results_tc rfl _ _ q 31 _ (0, 0) _ rfl (fset FB3.out _ _) Tryz.underlying31 rfl (by kernel_rfl)) rfl ?_
    exact ⟨rfl, (ftouch (T3.out.one b) HQ.out.1 _ _).drew⟩
set_option maxRecDepth 100000 in
set_option maxHeartbeats 8000000 in
theorem extra_no2 (b : Nat) (s : ByteArray) (t : Nat) (w : World) (r : Gr w b s t) (hs : s.size ≤ 70368744177664) (_ht : t ≤ s.size) (h : t + 2 ≤ s.size) (h2 : s.size < t + 2 + Gz.num s t 2) :
    Calls Tryz.prog 52 #[.pointer (some ⟨b, 0, none⟩)] w fun e w' => e = .returned (.tuple #[.string ⟨#[]⟩, .agg #[.int .i64 3, .int .i64 (t : Nat)]]) ∧ Touch (fun k => k = b) w w' := by
  have hx2 : (s.extract t (t + 2)).size = 2 := by rw [ByteArray.size_extract]; omega
  have hnum : Gz.num (s.extract t (t + 2)) 0 2 = Gz.num s t 2 := by
    rw [← (show Gz.Win (s.extract t (t + 2)) s t from ⟨by omega, fun i hi => (Gz.byteN_extract s t (t + 2) i h (by omega)).symm⟩).num 2 0 (by omega), Nat.add_zero]
  have hnl := Gz.num_lt s 2 t
  have KN := hid (fun w => number_any (s.extract t (t + 2)) (by omega) w)
  rw [hx2] at KN
  simp only [hnum] at KN
  generalize Gz.num s t 2 = n at *
  clear hnum hx2
  have T0 := hid ((Touch.refl (fun _ => False) w).alloc (.cells #[.int .i64 0, .int .i64 0] 31))
  have R0 := hid (r.new T0.out id)
  have FB0 := hid (two_new (w := w) (.int .i64 0) (.int .i64 0) 31)
  have HB := hid r.lt
  clear r
  go_enter Tryz.func52, Tryz.ntmps52
  go_wp2_with fail
  generalize w.alloc (.cells #[.int .i64 0, .int .i64 0] 31) = w0 at *
  obtain ⟨q, hq⟩ : ∃ q, q = w.heap.size := ⟨_, rfl⟩
  rw [← hq] at FB0 ⊢
  have HQ := hid (show w.heap.size ≤ q ∧ b < q from ⟨by omega, by have := HB.out; omega⟩)
  clear hq HB
  refine (fault_any b s t 3 w0 R0.out).mono ?_
  rintro e w1 ⟨rfl, t1⟩
  have T1 := hid (T0.out.trans t1 (fun _ _ e => e))
  have R1 := hid (R0.out.new t1 id)
  have FB1 := hid ((t1.block q (lt_of_block FB0.out) id).trans FB0.out)
  clear t1 T0 R0 FB0
  have T2 := hid (T1.out.alloc (.cells #[.int .i64 3, .int .i64 (t : Nat)] 31))
  have R2 := hid (R1.out.new ((Touch.refl (fun _ => False) w1).alloc (.cells #[.int .i64 3, .int .i64 (t : Nat)] 31)) id)
  have FB2 := hid ((((Touch.refl (fun _ => False) w1).alloc (.cells #[.int .i64 3, .int .i64 (t : Nat)] 31)).block q (lt_of_block FB1.out) id).trans FB1.out)
  have CB2 := hid (two_new (w := w1) (.int .i64 3) (.int .i64 (t : Nat)) 31)
  have HC := hid (show q < w1.heap.size from lt_of_block FB1.out)
  clear T1 R1 FB1
  go_wp2_with fail
  generalize w1.alloc (.cells #[.int .i64 3, .int .i64 (t : Nat)] 31) = w2 at *
  obtain ⟨cq, hcq⟩ : ∃ cq, cq = w1.heap.size := ⟨_, rfl⟩
  rw [← hcq] at CB2 HC ⊢
  clear hcq
  refine (gtake_yes b s t 2 w2 R2.out (by omega) h).mono ?_
  rintro e w3 ⟨rfl, g3⟩
  have T3 := hid ((T2.out.one b).trans g3.touch (fun _ _ e => e))
  have R3 := hid g3.gr
  have FB3 := hid ((g3.touch.block q (lt_of_block FB2.out) (fun e => by have := HQ.out; omega)).trans FB2.out)
  have CB3 := hid ((g3.touch.block cq (lt_of_block CB2.out) (fun e => by have := HQ.out; have := HC.out; omega)).trans CB2.out)
  clear g3 T2 R2 FB2 CB2
  generalize s.extract t (t + 2) = x2 at *
  go_wp2_with fail
  refine (KN.out w3).mono ?_
  rintro e w4 ⟨rfl, rfl⟩
  clear KN
  go_wp2_with fail
  refine (gtake_no b s (t + 2) n w3 R3.out (by omega) (by omega) h h2).mono ?_
  rintro e w5 ⟨rfl, t3⟩
  have T5 := hid (T3.out.trans t3 (fun _ _ e => e.elim))
  have fb3 := (t3.block q (lt_of_block FB3.out) id).trans FB3.out
  have cb3 := (t3.block cq (lt_of_block CB3.out) id).trans CB3.out
  clear t3 T3 R3 FB3 CB3
  have k0 := cell_two0 cb3
  have k1 := cell_two1 cb3
  have g0 := cell_two0 fb3
  have g1 := cell_two1 fb3
  have gf0 := free_two (i := 0) fb3
  have gf1 := free_two (i := 1) fb3
  have FB3 := hid fb3
  clear fb3 cb3
  go_wp2
  go_region
  all_goals go_wp2
  all_goals
    refine bodyPost_ret (results_tc rfl _ _ q 31 _ (0, 0) _ rfl (fset FB3.out _ _) Tryz.underlying31 rfl (by kernel_rfl)) rfl ?_
    exact ⟨rfl, (ftouch T5.out HQ.out.1 _ _).drew⟩
set_option maxRecDepth 100000 in
set_option maxHeartbeats 8000000 in
theorem extra_yes (b : Nat) (s : ByteArray) (t : Nat) (w : World) (r : Gr w b s t) (hs : s.size ≤ 70368744177664) (h : t + 2 ≤ s.size) (h2 : t + 2 + Gz.num s t 2 ≤ s.size) :
    Calls Tryz.prog 52 #[.pointer (some ⟨b, 0, none⟩)] w fun e w' => e = .returned (.tuple #[.string (s.extract (t + 2) (t + 2 + Gz.num s t 2)), .agg #[.int .i64 0, .int .i64 0]]) ∧ GStep w w' b s (t + 2 + Gz.num s t 2) := by
  have hx2 : (s.extract t (t + 2)).size = 2 := by rw [ByteArray.size_extract]; omega
  have hnum : Gz.num (s.extract t (t + 2)) 0 2 = Gz.num s t 2 := by
    rw [← (show Gz.Win (s.extract t (t + 2)) s t from ⟨by omega, fun i hi => (Gz.byteN_extract s t (t + 2) i h (by omega)).symm⟩).num 2 0 (by omega), Nat.add_zero]
  have hnl := Gz.num_lt s 2 t
  have KN := hid (fun w => number_any (s.extract t (t + 2)) (by omega) w)
  rw [hx2] at KN
  simp only [hnum] at KN
  generalize Gz.num s t 2 = n at *
  obtain ⟨x3, hx3⟩ : ∃ x3, x3 = s.extract (t + 2) (t + 2 + n) := ⟨_, rfl⟩
  have KT := hid (fun w (r : Gr w b s (t + 2)) => gtake_yes b s (t + 2) n w r (by omega) h2)
  simp only [← hx3] at KT
  rw [← hx3]
  clear hnum hx2 hx3
  have T0 := hid ((Touch.refl (fun _ => False) w).alloc (.cells #[.int .i64 0, .int .i64 0] 31))
  have R0 := hid (r.new T0.out id)
  have FB0 := hid (two_new (w := w) (.int .i64 0) (.int .i64 0) 31)
  have HB := hid r.lt
  clear r
  go_enter Tryz.func52, Tryz.ntmps52
  go_wp2_with fail
  generalize w.alloc (.cells #[.int .i64 0, .int .i64 0] 31) = w0 at *
  obtain ⟨q, hq⟩ : ∃ q, q = w.heap.size := ⟨_, rfl⟩
  rw [← hq] at FB0 ⊢
  have HQ := hid (show w.heap.size ≤ q ∧ b < q from ⟨by omega, by have := HB.out; omega⟩)
  clear hq HB
  refine (fault_any b s t 3 w0 R0.out).mono ?_
  rintro e w1 ⟨rfl, t1⟩
  have T1 := hid (T0.out.trans t1 (fun _ _ e => e))
  have R1 := hid (R0.out.new t1 id)
  have FB1 := hid ((t1.block q (lt_of_block FB0.out) id).trans FB0.out)
  clear t1 T0 R0 FB0
  have T2 := hid (T1.out.alloc (.cells #[.int .i64 3, .int .i64 (t : Nat)] 31))
  have R2 := hid (R1.out.new ((Touch.refl (fun _ => False) w1).alloc (.cells #[.int .i64 3, .int .i64 (t : Nat)] 31)) id)
  have FB2 := hid ((((Touch.refl (fun _ => False) w1).alloc (.cells #[.int .i64 3, .int .i64 (t : Nat)] 31)).block q (lt_of_block FB1.out) id).trans FB1.out)
  have CB2 := hid (two_new (w := w1) (.int .i64 3) (.int .i64 (t : Nat)) 31)
  have HC := hid (show q < w1.heap.size from lt_of_block FB1.out)
  clear T1 R1 FB1
  go_wp2_with fail
  generalize w1.alloc (.cells #[.int .i64 3, .int .i64 (t : Nat)] 31) = w2 at *
  obtain ⟨cq, hcq⟩ : ∃ cq, cq = w1.heap.size := ⟨_, rfl⟩
  rw [← hcq] at CB2 HC ⊢
  clear hcq
  refine (gtake_yes b s t 2 w2 R2.out (by omega) h).mono ?_
  rintro e w3 ⟨rfl, g3⟩
  have T3 := hid ((T2.out.one b).trans g3.touch (fun _ _ e => e))
  have R3 := hid g3.gr
  have FB3 := hid ((g3.touch.block q (lt_of_block FB2.out) (fun e => by have := HQ.out; omega)).trans FB2.out)
  clear g3 T2 R2 FB2 CB2
  generalize s.extract t (t + 2) = x2 at *
  go_wp2_with fail
  refine (KN.out w3).mono ?_
  rintro e w4 ⟨rfl, rfl⟩
  clear KN
  go_wp2_with fail
  refine (KT.out w3 R3.out).mono ?_
  rintro e w5 ⟨rfl, g3⟩
  have T5 := hid (T3.out.trans g3.touch (fun _ _ e => e))
  have R5 := hid g3.gr
  have fb3 := (g3.touch.block q (lt_of_block FB3.out) (fun e => by have := HQ.out; omega)).trans FB3.out
  clear g3 T3 R3 FB3
  clear KT
  have g0 := cell_two0 fb3
  have g1 := cell_two1 fb3
  have gf0 := free_two (i := 0) fb3
  have gf1 := free_two (i := 1) fb3
  have FB3 := hid fb3
  clear fb3
  go_wp2
  refine bodyPost_ret (results_tc rfl _ _ q 31 _ (0, 0) _ rfl (fset FB3.out _ _) Tryz.underlying31 rfl (by kernel_rfl)) rfl ?_
  have hbq : b ≠ q := by have := HQ.out; omega
  exact ⟨rfl, ⟨R5.out.fset hbq _ _, ftouch T5.out HQ.out.1 _ _⟩⟩
theorem zf_find (s : ByteArray) : ∀ n p, (List.range n).find? (fun i => decide (Bt.byteN s (p + i) = 0)) = (Gz.zf s n p).map (· - p)
  | 0, p => by simp [Gz.zf]
  | n + 1, p => by
    rw [List.range_succ_eq_map, List.find?_cons, Gz.zf]
    by_cases h : Bt.byteN s p = 0
    · simp [h]
    · have ih := zf_find s n (p + 1)
      simp only [Nat.add_zero, h, decide_false, if_false, List.find?_map]
      have e : ((fun i => decide (Bt.byteN s (p + i) = 0)) ∘ Nat.succ) = (fun i => decide (Bt.byteN s (p + 1 + i) = 0)) := by
        funext i
        simp only [Function.comp, Nat.succ_eq_add_one]
        rw [show p + (i + 1) = p + 1 + i by omega]
      rw [e, ih]
      cases hz : Gz.zf s n (p + 1) with
      | none => rfl
      | some z =>
        have := Gz.zf_in s n (p + 1) z hz
        simp
        omega
theorem find_same {α : Type} {p q : α → Bool} : ∀ (l : List α), (∀ i ∈ l, p i = q i) → l.find? p = l.find? q
  | [], _ => rfl
  | x :: l, h => by
    rw [List.find?_cons, List.find?_cons, h x (by simp), find_same l (fun i hi => h i (by simp [hi]))]
theorem first_nul (s : ByteArray) (t : Nat) (ht : t ≤ s.size) : firstIdx (s.extract t s.size) 0 = match Gz.zeroAt s t with
    | none => -1
    | some z => ((z - t : Nat) : Int) := by
  have hsz : (s.extract t s.size).size = s.size - t := by rw [ByteArray.size_extract]; omega
  have e : (List.range (s.extract t s.size).size).find? (fun i => (s.extract t s.size)[i]! == 0) = (List.range (s.size - t)).find? (fun i => decide (Bt.byteN s (t + i) = 0)) := by
    rw [hsz]
    refine find_same _ ?_
    intro i hi
    have hi' : i < s.size - t := by simpa using hi
    have hlt : i < (s.extract t s.size).size := by omega
    rw [← Gz.byteN_extract s t s.size i (Nat.le_refl _) (by omega), ← byte_get _ i hlt, getElem!_pos _ i hlt, Bool.eq_iff_iff]
    simp [← UInt8.toNat_inj]
  unfold firstIdx
  rw [e, zf_find]
  unfold Gz.zeroAt
  cases Gz.zf s (s.size - t) t with
  | none => rfl
  | some z => rfl
theorem index_ext (s : ByteArray) (w : World) : (callFunc 72 #[.string s, .int .u8 0]).run Tryz.prog w = .ok (.value (.int .i64 (firstIdx s 0))) w := by
  rw [run_callFunc_extern Tryz.func72 (by kernel_rfl) (by kernel_rfl) (by kernel_rfl) (e := Extern.BytealgIndexByte.indexByte) (by kernel_rfl), run_indexByte_string]
  rfl
set_option maxRecDepth 100000 in
theorem index_any (s : ByteArray) (w : World) : Calls Tryz.prog 37 #[.string s, .int .u8 0] w fun e w' => e = .returned (.int .i64 (firstIdx s 0)) ∧ w = w' := by
  have K : ∀ w, Calls Tryz.prog 55 #[.string s, .int .u8 0] w fun e w' => e = .returned (.int .i64 (firstIdx s 0)) ∧ w = w' := by
    intro w
    have e := index_ext s
    go_enter Tryz.func55, Tryz.ntmps55
    go_wp2
    go_ret
    exact ⟨rfl, rfl⟩
  have K2 := hid (K w)
  clear K
  go_enter Tryz.func37, Tryz.ntmps37
  go_wp2_with fail
  refine K2.out.mono ?_
  rintro e w1 ⟨rfl, rfl⟩
  clear K2
  go_wp2
  go_ret
  exact ⟨rfl, rfl⟩
end Go.Proofs.YtlnpbcpajllkbaaGreatDoor

/- A reader of parts: name; conditions: those told. -/
namespace Go.Proofs.YtlnpbcpajllkbaaGreatDoor
open Go.RowKit

set_option maxRecDepth 100000 in
set_option maxHeartbeats 8000000 in
theorem name_no1 (b : Nat) (s : ByteArray) (t : Nat) (w : World) (r : Gr w b s t) (_hs : s.size ≤ 70368744177664) (ht : t ≤ s.size) (HZ : Gz.zeroAt s t = none) :
    Calls Tryz.prog 53 #[.pointer (some ⟨b, 0, none⟩)] w fun e w' => e = .returned (.tuple #[.string ⟨#[]⟩, .agg #[.int .i64 3, .int .i64 (t : Nat)]]) ∧ Touch (fun k => k = b) w w' := by
  have T0 := hid ((Touch.refl (fun _ => False) w).alloc (.cells #[.int .i64 0, .int .i64 0] 31))
  have r0 := r.new T0.out id
  have FB0 := hid (two_new (w := w) (.int .i64 0) (.int .i64 0) 31)
  have HB := hid r.lt
  have KI := hid (fun w => index_any (s.extract t s.size) w)
  rw [first_nul s t ht, HZ] at KI
  have c0 := r0.c0
  have c1 := r0.c1
  have R0 := hid r0
  clear r r0 HZ
  go_enter Tryz.func53, Tryz.ntmps53
  go_upto_region 1 with fail
  generalize w.alloc (.cells #[.int .i64 0, .int .i64 0] 31) = w0 at *
  obtain ⟨q, hq⟩ : ∃ q, q = w.heap.size := ⟨_, rfl⟩
  rw [← hq] at FB0 ⊢
  have HQ := hid (show w.heap.size ≤ q ∧ b < q from ⟨by omega, by have := HB.out; omega⟩)
  clear hq HB
  go_region_with (go_at_call 37; refine (KI.out _).mono ?_; rintro e w ⟨rfl, rfl⟩)
  all_goals
    clear KI
    go_wp2_with fail
    refine (fault_any b s t 3 _ (R0.out.new ((Touch.refl (fun _ => False) w0).drew) id)).mono ?_
    rintro e w1 ⟨rfl, t1⟩
    have T1 := hid ((T0.out.drew).trans t1 (fun _ _ e => e))
    have fb1 := (t1.block q (lt_of_block (w := w0.drew) FB0.out) id).trans FB0.out
    have g0 := cell_two0 fb1
    have g1 := cell_two1 fb1
    have gf0 := free_two (i := 0) fb1
    have gf1 := free_two (i := 1) fb1
    have FB1 := hid fb1
    clear fb1 t1
    go_wp2
    refine bodyPost_ret (results_tc rfl _ _ q 31 _ (0, 0) _ rfl (fset FB1.out _ _) Tryz.underlying31 rfl (by kernel_rfl)) rfl ?_
    exact ⟨rfl, ftouch (T1.out.one b) HQ.out.1 _ _⟩
set_option maxRecDepth 100000 in
set_option maxHeartbeats 8000000 in
theorem name_no2 (b : Nat) (s : ByteArray) (t z : Nat) (w : World) (r : Gr w b s t) (_hs : s.size ≤ 70368744177664) (ht : t ≤ s.size) (HZ : Gz.zeroAt s t = some z) (hl : 256 < z - t) :
    Calls Tryz.prog 53 #[.pointer (some ⟨b, 0, none⟩)] w fun e w' => e = .returned (.tuple #[.string ⟨#[]⟩, .agg #[.int .i64 2, .int .i64 (t : Nat)]]) ∧ Touch (fun k => k = b) w w' := by
  have T0 := hid ((Touch.refl (fun _ => False) w).alloc (.cells #[.int .i64 0, .int .i64 0] 31))
  have r0 := r.new T0.out id
  have FB0 := hid (two_new (w := w) (.int .i64 0) (.int .i64 0) 31)
  have HB := hid r.lt
  have KI := hid (fun w => index_any (s.extract t s.size) w)
  rw [first_nul s t ht, HZ] at KI
  replace KI := hid (fun w => KI.out w)
  simp only at KI
  have hin := Gz.zero_in HZ
  obtain ⟨m, hm⟩ : ∃ m, m = z - t := ⟨_, rfl⟩
  rw [← hm] at KI hl
  have hl1 : (256 : Int) < (m : Int) := by omega
  have hl2 : ¬ ((m : Int) < 0) := by omega
  clear hin hm hl
  have c0 := r0.c0
  have c1 := r0.c1
  have R0 := hid r0
  clear r r0 HZ
  go_enter Tryz.func53, Tryz.ntmps53
  go_upto_region 1 with fail
  generalize w.alloc (.cells #[.int .i64 0, .int .i64 0] 31) = w0 at *
  obtain ⟨q, hq⟩ : ∃ q, q = w.heap.size := ⟨_, rfl⟩
  rw [← hq] at FB0 ⊢
  have HQ := hid (show w.heap.size ≤ q ∧ b < q from ⟨by omega, by have := HB.out; omega⟩)
  clear hq HB
  go_region_with (go_at_call 37; refine (KI.out _).mono ?_; rintro e w ⟨rfl, rfl⟩)
  all_goals
    clear KI
    go_wp2_with fail
    refine (fault_any b s t 2 _ (R0.out.new ((Touch.refl (fun _ => False) w0).drew) id)).mono ?_
    rintro e w1 ⟨rfl, t1⟩
    have T1 := hid ((T0.out.drew).trans t1 (fun _ _ e => e))
    have fb1 := (t1.block q (lt_of_block (w := w0.drew) FB0.out) id).trans FB0.out
    have g0 := cell_two0 fb1
    have g1 := cell_two1 fb1
    have gf0 := free_two (i := 0) fb1
    have gf1 := free_two (i := 1) fb1
    have FB1 := hid fb1
    clear fb1 t1
    go_wp2
    refine bodyPost_ret (results_tc rfl _ _ q 31 _ (0, 0) _ rfl (fset FB1.out _ _) Tryz.underlying31 rfl (by kernel_rfl)) rfl ?_
    exact ⟨rfl, ftouch (T1.out.one b) HQ.out.1 _ _⟩
set_option maxRecDepth 100000 in
set_option maxHeartbeats 8000000 in
theorem name_yes (b : Nat) (s : ByteArray) (t z : Nat) (w : World) (r : Gr w b s t) (hs : s.size ≤ 70368744177664) (ht : t ≤ s.size) (HZ : Gz.zeroAt s t = some z) (hl : z - t ≤ 256) :
    Calls Tryz.prog 53 #[.pointer (some ⟨b, 0, none⟩)] w fun e w' => e = .returned (.tuple #[.string (s.extract t z), .agg #[.int .i64 0, .int .i64 0]]) ∧ GStep w w' b s (z + 1) := by
  have T0 := hid ((Touch.refl (fun _ => False) w).alloc (.cells #[.int .i64 0, .int .i64 0] 31))
  have r0 := r.new T0.out id
  have FB0 := hid (two_new (w := w) (.int .i64 0) (.int .i64 0) 31)
  have HB := hid r.lt
  have KI := hid (fun w => index_any (s.extract t s.size) w)
  rw [first_nul s t ht, HZ] at KI
  replace KI := hid (fun w => KI.out w)
  simp only at KI
  have hin := Gz.zero_in HZ
  obtain ⟨m, hm⟩ : ∃ m, m = z - t := ⟨_, rfl⟩
  rw [← hm] at KI hl
  have hl1 : ¬ ((256 : Int) < (m : Int)) := by omega
  have hl2 : ¬ ((m : Int) < 0) := by omega
  have hw : IntKind.i64.wrap ((t : Int) + (m : Int)) = (z : Int) := by rw [IntKind.wrap_i64]; omega
  have hw2 : IntKind.i64.wrap ((t : Int) + ((m : Int) + 1)) = ((z + 1 : Nat) : Int) := by rw [IntKind.wrap_i64]; omega
  obtain ⟨z1, hz1⟩ : ∃ z1, z1 = z + 1 := ⟨_, rfl⟩
  rw [← hz1] at hw2 ⊢
  have h1 : t ≤ z := hin.1
  have h2 : z ≤ s.size := by omega
  have hm2 : (m : Int) ≤ 256 := by omega
  clear hin hm hl hz1
  have c0 := r0.c0
  have c1 := r0.c1
  have R0 := hid r0
  clear r r0 HZ
  go_enter Tryz.func53, Tryz.ntmps53
  go_upto_region 1 with fail
  generalize w.alloc (.cells #[.int .i64 0, .int .i64 0] 31) = w0 at *
  obtain ⟨q, hq⟩ : ∃ q, q = w.heap.size := ⟨_, rfl⟩
  rw [← hq] at FB0 ⊢
  have HQ := hid (show w.heap.size ≤ q ∧ b < q from ⟨by omega, by have := HB.out; omega⟩)
  clear hq HB
  have f1 := R0.out.f1
  go_region_with (go_at_call 37; refine (KI.out _).mono ?_; rintro e w ⟨rfl, rfl⟩)
  all_goals
    clear KI
    go_wp2
    go_region
    have hqb : q ≠ b := by have := HQ.out; omega
    have hbq : b ≠ q := Ne.symm hqb
    have FB1 := hid (show (w0.setCell ⟨b, 1, none⟩ (.int .i64 (z1 : Nat))).heap[q]? = some (.cells #[.int .i64 0, .int .i64 0] 31 (0, 0)) from (Below.heap_setCell w0 _ _ _ hqb).trans FB0.out)
    have g0 := cell_two0 FB1.out
    have g1 := cell_two1 FB1.out
    have gf0 := free_two (i := 0) FB1.out
    have gf1 := free_two (i := 1) FB1.out
    have GS := hid (R0.out.set (Touch.refl (fun _ => False) w0) z1)
    have HQB := hid hqb
    clear hqb hbq
    go_wp2
    refine bodyPost_ret (results_tc rfl _ _ q 31 #[.int .i64 0, .int .i64 0] (0, 0) _ rfl (fset (w' := w0.setCell ⟨b, 1, none⟩ (.int .i64 (z1 : Nat))) FB1.out _ _) Tryz.underlying31 rfl (by kernel_rfl)) rfl ?_
    exact ⟨rfl, ⟨Gr.fset (w := w0.setCell ⟨b, 1, none⟩ (.int .i64 (z1 : Nat))) GS.out.gr (Ne.symm HQB.out) _ _, (ftouch ((T0.out.one b).trans GS.out.touch (fun _ _ e => e)) HQ.out.1 _ _).drew.drew⟩⟩
end Go.Proofs.YtlnpbcpajllkbaaGreatDoor
