/- Texts of this proof, one behind the other: what each says stands ahead of it. -/
import Derived.Test.YtffjkceedbblgaaGreatDoorM32
import Derived.Laws.Tables
/- A reader of parts: the bytes that each head has; conditions: those told. -/
namespace Go.Proofs.YtffjkceedbblgaaGreatDoor
open Go.RowKit

def Gz.noPart : Gz.Part := ⟨⟨#[]⟩, ⟨#[]⟩, ⟨#[]⟩, false, false, 0, 0, 0, ⟨#[]⟩⟩
theorem cells_new (w : World) (cs : Array Value) (t : TypeId) : (w.alloc (.cells cs t)).heap[w.heap.size]? = some (.cells cs t (0, 0)) := by
  show (w.heap.push _)[_]? = _
  simp
theorem Touch.setRow {S : Nat → Prop} {a w : World} (h : Touch S a w) {g : Nat} (hp : g < a.heap.size → S g) (cs : Array Value) : Touch S a (w.setRow g cs) :=
  h.trans (S' := fun k => k = g) ⟨rfl, rfl, rfl, by simp, fun k _ hk => setRow_other w g k cs hk⟩ (fun i hi e => by subst e; exact hp hi)
theorem Touch.still {w w' : World} (h : Touch (fun _ => False) w w') {k : Nat} {o : Obj} (hk : w.heap[k]? = some o) : w'.heap[k]? = some o := by
  have hlt : k < w.heap.size := by
    rcases Nat.lt_or_ge k w.heap.size with h | h
    · exact h
    · rw [Array.getElem?_eq_none h] at hk
      cases hk
  exact (h.block k hlt id).trans hk
theorem isB_at (s : ByteArray) (p : Nat) (hp : p ≤ s.size) : isB (s.extract p s.size) = decide (¬ (s.size < p + 2 ∨ Bt.byteN s p ≠ 31 ∨ Bt.byteN s (p + 1) ≠ 139)) := by
  have hsz : (s.extract p s.size).size = s.size - p := by rw [ByteArray.size_extract]; omega
  unfold isB
  by_cases h : s.size < p + 2
  · have h1 : ¬ (2 ≤ s.size - p) := by omega
    rw [hsz]
    simp [h, h1]
  · have h1 : 2 ≤ (s.extract p s.size).size := by omega
    rw [Gz.byteN_extract s p s.size 0 (Nat.le_refl _) (by omega), Gz.byteN_extract s p s.size 1 (Nat.le_refl _) (by omega), Bool.eq_iff_iff, hsz]
    rw [hsz] at h1
    simp [h, h1]
/-- The part of a head, its flags, or a fault. -/
def HPost (w : World) (b : Nat) (s : ByteArray) (p : Nat) : Except Gz.Bad Nat → Ending → World → Prop
  | .error x, e, w' => e = .returned (.tuple #[.agg (partC Gz.noPart), .int .i64 0, .agg #[.int .i64 (x.1 : Nat), .int .i64 (x.2 : Nat)]]) ∧ Touch (fun k => k = b) w w'
  | .ok f, e, w' => e = .returned (.tuple #[.agg (partC (Gz.partOf s p f ⟨#[]⟩ ⟨#[]⟩ ⟨#[]⟩ ⟨#[]⟩)), .int .i64 (f : Nat), .agg #[.int .i64 0, .int .i64 0]]) ∧ GStep w w' b s (p + 10)
theorem drew_heap (w : World) : w.drew.heap = w.heap := rfl
/-- A block of nine cells, and one of two, written anew. -/
theorem nine_all {wz w : World} {b qp qf : Nat} {s : ByteArray} {t : Nat} {a0 a1 a2 a3 a4 a5 a6 a7 a8 u u2 : Value} (h : w.heap[qp]? = some (.cells #[a0, a1, a2, a3, a4, a5, a6, a7, a8] 28 (0, 0))) (hf : w.heap[qf]? = some (.cells #[u, u2] 31 (0, 0))) (r : Gr w b s t) (T : Touch (fun k => k = b) wz w) (hq : wz.heap.size ≤ qp ∧ qp < qf ∧ b < qp) (v0 v1 v2 v3 v4 v5 v6 v7 v8 x y : Value) :
    ((((((((((((w.setCell ⟨qp, 0, none⟩ v0).setCell ⟨qp, 1, none⟩ v1).setCell ⟨qp, 2, none⟩ v2).setCell ⟨qp, 3, none⟩ v3).setCell ⟨qp, 4, none⟩ v4).setCell ⟨qp, 5, none⟩ v5).setCell ⟨qp, 6, none⟩ v6).setCell ⟨qp, 7, none⟩ v7).setCell ⟨qp, 8, none⟩ v8)).setCell ⟨qf, 0, none⟩ x).setCell ⟨qf, 1, none⟩ y).drew.heap[qp]? = some (.cells #[v0, v1, v2, v3, v4, v5, v6, v7, v8] 28 (0, 0)) ∧ ((((((((((((w.setCell ⟨qp, 0, none⟩ v0).setCell ⟨qp, 1, none⟩ v1).setCell ⟨qp, 2, none⟩ v2).setCell ⟨qp, 3, none⟩ v3).setCell ⟨qp, 4, none⟩ v4).setCell ⟨qp, 5, none⟩ v5).setCell ⟨qp, 6, none⟩ v6).setCell ⟨qp, 7, none⟩ v7).setCell ⟨qp, 8, none⟩ v8)).setCell ⟨qf, 0, none⟩ x).setCell ⟨qf, 1, none⟩ y).drew.heap[qf]? = some (.cells #[x, y] 31 (0, 0)) ∧ Gr ((((((((((((w.setCell ⟨qp, 0, none⟩ v0).setCell ⟨qp, 1, none⟩ v1).setCell ⟨qp, 2, none⟩ v2).setCell ⟨qp, 3, none⟩ v3).setCell ⟨qp, 4, none⟩ v4).setCell ⟨qp, 5, none⟩ v5).setCell ⟨qp, 6, none⟩ v6).setCell ⟨qp, 7, none⟩ v7).setCell ⟨qp, 8, none⟩ v8)).setCell ⟨qf, 0, none⟩ x).setCell ⟨qf, 1, none⟩ y).drew b s t ∧ Touch (fun k => k = b) wz ((((((((((((w.setCell ⟨qp, 0, none⟩ v0).setCell ⟨qp, 1, none⟩ v1).setCell ⟨qp, 2, none⟩ v2).setCell ⟨qp, 3, none⟩ v3).setCell ⟨qp, 4, none⟩ v4).setCell ⟨qp, 5, none⟩ v5).setCell ⟨qp, 6, none⟩ v6).setCell ⟨qp, 7, none⟩ v7).setCell ⟨qp, 8, none⟩ v8)).setCell ⟨qf, 0, none⟩ x).setCell ⟨qf, 1, none⟩ y).drew := by
  have hp : qp < wz.heap.size → qp = b := fun h => absurd h (Nat.not_lt.2 hq.1)
  have h0 : (w.setCell ⟨qp, 0, none⟩ v0).heap[qp]? = some (.cells #[v0, a1, a2, a3, a4, a5, a6, a7, a8] 28 (0, 0)) := blk_set h v0
  have f0 : (w.setCell ⟨qp, 0, none⟩ v0).heap[qf]? = some (.cells #[u, u2] 31 (0, 0)) := (Below.heap_setCell w _ _ _ (show qf ≠ qp by omega)).trans hf
  have r0 : Gr (w.setCell ⟨qp, 0, none⟩ v0) b s t := (Below.heap_setCell w _ _ _ (show b ≠ qp by omega)).trans r
  have T0 : Touch (fun k => k = b) wz (w.setCell ⟨qp, 0, none⟩ v0) := T.setCell (p := ⟨qp, 0, none⟩) hp v0
  generalize (w.setCell ⟨qp, 0, none⟩ v0) = w0 at *
  have h1 : (w0.setCell ⟨qp, 1, none⟩ v1).heap[qp]? = some (.cells #[v0, v1, a2, a3, a4, a5, a6, a7, a8] 28 (0, 0)) := blk_set h0 v1
  have f1 : (w0.setCell ⟨qp, 1, none⟩ v1).heap[qf]? = some (.cells #[u, u2] 31 (0, 0)) := (Below.heap_setCell w0 _ _ _ (show qf ≠ qp by omega)).trans f0
  have r1 : Gr (w0.setCell ⟨qp, 1, none⟩ v1) b s t := (Below.heap_setCell w0 _ _ _ (show b ≠ qp by omega)).trans r0
  have T1 : Touch (fun k => k = b) wz (w0.setCell ⟨qp, 1, none⟩ v1) := T0.setCell (p := ⟨qp, 1, none⟩) hp v1
  generalize (w0.setCell ⟨qp, 1, none⟩ v1) = w1 at *
  have h2 : (w1.setCell ⟨qp, 2, none⟩ v2).heap[qp]? = some (.cells #[v0, v1, v2, a3, a4, a5, a6, a7, a8] 28 (0, 0)) := blk_set h1 v2
  have f2 : (w1.setCell ⟨qp, 2, none⟩ v2).heap[qf]? = some (.cells #[u, u2] 31 (0, 0)) := (Below.heap_setCell w1 _ _ _ (show qf ≠ qp by omega)).trans f1
  have r2 : Gr (w1.setCell ⟨qp, 2, none⟩ v2) b s t := (Below.heap_setCell w1 _ _ _ (show b ≠ qp by omega)).trans r1
  have T2 : Touch (fun k => k = b) wz (w1.setCell ⟨qp, 2, none⟩ v2) := T1.setCell (p := ⟨qp, 2, none⟩) hp v2
  generalize (w1.setCell ⟨qp, 2, none⟩ v2) = w2 at *
  have h3 : (w2.setCell ⟨qp, 3, none⟩ v3).heap[qp]? = some (.cells #[v0, v1, v2, v3, a4, a5, a6, a7, a8] 28 (0, 0)) := blk_set h2 v3
  have f3 : (w2.setCell ⟨qp, 3, none⟩ v3).heap[qf]? = some (.cells #[u, u2] 31 (0, 0)) := (Below.heap_setCell w2 _ _ _ (show qf ≠ qp by omega)).trans f2
  have r3 : Gr (w2.setCell ⟨qp, 3, none⟩ v3) b s t := (Below.heap_setCell w2 _ _ _ (show b ≠ qp by omega)).trans r2
  have T3 : Touch (fun k => k = b) wz (w2.setCell ⟨qp, 3, none⟩ v3) := T2.setCell (p := ⟨qp, 3, none⟩) hp v3
  generalize (w2.setCell ⟨qp, 3, none⟩ v3) = w3 at *
  have h4 : (w3.setCell ⟨qp, 4, none⟩ v4).heap[qp]? = some (.cells #[v0, v1, v2, v3, v4, a5, a6, a7, a8] 28 (0, 0)) := blk_set h3 v4
  have f4 : (w3.setCell ⟨qp, 4, none⟩ v4).heap[qf]? = some (.cells #[u, u2] 31 (0, 0)) := (Below.heap_setCell w3 _ _ _ (show qf ≠ qp by omega)).trans f3
  have r4 : Gr (w3.setCell ⟨qp, 4, none⟩ v4) b s t := (Below.heap_setCell w3 _ _ _ (show b ≠ qp by omega)).trans r3
  have T4 : Touch (fun k => k = b) wz (w3.setCell ⟨qp, 4, none⟩ v4) := T3.setCell (p := ⟨qp, 4, none⟩) hp v4
  generalize (w3.setCell ⟨qp, 4, none⟩ v4) = w4 at *
  have h5 : (w4.setCell ⟨qp, 5, none⟩ v5).heap[qp]? = some (.cells #[v0, v1, v2, v3, v4, v5, a6, a7, a8] 28 (0, 0)) := blk_set h4 v5
  have f5 : (w4.setCell ⟨qp, 5, none⟩ v5).heap[qf]? = some (.cells #[u, u2] 31 (0, 0)) := (Below.heap_setCell w4 _ _ _ (show qf ≠ qp by omega)).trans f4
  have r5 : Gr (w4.setCell ⟨qp, 5, none⟩ v5) b s t := (Below.heap_setCell w4 _ _ _ (show b ≠ qp by omega)).trans r4
  have T5 : Touch (fun k => k = b) wz (w4.setCell ⟨qp, 5, none⟩ v5) := T4.setCell (p := ⟨qp, 5, none⟩) hp v5
  generalize (w4.setCell ⟨qp, 5, none⟩ v5) = w5 at *
  have h6 : (w5.setCell ⟨qp, 6, none⟩ v6).heap[qp]? = some (.cells #[v0, v1, v2, v3, v4, v5, v6, a7, a8] 28 (0, 0)) := blk_set h5 v6
  have f6 : (w5.setCell ⟨qp, 6, none⟩ v6).heap[qf]? = some (.cells #[u, u2] 31 (0, 0)) := (Below.heap_setCell w5 _ _ _ (show qf ≠ qp by omega)).trans f5
  have r6 : Gr (w5.setCell ⟨qp, 6, none⟩ v6) b s t := (Below.heap_setCell w5 _ _ _ (show b ≠ qp by omega)).trans r5
  have T6 : Touch (fun k => k = b) wz (w5.setCell ⟨qp, 6, none⟩ v6) := T5.setCell (p := ⟨qp, 6, none⟩) hp v6
  generalize (w5.setCell ⟨qp, 6, none⟩ v6) = w6 at *
  have h7 : (w6.setCell ⟨qp, 7, none⟩ v7).heap[qp]? = some (.cells #[v0, v1, v2, v3, v4, v5, v6, v7, a8] 28 (0, 0)) := blk_set h6 v7
  have f7 : (w6.setCell ⟨qp, 7, none⟩ v7).heap[qf]? = some (.cells #[u, u2] 31 (0, 0)) := (Below.heap_setCell w6 _ _ _ (show qf ≠ qp by omega)).trans f6
  have r7 : Gr (w6.setCell ⟨qp, 7, none⟩ v7) b s t := (Below.heap_setCell w6 _ _ _ (show b ≠ qp by omega)).trans r6
  have T7 : Touch (fun k => k = b) wz (w6.setCell ⟨qp, 7, none⟩ v7) := T6.setCell (p := ⟨qp, 7, none⟩) hp v7
  generalize (w6.setCell ⟨qp, 7, none⟩ v7) = w7 at *
  have h8 : (w7.setCell ⟨qp, 8, none⟩ v8).heap[qp]? = some (.cells #[v0, v1, v2, v3, v4, v5, v6, v7, v8] 28 (0, 0)) := blk_set h7 v8
  have f8 : (w7.setCell ⟨qp, 8, none⟩ v8).heap[qf]? = some (.cells #[u, u2] 31 (0, 0)) := (Below.heap_setCell w7 _ _ _ (show qf ≠ qp by omega)).trans f7
  have r8 : Gr (w7.setCell ⟨qp, 8, none⟩ v8) b s t := (Below.heap_setCell w7 _ _ _ (show b ≠ qp by omega)).trans r7
  have T8 : Touch (fun k => k = b) wz (w7.setCell ⟨qp, 8, none⟩ v8) := T7.setCell (p := ⟨qp, 8, none⟩) hp v8
  generalize (w7.setCell ⟨qp, 8, none⟩ v8) = w8 at *
  refine ⟨?_, fset f8 x y, r8.fset (by omega) x y, (ftouch T8 (by omega) x y).drew⟩
  rw [drew_heap, Below.heap_setCell _ _ _ _ (show qp ≠ qf by omega), Below.heap_setCell _ _ _ _ (show qp ≠ qf by omega)]
  exact h8
theorem one9 (n c x : ByteArray) (t h : Bool) (a b d : Int) (S : ByteArray) : (#[Value.string n, .string c, .string x, .bool t, .bool h, .int .i64 a, .int .i64 b, .int .i64 d, .string S] : Array Value).all (·.oneCell') = true := by simp [Value.oneCell']
theorem info30 : (Tryz.prog.info? 28).map (·.size) = some 9 := by kernel_rfl
theorem fin_p {w : World} {qp qf : Nat} {cs old : Array Value} (h : w.heap[qp]? = some (.cells old 28 (0, 0))) (hne : qp < qf) (x y : Value) : (((w.setRow qp cs).setCell ⟨qf, 0, none⟩ x).setCell ⟨qf, 1, none⟩ y).heap[qp]? = some (.cells cs 28 (0, 0)) := by
  rw [Below.heap_setCell _ _ _ _ (show qp ≠ qf by omega), Below.heap_setCell _ _ _ _ (show qp ≠ qf by omega)]
  exact setRow_heap w qp old cs 28 (0, 0) h
theorem fin_r {w : World} {qp qf : Nat} {cs : Array Value} {o : Obj} (h : w.heap[qf]? = some o) (hne : qp < qf) : (w.setRow qp cs).heap[qf]? = some o := (setRow_other w qp qf cs (by omega)).trans h
theorem fin_t {S : Nat → Prop} {w w' : World} {qp qf : Nat} (T : Touch S w w') (hp : w.heap.size ≤ qp) (hf : w.heap.size ≤ qf) (cs : Array Value) (x y : Value) : Touch S w (((w'.setRow qp cs).setCell ⟨qf, 0, none⟩ x).setCell ⟨qf, 1, none⟩ y) :=
  ftouch (T.setRow (fun h => absurd h (Nat.not_lt.2 hp)) cs) hf x y
theorem fin_g {w : World} {b qp qf : Nat} {s : ByteArray} {t : Nat} (r : Gr w b s t) (hp : b < qp) (hf : qp < qf) (cs : Array Value) (x y : Value) : Gr (((w.setRow qp cs).setCell ⟨qf, 0, none⟩ x).setCell ⟨qf, 1, none⟩ y) b s t :=
  Gr.fset (w := w.setRow qp cs) ((setRow_other w qp b cs (by omega)).trans r) (by omega) x y
set_option maxRecDepth 100000 in
set_option maxHeartbeats 8000000 in
theorem head_any (b : Nat) (s : ByteArray) (t : Nat) (w : World) (r : Gr w b s t) (hs : s.size ≤ 70368744177664) (ht : t ≤ s.size) :
    Calls Tryz.prog 33 #[.pointer (some ⟨b, 0, none⟩)] w (HPost w b s t (Gz.headAt s t)) := by
  obtain ⟨wA, hwA⟩ : ∃ wA, wA = (w.alloc (.cells #[.string ⟨#[]⟩, .string ⟨#[]⟩, .string ⟨#[]⟩, .bool false, .bool false, .int .i64 0, .int .i64 0, .int .i64 0, .string ⟨#[]⟩] 28)).alloc (.cells #[.int .i64 0, .int .i64 0] 31) := ⟨_, rfl⟩
  have T0 := hid (show Touch (fun _ => False) w wA from by rw [hwA]; exact ((Touch.refl (fun _ => False) w).alloc _).alloc _)
  have hsz : (w.alloc (.cells #[.string ⟨#[]⟩, .string ⟨#[]⟩, .string ⟨#[]⟩, .bool false, .bool false, .int .i64 0, .int .i64 0, .int .i64 0, .string ⟨#[]⟩] 28)).heap.size = w.heap.size + 1 := by simp
  have FP0 := hid (show wA.heap[w.heap.size]? = some (.cells (partC Gz.noPart) 28 (0, 0)) from by
    rw [hwA]
    exact (((Touch.refl (fun _ => False) (w.alloc (.cells #[.string ⟨#[]⟩, .string ⟨#[]⟩, .string ⟨#[]⟩, .bool false, .bool false, .int .i64 0, .int .i64 0, .int .i64 0, .string ⟨#[]⟩] 28))).alloc (.cells #[.int .i64 0, .int .i64 0] 31)).block _ (by rw [hsz]; omega) id).trans (cells_new _ _ _))
  have FF0 := hid (show wA.heap[w.heap.size + 1]? = some (.cells #[.int .i64 0, .int .i64 0] 31 (0, 0)) from by rw [hwA, ← hsz]; exact cells_new _ _ _)
  have r0 := r.new T0.out id
  have c0 := r0.c0
  have c1 := r0.c1
  have R0 := hid r0
  have HB := hid r.lt
  have HWA := hid hwA
  clear r r0 hsz hwA
  go_enter Tryz.func33, Tryz.ntmps33
  go_upto_region 1 with fail
  rw [← HWA.out]
  clear HWA
  obtain ⟨qp, hqp⟩ : ∃ qp, qp = w.heap.size := ⟨_, rfl⟩
  rw [← hqp] at FP0 FF0 ⊢
  obtain ⟨qf, hqf⟩ : ∃ qf, qf = qp + 1 := ⟨_, rfl⟩
  rw [← hqf] at FF0 ⊢
  have HQ := hid (show w.heap.size ≤ qp ∧ qp < qf ∧ b < qp from ⟨by omega, by omega, by have := HB.out; omega⟩)
  clear hqp hqf HB
  go_cut [19] (fun v wd => v = .bool (!(isB (s.extract t s.size))) ∧ wA.heap = wd.heap ∧ Touch (fun _ => False) wA wd)
  case first =>
    have KI := hid (fun w => is_any (s.extract t s.size) w)
    go_region_with (go_at_call 7; refine (KI.out _).mono ?_; rintro e w ⟨rfl, rfl⟩)
    all_goals
      go_wp2_with fail
      go_meet
      case rel => exact ⟨rfl, rfl, (Touch.refl (fun _ => False) wA).drew⟩
  obtain ⟨rfl, hh, tcut⟩ := hcut
  obtain ⟨w1, hw⟩ : ∃ w1, w1 = wc := ⟨_, rfl⟩
  rw [← hw] at tcut ⊢
  clear hw hh c0 c1
  have T1 := hid (T0.out.trans tcut (fun _ _ e => e))
  have R1 := hid (R0.out.new tcut id)
  have FP1 := hid (tcut.still FP0.out)
  have FF1 := hid (tcut.still FF0.out)
  clear tcut T0 R0 FP0 FF0
  rw [isB_at s t ht]
  by_cases hm : s.size < t + 2 ∨ Bt.byteN s t ≠ 31 ∨ Bt.byteN s (t + 1) ≠ 139
  · have HE := hid (show Gz.headAt s t = .error (12, t) by unfold Gz.headAt; rw [if_pos hm])
    have hI : decide (¬ (s.size < t + 2 ∨ Bt.byteN s t ≠ 31 ∨ Bt.byteN s (t + 1) ≠ 139)) = false := by simp only [decide_eq_false_iff_not]; exact fun h => h hm
    rw [hI]
    clear hm hI
    go_wp2_with fail
    refine (fault_any b s t 12 w1 R1.out).mono ?_
    rintro e w2 ⟨rfl, t2⟩
    have T2 := hid (T1.out.trans t2 (fun _ _ e => e))
    have FP2 := hid (t2.still FP1.out)
    have FF2 := hid (t2.still FF1.out)
    clear t2 T1 R1 FP1 FF1
    have FF9 := hid (fin_r (qp := qp) (cs := #[.string ⟨#[]⟩, .string ⟨#[]⟩, .string ⟨#[]⟩, .bool false, .bool false, .int .i64 0, .int .i64 0, .int .i64 0, .string ⟨#[]⟩]) FF2.out HQ.out.2.1)
    have g0 := cell_two0 FF9.out
    have g1 := cell_two1 FF9.out
    have gf0 := free_two (i := 0) FF9.out
    have gf1 := free_two (i := 1) FF9.out
    go_wp2_with (first | refine wpList_store_row rfl 28 _ _ rfl qp _ rfl rfl 28 (partC Gz.noPart) FP2.out info30 (by rfl) (one9 _ _ _ _ _ _ _ _ _) ?_ | fail)
    refine bodyPost_ret (results_ctc rfl _ _ qp 28 _ (0, 0) _ qf 31 _ (0, 0) _ rfl (fin_p FP2.out HQ.out.2.1 _ _) Tryz.underlying28 rfl (by kernel_rfl) rfl (fset FF9.out _ _) Tryz.underlying31 rfl (by kernel_rfl)) rfl ?_
    show HPost w b s t (Gz.headAt s t) _ _
    rw [HE.out]
    exact ⟨rfl, fin_t (T2.out.one b) HQ.out.1 (by have := HQ.out; omega) _ _ _⟩
  have hI : decide (¬ (s.size < t + 2 ∨ Bt.byteN s t ≠ 31 ∨ Bt.byteN s (t + 1) ≠ 139)) = true := by simp only [decide_eq_true_eq]; exact hm
  rw [hI]
  clear hI
  have c1 := R1.out.c1
  go_wp2_with fail
  clear c1
  by_cases h10 : s.size < t + 10
  · have HE := hid (show Gz.headAt s t = .error (3, t) by unfold Gz.headAt; rw [if_neg hm, if_pos h10])
    refine (gtake_no b s t 10 w1 R1.out (by omega) (by omega) ht h10).mono ?_
    rintro e w2 ⟨rfl, t2⟩
    have T2 := hid (T1.out.trans t2 (fun _ _ e => e))
    have R2 := hid (R1.out.new t2 id)
    have FP2 := hid (t2.still FP1.out)
    have FF2 := hid (t2.still FF1.out)
    clear t2 T1 R1 FP1 FF1
    go_wp2_with fail
    refine (fault_any b s t 3 w2 R2.out).mono ?_
    rintro e w3 ⟨rfl, t3⟩
    have T3 := hid (T2.out.trans t3 (fun _ _ e => e))
    have FP3 := hid (t3.still FP2.out)
    have FF3 := hid (t3.still FF2.out)
    clear t3 T2 R2 FP2 FF2
    have FF9 := hid (fin_r (qp := qp) (cs := #[.string ⟨#[]⟩, .string ⟨#[]⟩, .string ⟨#[]⟩, .bool false, .bool false, .int .i64 0, .int .i64 0, .int .i64 0, .string ⟨#[]⟩]) FF3.out HQ.out.2.1)
    have g0 := cell_two0 FF9.out
    have g1 := cell_two1 FF9.out
    have gf0 := free_two (i := 0) FF9.out
    have gf1 := free_two (i := 1) FF9.out
    go_wp2_with (first | refine wpList_store_row rfl 28 _ _ rfl qp _ rfl rfl 28 (partC Gz.noPart) FP3.out info30 (by rfl) (one9 _ _ _ _ _ _ _ _ _) ?_ | fail)
    refine bodyPost_ret (results_ctc rfl _ _ qp 28 _ (0, 0) _ qf 31 _ (0, 0) _ rfl (fin_p FP3.out HQ.out.2.1 _ _) Tryz.underlying28 rfl (by kernel_rfl) rfl (fset FF9.out _ _) Tryz.underlying31 rfl (by kernel_rfl)) rfl ?_
    show HPost w b s t (Gz.headAt s t) _ _
    rw [HE.out]
    exact ⟨rfl, fin_t (T3.out.one b) HQ.out.1 (by have := HQ.out; omega) _ _ _⟩
  obtain ⟨x10, he⟩ : ∃ x, x = s.extract t (t + 10) := ⟨_, rfl⟩
  have hx10 : x10.size = 10 := by rw [he, ByteArray.size_extract]; omega
  have hbt : ∀ i (hi : i < x10.size), x10[i].toNat = Bt.byteN s (t + i) := fun i hi => by rw [byte_get _ i hi, he]; exact Gz.byteN_extract s t (t + 10) i (by omega) (by omega)
  have b2 := hbt 2 (by omega)
  have b3 := hbt 3 (by omega)
  have b8 := hbt 8 (by omega)
  have b9 := hbt 9 (by omega)
  have e4 : x10.extract 4 8 = s.extract (t + 4) (t + 8) := by
    rw [he, ByteArray.extract_extract]
    congr 1
    omega
  have KN := hid (fun w => number_cut s (t + 4) 4 (by omega) (by decide) w)
  rw [show t + 4 + 4 = t + 8 by omega, ← e4] at KN
  have KT := hid (fun w r => gtake_yes b s t 10 w r (by omega) (by omega))
  simp only [← he] at KT
  have hl2 := Bt.byteN_lt s (t + 2)
  have hl3 := Bt.byteN_lt s (t + 3)
  have hl8 := Bt.byteN_lt s (t + 8)
  have hl9 := Bt.byteN_lt s (t + 9)
  have HHD := hid (show Gz.headAt s t = (if Bt.byteN s (t + 2) ≠ 8 then .error (13, t + 2) else if 31 < Bt.byteN s (t + 3) then .error (4, t + 3) else .ok (Bt.byteN s (t + 3))) by unfold Gz.headAt; rw [if_neg hm, if_neg h10])
  have HPO := hid (show ∀ f, Gz.partOf s t f ⟨#[]⟩ ⟨#[]⟩ ⟨#[]⟩ ⟨#[]⟩ = ⟨⟨#[]⟩, ⟨#[]⟩, ⟨#[]⟩, f % 2 == 1, f / 2 % 2 == 1, Gz.num s (t + 4) 4, Bt.byteN s (t + 8), Bt.byteN s (t + 9), ⟨#[]⟩⟩ from fun f => rfl)
  generalize Bt.byteN s (t + 2) = m2 at *
  generalize Bt.byteN s (t + 3) = f at *
  generalize Bt.byteN s (t + 8) = m8 at *
  generalize Bt.byteN s (t + 9) = m9 at *
  generalize Gz.num s (t + 4) 4 = tm at *
  clear hbt e4 hm he
  refine (KT.out w1 R1.out).mono ?_
  rintro e w2 ⟨rfl, g2⟩
  have T2 := hid ((T1.out.one b).trans g2.touch (fun _ _ e => e))
  have R2 := hid g2.gr
  have FP2 := hid ((g2.touch.block qp (lt_of_block FP1.out) (fun e => by have := HQ.out; omega)).trans FP1.out)
  have FF2 := hid ((g2.touch.block qf (lt_of_block FF1.out) (fun e => by have := HQ.out; omega)).trans FF1.out)
  clear g2 T1 R1 FP1 FF1 KT
  by_cases h8 : m2 ≠ 8
  · have HE := hid (show Gz.headAt s t = .error (13, t + 2) by rw [HHD.out, if_pos h8])
    have hI8 : ((m2 : Int) == 8) = false := by simp; omega
    clear h8 HHD
    have FF9 := hid (fin_r (qp := qp) (cs := #[.string ⟨#[]⟩, .string ⟨#[]⟩, .string ⟨#[]⟩, .bool false, .bool false, .int .i64 0, .int .i64 0, .int .i64 0, .string ⟨#[]⟩]) FF2.out HQ.out.2.1)
    have g0 := cell_two0 FF9.out
    have g1 := cell_two1 FF9.out
    have gf0 := free_two (i := 0) FF9.out
    have gf1 := free_two (i := 1) FF9.out
    go_wp2_with (first | refine wpList_store_row rfl 28 _ _ rfl qp _ rfl rfl 28 (partC Gz.noPart) FP2.out info30 (by rfl) (one9 _ _ _ _ _ _ _ _ _) ?_ | fail)
    refine bodyPost_ret (results_ctc rfl _ _ qp 28 _ (0, 0) _ qf 31 _ (0, 0) _ rfl (fin_p FP2.out HQ.out.2.1 _ _) Tryz.underlying28 rfl (by kernel_rfl) rfl (fset FF9.out _ _) Tryz.underlying31 rfl (by kernel_rfl)) rfl ?_
    show HPost w b s t (Gz.headAt s t) _ _
    rw [HE.out]
    exact ⟨rfl, fin_t T2.out HQ.out.1 (by have := HQ.out; omega) _ _ _⟩
  have hI8 : ((m2 : Int) == 8) = true := by simp; omega
  by_cases h31 : 31 < f
  · have HE := hid (show Gz.headAt s t = .error (4, t + 3) by rw [HHD.out, if_neg h8, if_pos h31])
    have hI : (bits .and .i64 (f : Int) 224 == 0) = false := by
      have := (show ∀ x : Fin 256, 31 < x.val → (bits .and .i64 (x.val : Int) 224 == 0) = false by decide +kernel) ⟨f, hl3⟩ h31
      exact this
    clear h8 h31 HHD
    have FF9 := hid (fin_r (qp := qp) (cs := #[.string ⟨#[]⟩, .string ⟨#[]⟩, .string ⟨#[]⟩, .bool false, .bool false, .int .i64 0, .int .i64 0, .int .i64 0, .string ⟨#[]⟩]) FF2.out HQ.out.2.1)
    have g0 := cell_two0 FF9.out
    have g1 := cell_two1 FF9.out
    have gf0 := free_two (i := 0) FF9.out
    have gf1 := free_two (i := 1) FF9.out
    go_wp2_with (first | refine wpList_store_row rfl 28 _ _ rfl qp _ rfl rfl 28 (partC Gz.noPart) FP2.out info30 (by rfl) (one9 _ _ _ _ _ _ _ _ _) ?_ | fail)
    refine bodyPost_ret (results_ctc rfl _ _ qp 28 _ (0, 0) _ qf 31 _ (0, 0) _ rfl (fin_p FP2.out HQ.out.2.1 _ _) Tryz.underlying28 rfl (by kernel_rfl) rfl (fset FF9.out _ _) Tryz.underlying31 rfl (by kernel_rfl)) rfl ?_
    show HPost w b s t (Gz.headAt s t) _ _
    rw [HE.out]
    exact ⟨rfl, fin_t T2.out HQ.out.1 (by have := HQ.out; omega) _ _ _⟩
  have HE := hid (show Gz.headAt s t = .ok f by rw [HHD.out, if_neg h8, if_neg h31])
  have hI : bits .and .i64 (f : Int) 224 = 0 := (show ∀ x : Fin 256, x.val ≤ 31 → bits .and .i64 (x.val : Int) 224 = 0 by decide +kernel) ⟨f, hl3⟩ (Nat.le_of_not_lt h31)
  have fb1 := (flag_bits ⟨f, by omega⟩).2.2.2.1
  have fb2 := (flag_bits ⟨f, by omega⟩).2.2.2.2
  have hb1 : (bits .and .i64 (f : Int) 1 != 0) = (f % 2 == 1) := by
    rw [show bits .and .i64 (f : Int) 1 = (if f % 2 == 1 then 1 else 0) from fb1]
    cases (f % 2 == 1) <;> rfl
  have hb2 : (bits .and .i64 (f : Int) 2 != 0) = (f / 2 % 2 == 1) := by
    rw [show bits .and .i64 (f : Int) 2 = (if f / 2 % 2 == 1 then 2 else 0) from fb2]
    cases (f / 2 % 2 == 1) <;> rfl
  clear fb1 fb2 h8 h31 HHD
  have HPO2 := hid (HPO.out f)
  clear HPO
  generalize (f % 2 == 1) = tx at *
  generalize (f / 2 % 2 == 1) = hx at *
  go_upto_region 12 with fail
  have p0 : w2.cell? ⟨qp, 0, none⟩ = some (.string ⟨#[]⟩) := blk_cell FP2.out 0
  have pf0 : w2.frozen? ⟨qp, 0, none⟩ = false := blk_free FP2.out
  have p1 : w2.cell? ⟨qp, 1, none⟩ = some (.string ⟨#[]⟩) := blk_cell FP2.out 1
  have pf1 : w2.frozen? ⟨qp, 1, none⟩ = false := blk_free FP2.out
  have p2 : w2.cell? ⟨qp, 2, none⟩ = some (.string ⟨#[]⟩) := blk_cell FP2.out 2
  have pf2 : w2.frozen? ⟨qp, 2, none⟩ = false := blk_free FP2.out
  have p3 : w2.cell? ⟨qp, 3, none⟩ = some (.bool false) := blk_cell FP2.out 3
  have pf3 : w2.frozen? ⟨qp, 3, none⟩ = false := blk_free FP2.out
  have p4 : w2.cell? ⟨qp, 4, none⟩ = some (.bool false) := blk_cell FP2.out 4
  have pf4 : w2.frozen? ⟨qp, 4, none⟩ = false := blk_free FP2.out
  have p5 : w2.cell? ⟨qp, 5, none⟩ = some (.int .i64 0) := blk_cell FP2.out 5
  have pf5 : w2.frozen? ⟨qp, 5, none⟩ = false := blk_free FP2.out
  have p6 : w2.cell? ⟨qp, 6, none⟩ = some (.int .i64 0) := blk_cell FP2.out 6
  have pf6 : w2.frozen? ⟨qp, 6, none⟩ = false := blk_free FP2.out
  have p7 : w2.cell? ⟨qp, 7, none⟩ = some (.int .i64 0) := blk_cell FP2.out 7
  have pf7 : w2.frozen? ⟨qp, 7, none⟩ = false := blk_free FP2.out
  have p8 : w2.cell? ⟨qp, 8, none⟩ = some (.string ⟨#[]⟩) := blk_cell FP2.out 8
  have pf8 : w2.frozen? ⟨qp, 8, none⟩ = false := blk_free FP2.out
  have hw8 : IntKind.i64.wrap (m8 : Int) = (m8 : Int) := by rw [IntKind.wrap_i64]; omega
  have hw9 : IntKind.i64.wrap (m9 : Int) = (m9 : Int) := by rw [IntKind.wrap_i64]; omega
  have g0 := cell_two0 FF2.out
  have g1 := cell_two1 FF2.out
  have gf0 := free_two (i := 0) FF2.out
  have gf1 := free_two (i := 1) FF2.out
  have hne1 : qf ≠ qp := by have := HQ.out; omega
  have hne2 : qp ≠ qf := by have := HQ.out; omega
  go_cut [3] (fun v wd => v = .int .i64 (f : Nat) ∧ wd.heap[qp]? = some (.cells #[.string ⟨#[]⟩, .string ⟨#[]⟩, .string ⟨#[]⟩, .bool tx, .bool hx, .int .i64 (tm : Nat), .int .i64 (m8 : Nat), .int .i64 (m9 : Nat), .string ⟨#[]⟩] 28 (0, 0)) ∧ wd.heap[qf]? = some (.cells #[.int .i64 0, .int .i64 0] 31 (0, 0)) ∧ Gr wd b s (t + 10) ∧ Touch (fun k => k = b) w wd)
  case first =>
    go_region_with (go_at_call 51; refine (KN.out _).mono ?_; rintro e w ⟨rfl, rfl⟩)
    all_goals
      go_wp2_with fail
      go_meet
      case rel => exact ⟨rfl, nine_all FP2.out FF2.out R2.out T2.out HQ.out _ _ _ _ _ _ _ _ _ _ _⟩
  obtain ⟨rfl, hP, hF, hR, hT⟩ := hcut
  have HP := hid hP
  have HF := hid hF
  have HR := hid hR
  have HT := hid hT
  clear hP hF hR hT p0 p1 p2 p3 p4 p5 p6 p7 p8 pf0 pf1 pf2 pf3 pf4 pf5 pf6 pf7 pf8 g0 g1 gf0 gf1
  go_wp2
  refine bodyPost_ret (results_ctc rfl _ _ qp 28 _ (0, 0) _ qf 31 _ (0, 0) _ rfl HP.out Tryz.underlying28 rfl (by kernel_rfl) rfl HF.out Tryz.underlying31 rfl (by kernel_rfl)) rfl ?_
  show HPost w b s t (Gz.headAt s t) _ _
  rw [HE.out]
  exact ⟨by rw [HPO2.out]; rfl, HR.out, HT.out⟩
end Go.Proofs.YtffjkceedbblgaaGreatDoor
