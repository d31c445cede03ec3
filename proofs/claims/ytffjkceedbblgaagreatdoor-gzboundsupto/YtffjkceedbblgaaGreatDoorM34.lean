/- Texts of this proof, one behind the other: what each says stands ahead of it. -/
import Derived.Test.YtffjkceedbblgaaGreatDoorM33
/- A reader of parts: a part; conditions: those told. -/
namespace Go.Proofs.YtffjkceedbblgaaGreatDoor
open Go.RowKit

/-- A block of nine cells, and one of two, written anew. -/
theorem nine_x {S : Nat → Prop} {wz w : World} {qp qf : Nat} {a0 a1 a2 a3 a4 a5 a6 a7 a8 u u2 : Value} (h : w.heap[qp]? = some (.cells #[a0, a1, a2, a3, a4, a5, a6, a7, a8] 28 (0, 0))) (hf : w.heap[qf]? = some (.cells #[u, u2] 31 (0, 0))) (T : Touch S wz w) (hq : wz.heap.size ≤ qp ∧ qp < qf) (v0 v1 v2 v3 v4 v5 v6 v7 v8 x y : Value) :
    ((((((((((((w.setCell ⟨qp, 0, none⟩ v0).setCell ⟨qp, 1, none⟩ v1).setCell ⟨qp, 2, none⟩ v2).setCell ⟨qp, 3, none⟩ v3).setCell ⟨qp, 4, none⟩ v4).setCell ⟨qp, 5, none⟩ v5).setCell ⟨qp, 6, none⟩ v6).setCell ⟨qp, 7, none⟩ v7).setCell ⟨qp, 8, none⟩ v8)).setCell ⟨qf, 0, none⟩ x).setCell ⟨qf, 1, none⟩ y).drew.heap[qp]? = some (.cells #[v0, v1, v2, v3, v4, v5, v6, v7, v8] 28 (0, 0)) ∧ ((((((((((((w.setCell ⟨qp, 0, none⟩ v0).setCell ⟨qp, 1, none⟩ v1).setCell ⟨qp, 2, none⟩ v2).setCell ⟨qp, 3, none⟩ v3).setCell ⟨qp, 4, none⟩ v4).setCell ⟨qp, 5, none⟩ v5).setCell ⟨qp, 6, none⟩ v6).setCell ⟨qp, 7, none⟩ v7).setCell ⟨qp, 8, none⟩ v8)).setCell ⟨qf, 0, none⟩ x).setCell ⟨qf, 1, none⟩ y).drew.heap[qf]? = some (.cells #[x, y] 31 (0, 0)) ∧ Touch S wz ((((((((((((w.setCell ⟨qp, 0, none⟩ v0).setCell ⟨qp, 1, none⟩ v1).setCell ⟨qp, 2, none⟩ v2).setCell ⟨qp, 3, none⟩ v3).setCell ⟨qp, 4, none⟩ v4).setCell ⟨qp, 5, none⟩ v5).setCell ⟨qp, 6, none⟩ v6).setCell ⟨qp, 7, none⟩ v7).setCell ⟨qp, 8, none⟩ v8)).setCell ⟨qf, 0, none⟩ x).setCell ⟨qf, 1, none⟩ y).drew := by
  have hp : qp < wz.heap.size → S qp := fun h => absurd h (Nat.not_lt.2 hq.1)
  have h0 : (w.setCell ⟨qp, 0, none⟩ v0).heap[qp]? = some (.cells #[v0, a1, a2, a3, a4, a5, a6, a7, a8] 28 (0, 0)) := blk_set h v0
  have f0 : (w.setCell ⟨qp, 0, none⟩ v0).heap[qf]? = some (.cells #[u, u2] 31 (0, 0)) := (Below.heap_setCell w _ _ _ (show qf ≠ qp by omega)).trans hf
  have T0 : Touch S wz (w.setCell ⟨qp, 0, none⟩ v0) := T.setCell (p := ⟨qp, 0, none⟩) hp v0
  generalize (w.setCell ⟨qp, 0, none⟩ v0) = w0 at *
  have h1 : (w0.setCell ⟨qp, 1, none⟩ v1).heap[qp]? = some (.cells #[v0, v1, a2, a3, a4, a5, a6, a7, a8] 28 (0, 0)) := blk_set h0 v1
  have f1 : (w0.setCell ⟨qp, 1, none⟩ v1).heap[qf]? = some (.cells #[u, u2] 31 (0, 0)) := (Below.heap_setCell w0 _ _ _ (show qf ≠ qp by omega)).trans f0
  have T1 : Touch S wz (w0.setCell ⟨qp, 1, none⟩ v1) := T0.setCell (p := ⟨qp, 1, none⟩) hp v1
  generalize (w0.setCell ⟨qp, 1, none⟩ v1) = w1 at *
  have h2 : (w1.setCell ⟨qp, 2, none⟩ v2).heap[qp]? = some (.cells #[v0, v1, v2, a3, a4, a5, a6, a7, a8] 28 (0, 0)) := blk_set h1 v2
  have f2 : (w1.setCell ⟨qp, 2, none⟩ v2).heap[qf]? = some (.cells #[u, u2] 31 (0, 0)) := (Below.heap_setCell w1 _ _ _ (show qf ≠ qp by omega)).trans f1
  have T2 : Touch S wz (w1.setCell ⟨qp, 2, none⟩ v2) := T1.setCell (p := ⟨qp, 2, none⟩) hp v2
  generalize (w1.setCell ⟨qp, 2, none⟩ v2) = w2 at *
  have h3 : (w2.setCell ⟨qp, 3, none⟩ v3).heap[qp]? = some (.cells #[v0, v1, v2, v3, a4, a5, a6, a7, a8] 28 (0, 0)) := blk_set h2 v3
  have f3 : (w2.setCell ⟨qp, 3, none⟩ v3).heap[qf]? = some (.cells #[u, u2] 31 (0, 0)) := (Below.heap_setCell w2 _ _ _ (show qf ≠ qp by omega)).trans f2
  have T3 : Touch S wz (w2.setCell ⟨qp, 3, none⟩ v3) := T2.setCell (p := ⟨qp, 3, none⟩) hp v3
  generalize (w2.setCell ⟨qp, 3, none⟩ v3) = w3 at *
  have h4 : (w3.setCell ⟨qp, 4, none⟩ v4).heap[qp]? = some (.cells #[v0, v1, v2, v3, v4, a5, a6, a7, a8] 28 (0, 0)) := blk_set h3 v4
  have f4 : (w3.setCell ⟨qp, 4, none⟩ v4).heap[qf]? = some (.cells #[u, u2] 31 (0, 0)) := (Below.heap_setCell w3 _ _ _ (show qf ≠ qp by omega)).trans f3
  have T4 : Touch S wz (w3.setCell ⟨qp, 4, none⟩ v4) := T3.setCell (p := ⟨qp, 4, none⟩) hp v4
  generalize (w3.setCell ⟨qp, 4, none⟩ v4) = w4 at *
  have h5 : (w4.setCell ⟨qp, 5, none⟩ v5).heap[qp]? = some (.cells #[v0, v1, v2, v3, v4, v5, a6, a7, a8] 28 (0, 0)) := blk_set h4 v5
  have f5 : (w4.setCell ⟨qp, 5, none⟩ v5).heap[qf]? = some (.cells #[u, u2] 31 (0, 0)) := (Below.heap_setCell w4 _ _ _ (show qf ≠ qp by omega)).trans f4
  have T5 : Touch S wz (w4.setCell ⟨qp, 5, none⟩ v5) := T4.setCell (p := ⟨qp, 5, none⟩) hp v5
  generalize (w4.setCell ⟨qp, 5, none⟩ v5) = w5 at *
  have h6 : (w5.setCell ⟨qp, 6, none⟩ v6).heap[qp]? = some (.cells #[v0, v1, v2, v3, v4, v5, v6, a7, a8] 28 (0, 0)) := blk_set h5 v6
  have f6 : (w5.setCell ⟨qp, 6, none⟩ v6).heap[qf]? = some (.cells #[u, u2] 31 (0, 0)) := (Below.heap_setCell w5 _ _ _ (show qf ≠ qp by omega)).trans f5
  have T6 : Touch S wz (w5.setCell ⟨qp, 6, none⟩ v6) := T5.setCell (p := ⟨qp, 6, none⟩) hp v6
  generalize (w5.setCell ⟨qp, 6, none⟩ v6) = w6 at *
  have h7 : (w6.setCell ⟨qp, 7, none⟩ v7).heap[qp]? = some (.cells #[v0, v1, v2, v3, v4, v5, v6, v7, a8] 28 (0, 0)) := blk_set h6 v7
  have f7 : (w6.setCell ⟨qp, 7, none⟩ v7).heap[qf]? = some (.cells #[u, u2] 31 (0, 0)) := (Below.heap_setCell w6 _ _ _ (show qf ≠ qp by omega)).trans f6
  have T7 : Touch S wz (w6.setCell ⟨qp, 7, none⟩ v7) := T6.setCell (p := ⟨qp, 7, none⟩) hp v7
  generalize (w6.setCell ⟨qp, 7, none⟩ v7) = w7 at *
  have h8 : (w7.setCell ⟨qp, 8, none⟩ v8).heap[qp]? = some (.cells #[v0, v1, v2, v3, v4, v5, v6, v7, v8] 28 (0, 0)) := blk_set h7 v8
  have f8 : (w7.setCell ⟨qp, 8, none⟩ v8).heap[qf]? = some (.cells #[u, u2] 31 (0, 0)) := (Below.heap_setCell w7 _ _ _ (show qf ≠ qp by omega)).trans f7
  have T8 : Touch S wz (w7.setCell ⟨qp, 8, none⟩ v8) := T7.setCell (p := ⟨qp, 8, none⟩) hp v8
  generalize (w7.setCell ⟨qp, 8, none⟩ v8) = w8 at *
  refine ⟨?_, fset f8 x y, (ftouch T8 (by omega) x y).drew⟩
  rw [drew_heap, Below.heap_setCell _ _ _ _ (show qp ≠ qf by omega), Below.heap_setCell _ _ _ _ (show qp ≠ qf by omega)]
  exact h8
theorem head_code {s : ByteArray} {p : Nat} {x : Gz.Bad} (h : Gz.headAt s p = .error x) : x.1 ≠ 0 := by
  unfold Gz.headAt at h
  split at h
  · cases h; simp
  · split at h
    · cases h; simp
    · split at h
      · cases h; simp
      · split at h
        · cases h; simp
        · cases h
theorem sum_code {s : ByteArray} {p q : Nat} {b : Bool} {x : Gz.Bad} (h : Gz.sumAt s p q b = .error x) : x.1 ≠ 0 := by
  unfold Gz.sumAt at h
  split at h
  · split at h
    · cases h; simp
    · split at h
      · cases h; simp
      · cases h
  · cases h
theorem pack_code {s : ByteArray} {p most : Nat} {x : Gz.Bad} (h : Gz.packR s p most (.error x)) : x.1 ≠ 0 := by
  obtain ⟨S, N, C, A, _, _, _, hr⟩ := h
  split at hr
  · cases hr; assumption
  · split at hr
    · cases hr; simp
    · split at hr
      · cases hr; simp
      · split at hr
        · cases hr; simp
        · cases hr
theorem texts_err {s : ByteArray} {f t : Nat} {p : Gz.Part} {y : Gz.Bad} (hx : p.extra = ByteArray.empty) (hn : p.name = ByteArray.empty) (hc : p.comment = ByteArray.empty) (h : textsR s f p t = .error y) : Gz.textsAt s t f = .error y := by
  rw [textsR_at s f p t hx hn hc] at h
  cases hh : Gz.textsAt s t f with
  | error z => rw [hh] at h; cases h; rfl
  | ok z => obtain ⟨x, n, c, t'⟩ := z; rw [hh] at h; cases h
theorem texts_ok {s : ByteArray} {f t : Nat} {p p1 : Gz.Part} {t1 : Nat} (hx : p.extra = ByteArray.empty) (hn : p.name = ByteArray.empty) (hc : p.comment = ByteArray.empty) (h : textsR s f p t = .ok (p1, t1)) : ∃ x n c, Gz.textsAt s t f = .ok (x, n, c, t1) ∧ p1 = { p with extra := x, name := n, comment := c } := by
  rw [textsR_at s f p t hx hn hc] at h
  cases hh : Gz.textsAt s t f with
  | error z => rw [hh] at h; cases h
  | ok z => obtain ⟨x, n, c, t'⟩ := z; rw [hh] at h; cases h; exact ⟨x, n, c, rfl, rfl⟩
theorem two_allocs (w : World) (cs ds : Array Value) : ((w.alloc (.cells cs 28)).alloc (.cells ds 31)).heap[w.heap.size]? = some (.cells cs 28 (0, 0)) ∧ ((w.alloc (.cells cs 28)).alloc (.cells ds 31)).heap[w.heap.size + 1]? = some (.cells ds 31 (0, 0)) ∧ Touch (fun _ => False) w ((w.alloc (.cells cs 28)).alloc (.cells ds 31)) := by
  have hsz : (w.alloc (.cells cs 28)).heap.size = w.heap.size + 1 := by simp
  refine ⟨?_, by rw [← hsz]; exact cells_new _ _ _, ((Touch.refl _ w).alloc _).alloc _⟩
  exact (((Touch.refl (fun _ => False) (w.alloc (.cells cs 28))).alloc (.cells ds 31)).block _ (by rw [hsz]; omega) id).trans (cells_new _ _ _)
theorem rest_of {w w5 : World} {b q4 q5 q7 q9 : Nat} {s : ByteArray} {t : Nat} {S : ByteArray} {n c x : ByteArray} {tx hx : Bool} {tm m8 m9 : Nat} {cs : Array Value} (T : Touch (fun k => k = b) w w5) (r : Gr w5 b s t) (fp : w5.heap[q4]? = some (.cells cs 28 (0, 0))) (ff : w5.heap[q5]? = some (.cells #[.int .i64 0, .int .i64 0] 31 (0, 0)))
    (f7 : w5.heap[q7]? = some (.cells #[.string n, .string c, .string x, .bool tx, .bool hx, .int .i64 (tm : Nat), .int .i64 (m8 : Nat), .int .i64 (m9 : Nat), .string ⟨#[]⟩] 28 (0, 0))) (f9 : (w5.setCell ⟨q7, 8, none⟩ (.string S)).heap[q9]? = some (.cells #[.int .i64 0, .int .i64 0] 31 (0, 0))) (h1 : w.heap.size ≤ q4) (h2 : q4 < q5) (h3 : b < q4) (h4 : q5 < q7) (h5 : q7 < q9) :
    Touch (fun k => k = b) w (((w5.setCell ⟨q7, 8, none⟩ (.string S)).setCell ⟨q9, 0, none⟩ (.int .i64 0)).setCell ⟨q9, 1, none⟩ (.int .i64 0)) ∧ Gr (((w5.setCell ⟨q7, 8, none⟩ (.string S)).setCell ⟨q9, 0, none⟩ (.int .i64 0)).setCell ⟨q9, 1, none⟩ (.int .i64 0)) b s t ∧
    (((w5.setCell ⟨q7, 8, none⟩ (.string S)).setCell ⟨q9, 0, none⟩ (.int .i64 0)).setCell ⟨q9, 1, none⟩ (.int .i64 0)).heap[q4]? = some (.cells cs 28 (0, 0)) ∧ (((w5.setCell ⟨q7, 8, none⟩ (.string S)).setCell ⟨q9, 0, none⟩ (.int .i64 0)).setCell ⟨q9, 1, none⟩ (.int .i64 0)).heap[q5]? = some (.cells #[.int .i64 0, .int .i64 0] 31 (0, 0)) ∧
    (((w5.setCell ⟨q7, 8, none⟩ (.string S)).setCell ⟨q9, 0, none⟩ (.int .i64 0)).setCell ⟨q9, 1, none⟩ (.int .i64 0)).heap[q7]? = some (.cells #[.string n, .string c, .string x, .bool tx, .bool hx, .int .i64 (tm : Nat), .int .i64 (m8 : Nat), .int .i64 (m9 : Nat), .string S] 28 (0, 0)) ∧ (((w5.setCell ⟨q7, 8, none⟩ (.string S)).setCell ⟨q9, 0, none⟩ (.int .i64 0)).setCell ⟨q9, 1, none⟩ (.int .i64 0)).heap[q9]? = some (.cells #[.int .i64 0, .int .i64 0] 31 (0, 0)) := by
  have T1 : Touch (fun k => k = b) w (w5.setCell ⟨q7, 8, none⟩ (.string S)) := T.setCell (p := ⟨q7, 8, none⟩) (fun h => absurd h (Nat.not_lt.2 (by show w.heap.size ≤ q7; omega))) _
  have r1 : Gr (w5.setCell ⟨q7, 8, none⟩ (.string S)) b s t := (Below.heap_setCell w5 _ _ _ (show b ≠ q7 by omega)).trans r
  have p1 : (w5.setCell ⟨q7, 8, none⟩ (.string S)).heap[q4]? = some (.cells cs 28 (0, 0)) := (Below.heap_setCell w5 _ _ _ (show q4 ≠ q7 by omega)).trans fp
  have u1 : (w5.setCell ⟨q7, 8, none⟩ (.string S)).heap[q5]? = some (.cells #[.int .i64 0, .int .i64 0] 31 (0, 0)) := (Below.heap_setCell w5 _ _ _ (show q5 ≠ q7 by omega)).trans ff
  have v1 : (w5.setCell ⟨q7, 8, none⟩ (.string S)).heap[q7]? = some (.cells #[.string n, .string c, .string x, .bool tx, .bool hx, .int .i64 (tm : Nat), .int .i64 (m8 : Nat), .int .i64 (m9 : Nat), .string S] 28 (0, 0)) := blk_set f7 _
  generalize w5.setCell ⟨q7, 8, none⟩ (.string S) = w6 at *
  refine ⟨ftouch T1 (by omega) _ _, r1.fset (by omega) _ _, ?_, ?_, ?_, fset f9 _ _⟩
  · rw [Below.heap_setCell _ _ _ _ (show q4 ≠ q9 by omega), Below.heap_setCell _ _ _ _ (show q4 ≠ q9 by omega)]
    exact p1
  · rw [Below.heap_setCell _ _ _ _ (show q5 ≠ q9 by omega), Below.heap_setCell _ _ _ _ (show q5 ≠ q9 by omega)]
    exact u1
  · rw [Below.heap_setCell _ _ _ _ (show q7 ≠ q9 by omega), Below.heap_setCell _ _ _ _ (show q7 ≠ q9 by omega)]
    exact v1
/-- What part answers. -/
def PPost (w : World) (b : Nat) (s : ByteArray) : Except Gz.Bad (Gz.Part × Nat) → Ending → World → Prop
  | .error y, e, w' => e = .returned (.tuple #[.agg (partC Gz.noPart), .agg #[.int .i64 (y.1 : Nat), .int .i64 (y.2 : Nat)]]) ∧ y.1 ≠ 0 ∧ Touch (fun k => k = b) w w'
  | .ok x, e, w' => e = .returned (.tuple #[.agg (partC x.1), .agg #[.int .i64 0, .int .i64 0]]) ∧ GStep w w' b s x.2
set_option maxRecDepth 100000 in
set_option maxHeartbeats 8000000 in
theorem part_any (b : Nat) (s : ByteArray) (t most : Nat) (w : World) (r : Gr w b s t) (hq : Quart w) (hb0 : b ≠ 0) (hs : s.size ≤ 140737488) (ht : t ≤ s.size) (hm : most ≤ 9223372036854775807) :
    Calls Tryz.prog 19 #[.pointer (some ⟨b, 0, none⟩), .int .i64 (most : Nat)] w fun e w' => ∃ x, Gz.partR s t most x ∧ PPost w b s x e w' := by
  obtain ⟨wA, hwA⟩ : ∃ wA, wA = (w.alloc (.cells #[.string ⟨#[]⟩, .string ⟨#[]⟩, .string ⟨#[]⟩, .bool false, .bool false, .int .i64 0, .int .i64 0, .int .i64 0, .string ⟨#[]⟩] 28)).alloc (.cells #[.int .i64 0, .int .i64 0] 31) := ⟨_, rfl⟩
  have T0 := hid (show Touch (fun _ => False) w wA from by rw [hwA]; exact ((Touch.refl (fun _ => False) w).alloc _).alloc _)
  have hsz : (w.alloc (.cells #[.string ⟨#[]⟩, .string ⟨#[]⟩, .string ⟨#[]⟩, .bool false, .bool false, .int .i64 0, .int .i64 0, .int .i64 0, .string ⟨#[]⟩] 28)).heap.size = w.heap.size + 1 := by simp
  have FP0 := hid (show wA.heap[w.heap.size]? = some (.cells #[.string ⟨#[]⟩, .string ⟨#[]⟩, .string ⟨#[]⟩, .bool false, .bool false, .int .i64 0, .int .i64 0, .int .i64 0, .string ⟨#[]⟩] 28 (0, 0)) from by
    rw [hwA]
    exact (((Touch.refl (fun _ => False) (w.alloc (.cells #[.string ⟨#[]⟩, .string ⟨#[]⟩, .string ⟨#[]⟩, .bool false, .bool false, .int .i64 0, .int .i64 0, .int .i64 0, .string ⟨#[]⟩] 28))).alloc (.cells #[.int .i64 0, .int .i64 0] 31)).block _ (by rw [hsz]; omega) id).trans (cells_new _ _ _))
  have FF0 := hid (show wA.heap[w.heap.size + 1]? = some (.cells #[.int .i64 0, .int .i64 0] 31 (0, 0)) from by rw [hwA, ← hsz]; exact cells_new _ _ _)
  have r0 := r.new T0.out id
  have c1 := r0.c1
  have R0 := hid r0
  have Q0 := hid (hq.new T0.out id)
  have HB := hid r.lt
  have HWA := hid hwA
  clear r r0 hsz hwA hq
  go_enter Tryz.func19, Tryz.ntmps19
  go_upto_region 1 with fail
  rw [← HWA.out]
  clear HWA
  obtain ⟨q4, hq4⟩ : ∃ q4, q4 = w.heap.size := ⟨_, rfl⟩
  rw [← hq4] at FP0 FF0 ⊢
  obtain ⟨q5, hq5⟩ : ∃ q5, q5 = q4 + 1 := ⟨_, rfl⟩
  rw [← hq5] at FF0 ⊢
  have HA := hid (show q5 < wA.heap.size from lt_of_block FF0.out)
  have HQ0 := hid (show w.heap.size ≤ q4 ∧ q4 < q5 ∧ b < q4 from ⟨by omega, by omega, by have := HB.out; omega⟩)
  clear hq4 hq5 HB
  go_wp2_with fail
  clear c1
  refine (head_any b s t wA R0.out (by omega) ht).mono ?_
  cases hh : Gz.headAt s t with
  | error y =>
    rintro e w1 ⟨rfl, tc⟩
    have HH := hid hh
    have T1 := hid ((T0.out.one b).trans tc (fun _ _ e => e))
    have FP1 := hid ((tc.block q4 (lt_of_block FP0.out) (fun e => by have := HQ0.out; omega)).trans FP0.out)
    have FF1 := hid ((tc.block q5 (lt_of_block FF0.out) (fun e => by have := HQ0.out; omega)).trans FF0.out)
    have H1 := hid (show q5 < w1.heap.size from lt_of_block FF1.out)
    clear hh tc T0 R0 FP0 FF0 Q0
    simp only [partC, Gz.noPart]
    go_upto_region 3 with fail
    obtain ⟨B7, B9, tal⟩ := two_allocs w1 #[.string ⟨#[]⟩, .string ⟨#[]⟩, .string ⟨#[]⟩, .bool false, .bool false, .int .i64 0, .int .i64 0, .int .i64 0, .string ⟨#[]⟩] #[.int .i64 (y.1 : Nat), .int .i64 (y.2 : Nat)]
    generalize (w1.alloc (.cells #[.string ⟨#[]⟩, .string ⟨#[]⟩, .string ⟨#[]⟩, .bool false, .bool false, .int .i64 0, .int .i64 0, .int .i64 0, .string ⟨#[]⟩] 28)).alloc (.cells #[.int .i64 (y.1 : Nat), .int .i64 (y.2 : Nat)] 31) = w2 at *
    obtain ⟨q7, hq7⟩ : ∃ q7, q7 = w1.heap.size := ⟨_, rfl⟩
    rw [← hq7] at B7 B9 H1 ⊢
    obtain ⟨q9, hq9⟩ : ∃ q9, q9 = q7 + 1 := ⟨_, rfl⟩
    rw [← hq9] at B9 ⊢
    have HQ := hid (show w.heap.size ≤ q4 ∧ q4 < q5 ∧ b < q4 ∧ q5 < q7 ∧ q7 < q9 from ⟨HQ0.out.1, HQ0.out.2.1, HQ0.out.2.2, H1.out, by omega⟩)
    have T2 := hid (T1.out.trans tal (fun _ _ e => e.elim))
    have FP2 := hid (tal.still FP1.out)
    have FF2 := hid (tal.still FF1.out)
    have F9 := hid B9
    clear hq7 hq9 B7 B9 tal T1 FP1 FF1 H1 HQ0 HA
    have z0 := cell_two0 F9.out
    have z1 := cell_two1 F9.out
    have zc : ((y.1 : Int) == 0) = false := by have := (head_code HH.out); simp; omega
    have p0 : w2.cell? ⟨q4, 0, none⟩ = some (.string ⟨#[]⟩) := blk_cell FP2.out 0
    have pf0 : w2.frozen? ⟨q4, 0, none⟩ = false := blk_free FP2.out
    have p1 : w2.cell? ⟨q4, 1, none⟩ = some (.string ⟨#[]⟩) := blk_cell FP2.out 1
    have pf1 : w2.frozen? ⟨q4, 1, none⟩ = false := blk_free FP2.out
    have p2 : w2.cell? ⟨q4, 2, none⟩ = some (.string ⟨#[]⟩) := blk_cell FP2.out 2
    have pf2 : w2.frozen? ⟨q4, 2, none⟩ = false := blk_free FP2.out
    have p3 : w2.cell? ⟨q4, 3, none⟩ = some (.bool false) := blk_cell FP2.out 3
    have pf3 : w2.frozen? ⟨q4, 3, none⟩ = false := blk_free FP2.out
    have p4 : w2.cell? ⟨q4, 4, none⟩ = some (.bool false) := blk_cell FP2.out 4
    have pf4 : w2.frozen? ⟨q4, 4, none⟩ = false := blk_free FP2.out
    have p5 : w2.cell? ⟨q4, 5, none⟩ = some (.int .i64 0) := blk_cell FP2.out 5
    have pf5 : w2.frozen? ⟨q4, 5, none⟩ = false := blk_free FP2.out
    have p6 : w2.cell? ⟨q4, 6, none⟩ = some (.int .i64 0) := blk_cell FP2.out 6
    have pf6 : w2.frozen? ⟨q4, 6, none⟩ = false := blk_free FP2.out
    have p7 : w2.cell? ⟨q4, 7, none⟩ = some (.int .i64 0) := blk_cell FP2.out 7
    have pf7 : w2.frozen? ⟨q4, 7, none⟩ = false := blk_free FP2.out
    have p8 : w2.cell? ⟨q4, 8, none⟩ = some (.string ⟨#[]⟩) := blk_cell FP2.out 8
    have pf8 : w2.frozen? ⟨q4, 8, none⟩ = false := blk_free FP2.out
    have g0 := cell_two0 FF2.out
    have g1 := cell_two1 FF2.out
    have gf0 := free_two (i := 0) FF2.out
    have gf1 := free_two (i := 1) FF2.out
    have hne1 : q5 ≠ q4 := by have := HQ.out; omega
    have hne2 : q4 ≠ q5 := by have := HQ.out; omega
    have hne3 : q9 ≠ q4 := by have := HQ.out; omega
    have hne4 : q9 ≠ q5 := by have := HQ.out; omega
    go_wp2
    go_region
    all_goals go_wp2
    all_goals
      obtain ⟨hP, hF, hT⟩ := nine_x FP2.out FF2.out T2.out ⟨HQ.out.1, HQ.out.2.1⟩ (.string ⟨#[]⟩) (.string ⟨#[]⟩) (.string ⟨#[]⟩) (.bool false) (.bool false) (.int .i64 0) (.int .i64 0) (.int .i64 0) (.string ⟨#[]⟩) (.int .i64 (y.1 : Nat)) (.int .i64 (y.2 : Nat))
      refine bodyPost_ret (results_cc rfl _ _ q4 28 _ (0, 0) _ q5 31 _ (0, 0) _ rfl hP Tryz.underlying28 rfl (by kernel_rfl) rfl hF Tryz.underlying31 rfl (by kernel_rfl)) rfl ?_
      exact ⟨.error y, (by unfold Gz.partR; rw [HH.out]), rfl, (head_code HH.out), hT⟩
  | ok f =>
    rintro e w1 ⟨rfl, gs⟩
    have HH := hid hh
    have HIN := hid (Gz.head_in hh)
    have T1 := hid ((T0.out.one b).trans gs.touch (fun _ _ e => e))
    have R1 := hid gs.gr
    have Q1 := hid (Q0.out.new gs.touch (fun e => hb0 e.symm))
    have FP1 := hid ((gs.touch.block q4 (lt_of_block FP0.out) (fun e => by have := HQ0.out; omega)).trans FP0.out)
    have FF1 := hid ((gs.touch.block q5 (lt_of_block FF0.out) (fun e => by have := HQ0.out; omega)).trans FF0.out)
    have H1 := hid (show q5 < w1.heap.size from lt_of_block FF1.out)
    clear hh gs T0 R0 FP0 FF0 Q0
    obtain ⟨tx, htx⟩ : ∃ tx, tx = (f % 2 == 1) := ⟨_, rfl⟩
    obtain ⟨hx, hhx⟩ : ∃ hx, hx = (f / 2 % 2 == 1) := ⟨_, rfl⟩
    obtain ⟨tm, htm⟩ : ∃ tm, tm = Gz.num s (t + 4) 4 := ⟨_, rfl⟩
    obtain ⟨m8, hm8⟩ : ∃ m8, m8 = Bt.byteN s (t + 8) := ⟨_, rfl⟩
    obtain ⟨m9, hm9⟩ : ∃ m9, m9 = Bt.byteN s (t + 9) := ⟨_, rfl⟩
    have HPO := hid (show ∀ x n c S, Gz.partOf s t f x n c S = ⟨n, c, x, tx, hx, tm, m8, m9, S⟩ from fun x n c S => by rw [htx, hhx, htm, hm8, hm9]; rfl)
    have HHX := hid hhx
    clear htx hhx htm hm8 hm9
    simp only [HPO.out, partC]
    have KX := hid (fun (pb : Nat) w' (r : Gr w' b s (t + 10)) (hp : w'.heap[pb]? = some (.cells (partC (Gz.partOf s t f ⟨#[]⟩ ⟨#[]⟩ ⟨#[]⟩ ⟨#[]⟩)) 28 (0, 0))) => texts_any b pb s (t + 10) f _ w' r hp (by omega) HIN.out.1 HIN.out.2.1)
    go_upto_region 3 with fail
    obtain ⟨B7, B9, tal⟩ := two_allocs w1 #[.string ⟨#[]⟩, .string ⟨#[]⟩, .string ⟨#[]⟩, .bool tx, .bool hx, .int .i64 (tm : Nat), .int .i64 (m8 : Nat), .int .i64 (m9 : Nat), .string ⟨#[]⟩] #[.int .i64 0, .int .i64 0]
    generalize (w1.alloc (.cells #[.string ⟨#[]⟩, .string ⟨#[]⟩, .string ⟨#[]⟩, .bool tx, .bool hx, .int .i64 (tm : Nat), .int .i64 (m8 : Nat), .int .i64 (m9 : Nat), .string ⟨#[]⟩] 28)).alloc (.cells #[.int .i64 0, .int .i64 0] 31) = w2 at *
    obtain ⟨q7, hq7⟩ : ∃ q7, q7 = w1.heap.size := ⟨_, rfl⟩
    rw [← hq7] at B7 B9 H1 ⊢
    obtain ⟨q9, hq9⟩ : ∃ q9, q9 = q7 + 1 := ⟨_, rfl⟩
    rw [← hq9] at B9 ⊢
    have HQ1 := hid (show w.heap.size ≤ q4 ∧ q4 < q5 ∧ b < q4 ∧ q5 < q7 ∧ q7 < q9 from ⟨HQ0.out.1, HQ0.out.2.1, HQ0.out.2.2, H1.out, by omega⟩)
    have T2 := hid (T1.out.trans tal (fun _ _ e => e.elim))
    have R2 := hid (R1.out.new tal id)
    have Q2 := hid (Q1.out.new tal id)
    have FP2 := hid (tal.still FP1.out)
    have FF2 := hid (tal.still FF1.out)
    have F7 := hid B7
    have F9 := hid B9
    clear hq7 hq9 B7 B9 tal T1 R1 Q1 FP1 FF1 H1 HQ0 HA
    have z0 := cell_two0 F9.out
    go_wp2_with fail
    clear z0
    refine (KX.out q7 w2 R2.out (by rw [HPO.out]; exact F7.out)).mono ?_
    clear KX
    cases hx3 : textsR s f (Gz.partOf s t f ⟨#[]⟩ ⟨#[]⟩ ⟨#[]⟩ ⟨#[]⟩) (t + 10) with
    | error y =>
      rintro e w3 ⟨rfl, hyc, tc⟩
      have HTX := hid (texts_err rfl rfl rfl hx3)
      have HYC := hid hyc
      have T3 := hid (T2.out.trans (S := fun k => k = b) (S' := fun k => k = b ∨ k = q7) tc (fun k hk e => by
        rcases e with e | e
        · exact e
        · have := HQ1.out
          omega))
      have FP3 := hid ((tc.block q4 (lt_of_block FP2.out) (fun e => by have := HQ1.out; omega)).trans FP2.out)
      have FF3 := hid ((tc.block q5 (lt_of_block FF2.out) (fun e => by have := HQ1.out; omega)).trans FF2.out)
      have H3 := hid (show q9 < w3.heap.size from Nat.lt_of_lt_of_le (lt_of_block F9.out) tc.size)
      clear hx3 tc hyc T2 R2 Q2 FP2 FF2 F7 F9
      go_upto_region 6 with fail
      have F10 := hid (cells_new w3 #[.int .i64 (y.1 : Nat), .int .i64 (y.2 : Nat)] 31)
      have tal := (Touch.refl (fun _ => False) w3).alloc (.cells #[.int .i64 (y.1 : Nat), .int .i64 (y.2 : Nat)] 31)
      generalize w3.alloc (.cells #[.int .i64 (y.1 : Nat), .int .i64 (y.2 : Nat)] 31) = w4 at *
      obtain ⟨q10, hq10⟩ : ∃ q10, q10 = w3.heap.size := ⟨_, rfl⟩
      rw [← hq10] at F10 H3 ⊢
      have T4 := hid (T3.out.trans tal (fun _ _ e => e.elim))
      have FP4 := hid (tal.still FP3.out)
      have FF4 := hid (tal.still FF3.out)
      have HQ := hid (show w.heap.size ≤ q4 ∧ q4 < q5 ∧ b < q4 ∧ q5 < q7 ∧ q7 < q9 ∧ q9 < q10 from ⟨HQ1.out.1, HQ1.out.2.1, HQ1.out.2.2.1, HQ1.out.2.2.2.1, HQ1.out.2.2.2.2, H3.out⟩)
      clear hq10 tal T3 FP3 FF3 H3 HQ1
      have z0 := cell_two0 F10.out
      have z1 := cell_two1 F10.out
      have zc : ((y.1 : Int) == 0) = false := by have := HYC.out; simp; omega
      have p0 : w4.cell? ⟨q4, 0, none⟩ = some (.string ⟨#[]⟩) := blk_cell FP4.out 0
      have pf0 : w4.frozen? ⟨q4, 0, none⟩ = false := blk_free FP4.out
      have p1 : w4.cell? ⟨q4, 1, none⟩ = some (.string ⟨#[]⟩) := blk_cell FP4.out 1
      have pf1 : w4.frozen? ⟨q4, 1, none⟩ = false := blk_free FP4.out
      have p2 : w4.cell? ⟨q4, 2, none⟩ = some (.string ⟨#[]⟩) := blk_cell FP4.out 2
      have pf2 : w4.frozen? ⟨q4, 2, none⟩ = false := blk_free FP4.out
      have p3 : w4.cell? ⟨q4, 3, none⟩ = some (.bool false) := blk_cell FP4.out 3
      have pf3 : w4.frozen? ⟨q4, 3, none⟩ = false := blk_free FP4.out
      have p4 : w4.cell? ⟨q4, 4, none⟩ = some (.bool false) := blk_cell FP4.out 4
      have pf4 : w4.frozen? ⟨q4, 4, none⟩ = false := blk_free FP4.out
      have p5 : w4.cell? ⟨q4, 5, none⟩ = some (.int .i64 0) := blk_cell FP4.out 5
      have pf5 : w4.frozen? ⟨q4, 5, none⟩ = false := blk_free FP4.out
      have p6 : w4.cell? ⟨q4, 6, none⟩ = some (.int .i64 0) := blk_cell FP4.out 6
      have pf6 : w4.frozen? ⟨q4, 6, none⟩ = false := blk_free FP4.out
      have p7 : w4.cell? ⟨q4, 7, none⟩ = some (.int .i64 0) := blk_cell FP4.out 7
      have pf7 : w4.frozen? ⟨q4, 7, none⟩ = false := blk_free FP4.out
      have p8 : w4.cell? ⟨q4, 8, none⟩ = some (.string ⟨#[]⟩) := blk_cell FP4.out 8
      have pf8 : w4.frozen? ⟨q4, 8, none⟩ = false := blk_free FP4.out
      have g0 := cell_two0 FF4.out
      have g1 := cell_two1 FF4.out
      have gf0 := free_two (i := 0) FF4.out
      have gf1 := free_two (i := 1) FF4.out
      have hne1 : q5 ≠ q4 := by have := HQ.out; omega
      have hne2 : q4 ≠ q5 := by have := HQ.out; omega
      have hne3 : q10 ≠ q4 := by have := HQ.out; omega
      have hne4 : q10 ≠ q5 := by have := HQ.out; omega
      go_wp2
      go_region
      all_goals go_wp2
      all_goals
        obtain ⟨hP, hF, hT⟩ := nine_x FP4.out FF4.out T4.out ⟨HQ.out.1, HQ.out.2.1⟩ (.string ⟨#[]⟩) (.string ⟨#[]⟩) (.string ⟨#[]⟩) (.bool false) (.bool false) (.int .i64 0) (.int .i64 0) (.int .i64 0) (.string ⟨#[]⟩) (.int .i64 (y.1 : Nat)) (.int .i64 (y.2 : Nat))
        refine bodyPost_ret (results_cc rfl _ _ q4 28 _ (0, 0) _ q5 31 _ (0, 0) _ rfl hP Tryz.underlying28 rfl (by kernel_rfl) rfl hF Tryz.underlying31 rfl (by kernel_rfl)) rfl ?_
        exact ⟨.error y, (by unfold Gz.partR; rw [HH.out]; simp only; rw [HTX.out]), rfl, HYC.out, hT⟩
    | ok pt =>
      obtain ⟨p1, t1⟩ := pt
      rintro e w3 ⟨rfl, gr3, pb3, hle, tc⟩
      obtain ⟨x, n, c, hta, hp1⟩ := texts_ok rfl rfl rfl hx3
      have HTA := hid hta
      have HTI := hid (Gz.texts_in hta HIN.out.1)
      have B7 : w3.heap[q7]? = some (.cells #[.string n, .string c, .string x, .bool tx, .bool hx, .int .i64 (tm : Nat), .int .i64 (m8 : Nat), .int .i64 (m9 : Nat), .string ⟨#[]⟩] 28 (0, 0)) := by
        have h := pb3
        rw [hp1, HPO.out] at h
        exact h
      have T3 := hid (T2.out.trans (S := fun k => k = b) (S' := fun k => k = b ∨ k = q7) tc (fun k hk e => by
        rcases e with e | e
        · exact e
        · have := HQ1.out
          omega))
      have R3 := hid gr3
      have Q3 := hid (Q2.out.new tc (fun e => by have := HQ1.out; omega))
      have FP3 := hid ((tc.block q4 (lt_of_block FP2.out) (fun e => by have := HQ1.out; omega)).trans FP2.out)
      have FF3 := hid ((tc.block q5 (lt_of_block FF2.out) (fun e => by have := HQ1.out; omega)).trans FF2.out)
      have F93 := hid ((tc.block q9 (lt_of_block F9.out) (fun e => by have := HQ1.out; omega)).trans F9.out)
      have F73 := hid B7
      have H3 := hid (show q9 < w3.heap.size from Nat.lt_of_lt_of_le (lt_of_block F9.out) tc.size)
      clear hx3 tc hta hp1 B7 pb3 gr3 hle T2 R2 Q2 FP2 FF2 F7 F9
      go_upto_region 6 with fail
      have F10 := hid (cells_new w3 #[.int .i64 0, .int .i64 0] 31)
      have tal := (Touch.refl (fun _ => False) w3).alloc (.cells #[.int .i64 0, .int .i64 0] 31)
      generalize w3.alloc (.cells #[.int .i64 0, .int .i64 0] 31) = w4 at *
      obtain ⟨q10, hq10⟩ : ∃ q10, q10 = w3.heap.size := ⟨_, rfl⟩
      rw [← hq10] at F10 H3 ⊢
      have T4 := hid (T3.out.trans tal (fun _ _ e => e.elim))
      have R4 := hid (R3.out.new tal id)
      have Q4 := hid (Q3.out.new tal id)
      have FP4 := hid (tal.still FP3.out)
      have FF4 := hid (tal.still FF3.out)
      have F94 := hid (tal.still F93.out)
      have F74 := hid (tal.still F73.out)
      have HQ2 := hid (show w.heap.size ≤ q4 ∧ q4 < q5 ∧ b < q4 ∧ q5 < q7 ∧ q7 < q9 ∧ q9 < q10 from ⟨HQ1.out.1, HQ1.out.2.1, HQ1.out.2.2.1, HQ1.out.2.2.2.1, HQ1.out.2.2.2.2, H3.out⟩)
      clear hq10 tal T3 R3 Q3 FP3 FF3 F93 F73 H3 HQ1
      have z0 := cell_two0 F10.out
      have h4 : w4.cell? ⟨q7, 4, none⟩ = some (.bool hx) := blk_cell F74.out 4
      cases hx with
      | false =>
        go_wp2_with fail
        clear z0 h4
        have HSUM := hid (show Gz.sumAt s t t1 false = .ok t1 by unfold Gz.sumAt; rfl)
        have HT2 := hid HTI.out.2
        have HQ := HQ2
        obtain ⟨t2, ht2⟩ : ∃ t2, t2 = t1 := ⟨_, rfl⟩
        rw [← ht2] at HT2 R4
        replace HSUM := hid (show Gz.sumAt s t t1 false = .ok t2 by rw [HSUM.out, ht2])
        clear ht2
        refine (packed_any b s t2 most w4 R4.out Q4.out hb0 hs HT2.out hm).mono ?_
        rintro e w5 ⟨y, hpk, hpost⟩
        cases y with
        | error y =>
          obtain ⟨rfl, tc⟩ := hpost
          have HPK := hid hpk
          have T5 := hid (T4.out.trans tc (fun _ _ e => e))
          have FP5 := hid ((tc.block q4 (lt_of_block FP4.out) (fun e => by have := HQ.out; omega)).trans FP4.out)
          have FF5 := hid ((tc.block q5 (lt_of_block FF4.out) (fun e => by have := HQ.out; omega)).trans FF4.out)
          have F75 := hid ((tc.block q7 (lt_of_block F74.out) (fun e => by have := HQ.out; omega)).trans F74.out)
          have F95 := hid ((tc.block q9 (lt_of_block F94.out) (fun e => by have := HQ.out; omega)).trans F94.out)
          clear hpk tc T4 R4 Q4 FP4 FF4 F74 F94
          have j8 : w5.cell? ⟨q7, 8, none⟩ = some (.string ⟨#[]⟩) := blk_cell F75.out 8
          have jf8 : w5.frozen? ⟨q7, 8, none⟩ = false := blk_free F75.out
          have F96 := hid (show (w5.setCell ⟨q7, 8, none⟩ (.string ⟨#[]⟩)).heap[q9]? = some (.cells #[.int .i64 0, .int .i64 0] 31 (0, 0)) from (Below.heap_setCell w5 _ _ _ (show q9 ≠ q7 by have := HQ.out; omega)).trans F95.out)
          have s0 := cell_two0 F96.out
          have s1 := cell_two1 F96.out
          have sf0 := free_two (i := 0) F96.out
          have sf1 := free_two (i := 1) F96.out
          go_upto_region 13 with fail
          have F9 := hid (fset F96.out (.int .i64 (y.1 : Nat)) (.int .i64 (y.2 : Nat)))
          have T6 := hid (ftouch (T5.out.setCell (p := ⟨q7, 8, none⟩) (fun h => absurd h (Nat.not_lt.2 (show w.heap.size ≤ q7 by have := HQ.out; omega))) (.string ⟨#[]⟩)) (show w.heap.size ≤ q9 by have := HQ.out; omega) (.int .i64 (y.1 : Nat)) (.int .i64 (y.2 : Nat)))
          have FP6 := hid (((Below.heap_setCell _ _ _ _ (show q4 ≠ q9 by have := HQ.out; omega)).trans ((Below.heap_setCell _ _ _ _ (show q4 ≠ q9 by have := HQ.out; omega)).trans ((Below.heap_setCell _ _ _ _ (show q4 ≠ q7 by have := HQ.out; omega)).trans FP5.out)) : (((w5.setCell ⟨q7, 8, none⟩ (.string ⟨#[]⟩)).setCell ⟨q9, 0, none⟩ (.int .i64 (y.1 : Nat))).setCell ⟨q9, 1, none⟩ (.int .i64 (y.2 : Nat))).heap[q4]? = some (.cells #[.string ⟨#[]⟩, .string ⟨#[]⟩, .string ⟨#[]⟩, .bool false, .bool false, .int .i64 0, .int .i64 0, .int .i64 0, .string ⟨#[]⟩] 28 (0, 0))))
          have FF6 := hid (((Below.heap_setCell _ _ _ _ (show q5 ≠ q9 by have := HQ.out; omega)).trans ((Below.heap_setCell _ _ _ _ (show q5 ≠ q9 by have := HQ.out; omega)).trans ((Below.heap_setCell _ _ _ _ (show q5 ≠ q7 by have := HQ.out; omega)).trans FF5.out)) : (((w5.setCell ⟨q7, 8, none⟩ (.string ⟨#[]⟩)).setCell ⟨q9, 0, none⟩ (.int .i64 (y.1 : Nat))).setCell ⟨q9, 1, none⟩ (.int .i64 (y.2 : Nat))).heap[q5]? = some (.cells #[.int .i64 0, .int .i64 0] 31 (0, 0))))
          clear T5 FP5 FF5 F75 F95 F96 j8 jf8 s0 s1 sf0 sf1
          generalize ((w5.setCell ⟨q7, 8, none⟩ (.string ⟨#[]⟩)).setCell ⟨q9, 0, none⟩ (.int .i64 (y.1 : Nat))).setCell ⟨q9, 1, none⟩ (.int .i64 (y.2 : Nat)) = w6 at *
          have z0 := cell_two0 F9.out
          have z1 := cell_two1 F9.out
          have zc : ((y.1 : Int) == 0) = false := by have := (pack_code HPK.out); simp; omega
          have p0 : w6.cell? ⟨q4, 0, none⟩ = some (.string ⟨#[]⟩) := blk_cell FP6.out 0
          have pf0 : w6.frozen? ⟨q4, 0, none⟩ = false := blk_free FP6.out
          have p1 : w6.cell? ⟨q4, 1, none⟩ = some (.string ⟨#[]⟩) := blk_cell FP6.out 1
          have pf1 : w6.frozen? ⟨q4, 1, none⟩ = false := blk_free FP6.out
          have p2 : w6.cell? ⟨q4, 2, none⟩ = some (.string ⟨#[]⟩) := blk_cell FP6.out 2
          have pf2 : w6.frozen? ⟨q4, 2, none⟩ = false := blk_free FP6.out
          have p3 : w6.cell? ⟨q4, 3, none⟩ = some (.bool false) := blk_cell FP6.out 3
          have pf3 : w6.frozen? ⟨q4, 3, none⟩ = false := blk_free FP6.out
          have p4 : w6.cell? ⟨q4, 4, none⟩ = some (.bool false) := blk_cell FP6.out 4
          have pf4 : w6.frozen? ⟨q4, 4, none⟩ = false := blk_free FP6.out
          have p5 : w6.cell? ⟨q4, 5, none⟩ = some (.int .i64 0) := blk_cell FP6.out 5
          have pf5 : w6.frozen? ⟨q4, 5, none⟩ = false := blk_free FP6.out
          have p6 : w6.cell? ⟨q4, 6, none⟩ = some (.int .i64 0) := blk_cell FP6.out 6
          have pf6 : w6.frozen? ⟨q4, 6, none⟩ = false := blk_free FP6.out
          have p7 : w6.cell? ⟨q4, 7, none⟩ = some (.int .i64 0) := blk_cell FP6.out 7
          have pf7 : w6.frozen? ⟨q4, 7, none⟩ = false := blk_free FP6.out
          have p8 : w6.cell? ⟨q4, 8, none⟩ = some (.string ⟨#[]⟩) := blk_cell FP6.out 8
          have pf8 : w6.frozen? ⟨q4, 8, none⟩ = false := blk_free FP6.out
          have g0 := cell_two0 FF6.out
          have g1 := cell_two1 FF6.out
          have gf0 := free_two (i := 0) FF6.out
          have gf1 := free_two (i := 1) FF6.out
          have hne1 : q5 ≠ q4 := by have := HQ.out; omega
          have hne2 : q4 ≠ q5 := by have := HQ.out; omega
          have hne3 : q9 ≠ q4 := by have := HQ.out; omega
          have hne4 : q9 ≠ q5 := by have := HQ.out; omega
          go_wp2
          go_region
          all_goals go_wp2
          all_goals
            obtain ⟨hP, hF, hT⟩ := nine_x FP6.out FF6.out T6.out ⟨HQ.out.1, HQ.out.2.1⟩ (.string ⟨#[]⟩) (.string ⟨#[]⟩) (.string ⟨#[]⟩) (.bool false) (.bool false) (.int .i64 0) (.int .i64 0) (.int .i64 0) (.string ⟨#[]⟩) (.int .i64 (y.1 : Nat)) (.int .i64 (y.2 : Nat))
            refine bodyPost_ret (results_cc rfl _ _ q4 28 _ (0, 0) _ q5 31 _ (0, 0) _ rfl hP Tryz.underlying28 rfl (by kernel_rfl) rfl hF Tryz.underlying31 rfl (by kernel_rfl)) rfl ?_
            exact ⟨.error y, (by unfold Gz.partR; rw [HH.out]; simp only; rw [HTA.out]; simp only; rw [← HHX.out, HSUM.out]; exact ⟨_, HPK.out, rfl⟩), rfl, (pack_code HPK.out), hT⟩
        | ok St =>
          obtain ⟨S, t3⟩ := St
          obtain ⟨rfl, gs⟩ := hpost
          have HPK := hid hpk
          have T5 := hid (T4.out.trans gs.touch (fun _ _ e => e))
          have R5 := hid gs.gr
          have FP5 := hid ((gs.touch.block q4 (lt_of_block FP4.out) (fun e => by have := HQ.out; omega)).trans FP4.out)
          have FF5 := hid ((gs.touch.block q5 (lt_of_block FF4.out) (fun e => by have := HQ.out; omega)).trans FF4.out)
          have F75 := hid ((gs.touch.block q7 (lt_of_block F74.out) (fun e => by have := HQ.out; omega)).trans F74.out)
          have F95 := hid ((gs.touch.block q9 (lt_of_block F94.out) (fun e => by have := HQ.out; omega)).trans F94.out)
          clear hpk gs T4 R4 Q4 FP4 FF4 F74 F94
          have j8 : w5.cell? ⟨q7, 8, none⟩ = some (.string ⟨#[]⟩) := blk_cell F75.out 8
          have jf8 : w5.frozen? ⟨q7, 8, none⟩ = false := blk_free F75.out
          have F96 := hid (show (w5.setCell ⟨q7, 8, none⟩ (.string S)).heap[q9]? = some (.cells #[.int .i64 0, .int .i64 0] 31 (0, 0)) from (Below.heap_setCell w5 _ _ _ (show q9 ≠ q7 by have := HQ.out; omega)).trans F95.out)
          have s0 := cell_two0 F96.out
          have s1 := cell_two1 F96.out
          have sf0 := free_two (i := 0) F96.out
          have sf1 := free_two (i := 1) F96.out
          go_upto_region 13 with fail
          have W6 := hid (rest_of (w := w) (w5 := w5) (b := b) (s := s) (t := t3) (S := S) T5.out R5.out FP5.out FF5.out F75.out F96.out HQ.out.1 HQ.out.2.1 HQ.out.2.2.1 HQ.out.2.2.2.1 HQ.out.2.2.2.2.1)
          clear T5 FP5 FF5 F75 F95 F96 j8 jf8 s0 s1 sf0 sf1 R5
          generalize ((w5.setCell ⟨q7, 8, none⟩ (.string S)).setCell ⟨q9, 0, none⟩ (.int .i64 0)).setCell ⟨q9, 1, none⟩ (.int .i64 0) = w6 at *
          have F9 := hid W6.out.2.2.2.2.2
          have F7 := hid W6.out.2.2.2.2.1
          have FF6 := hid W6.out.2.2.2.1
          have FP6 := hid W6.out.2.2.1
          have z0 := cell_two0 F9.out
          have FF9 := hid (fin_r (qp := q4) (cs := #[.string n, .string c, .string x, .bool tx, .bool false, .int .i64 (tm : Nat), .int .i64 (m8 : Nat), .int .i64 (m9 : Nat), .string S]) FF6.out HQ.out.2.1)
          have g0 := cell_two0 FF9.out
          have g1 := cell_two1 FF9.out
          have gf0 := free_two (i := 0) FF9.out
          have gf1 := free_two (i := 1) FF9.out
          go_wp2_with (first | refine wpList_load_row rfl 28 _ rfl q7 rfl 28 _ (0, 0) _ F7.out Tryz.underlying28 rfl info30 ?_ | refine wpList_store_row rfl 28 _ _ rfl q4 _ rfl rfl 28 #[.string ⟨#[]⟩, .string ⟨#[]⟩, .string ⟨#[]⟩, .bool false, .bool false, .int .i64 0, .int .i64 0, .int .i64 0, .string ⟨#[]⟩] FP6.out info30 (by rfl) (one9 _ _ _ _ _ _ _ _ _) ?_ | fail)
          refine bodyPost_ret (results_cc rfl _ _ q4 28 _ (0, 0) _ q5 31 _ (0, 0) _ rfl (fin_p FP6.out HQ.out.2.1 _ _) Tryz.underlying28 rfl (by kernel_rfl) rfl (fset FF9.out _ _) Tryz.underlying31 rfl (by kernel_rfl)) rfl ?_
          refine ⟨.ok (Gz.partOf s t f x n c S, t3), (by unfold Gz.partR; rw [HH.out]; simp only; rw [HTA.out]; simp only; rw [← HHX.out, HSUM.out]; exact ⟨_, HPK.out, rfl⟩), ?_, fin_g W6.out.2.1 HQ.out.2.2.1 HQ.out.2.1 _ _ _, fin_t W6.out.1 HQ.out.1 (by have := HQ.out; omega) _ _ _⟩
          rw [HPO.out]
          rfl
      | true =>
        go_wp2_with fail
        clear z0 h4
        refine (headSum_any b s t t1 w4 R4.out Q4.out hb0 (by omega) (by have := HTI.out; omega) HTI.out.2).mono ?_
        cases hsm : Gz.sumAt s t t1 true with
        | error y =>
          rintro e w7 ⟨rfl, tc⟩
          have HSM := hid hsm
          have T7 := hid (T4.out.trans tc (fun _ _ e => e))
          have FP7 := hid ((tc.block q4 (lt_of_block FP4.out) (fun e => by have := HQ2.out; omega)).trans FP4.out)
          have FF7 := hid ((tc.block q5 (lt_of_block FF4.out) (fun e => by have := HQ2.out; omega)).trans FF4.out)
          have H7 := hid (show q10 < w7.heap.size from Nat.lt_of_lt_of_le (lt_of_block F10.out) tc.size)
          clear hsm tc T4 R4 Q4 FP4 FF4 F74 F94 F10
          go_upto_region 10 with fail
          have F11 := hid (cells_new w7 #[.int .i64 (y.1 : Nat), .int .i64 (y.2 : Nat)] 31)
          have tal := (Touch.refl (fun _ => False) w7).alloc (.cells #[.int .i64 (y.1 : Nat), .int .i64 (y.2 : Nat)] 31)
          generalize w7.alloc (.cells #[.int .i64 (y.1 : Nat), .int .i64 (y.2 : Nat)] 31) = w8 at *
          obtain ⟨q11, hq11⟩ : ∃ q11, q11 = w7.heap.size := ⟨_, rfl⟩
          rw [← hq11] at F11 H7 ⊢
          have T8 := hid (T7.out.trans tal (fun _ _ e => e.elim))
          have FP8 := hid (tal.still FP7.out)
          have FF8 := hid (tal.still FF7.out)
          have HQ := hid (show w.heap.size ≤ q4 ∧ q4 < q5 ∧ b < q4 ∧ q5 < q7 ∧ q7 < q9 ∧ q9 < q10 ∧ q10 < q11 from ⟨HQ2.out.1, HQ2.out.2.1, HQ2.out.2.2.1, HQ2.out.2.2.2.1, HQ2.out.2.2.2.2.1, HQ2.out.2.2.2.2.2, H7.out⟩)
          clear hq11 tal T7 FP7 FF7 H7 HQ2
          have z0 := cell_two0 F11.out
          have z1 := cell_two1 F11.out
          have zc : ((y.1 : Int) == 0) = false := by have := (sum_code HSM.out); simp; omega
          have p0 : w8.cell? ⟨q4, 0, none⟩ = some (.string ⟨#[]⟩) := blk_cell FP8.out 0
          have pf0 : w8.frozen? ⟨q4, 0, none⟩ = false := blk_free FP8.out
          have p1 : w8.cell? ⟨q4, 1, none⟩ = some (.string ⟨#[]⟩) := blk_cell FP8.out 1
          have pf1 : w8.frozen? ⟨q4, 1, none⟩ = false := blk_free FP8.out
          have p2 : w8.cell? ⟨q4, 2, none⟩ = some (.string ⟨#[]⟩) := blk_cell FP8.out 2
          have pf2 : w8.frozen? ⟨q4, 2, none⟩ = false := blk_free FP8.out
          have p3 : w8.cell? ⟨q4, 3, none⟩ = some (.bool false) := blk_cell FP8.out 3
          have pf3 : w8.frozen? ⟨q4, 3, none⟩ = false := blk_free FP8.out
          have p4 : w8.cell? ⟨q4, 4, none⟩ = some (.bool false) := blk_cell FP8.out 4
          have pf4 : w8.frozen? ⟨q4, 4, none⟩ = false := blk_free FP8.out
          have p5 : w8.cell? ⟨q4, 5, none⟩ = some (.int .i64 0) := blk_cell FP8.out 5
          have pf5 : w8.frozen? ⟨q4, 5, none⟩ = false := blk_free FP8.out
          have p6 : w8.cell? ⟨q4, 6, none⟩ = some (.int .i64 0) := blk_cell FP8.out 6
          have pf6 : w8.frozen? ⟨q4, 6, none⟩ = false := blk_free FP8.out
          have p7 : w8.cell? ⟨q4, 7, none⟩ = some (.int .i64 0) := blk_cell FP8.out 7
          have pf7 : w8.frozen? ⟨q4, 7, none⟩ = false := blk_free FP8.out
          have p8 : w8.cell? ⟨q4, 8, none⟩ = some (.string ⟨#[]⟩) := blk_cell FP8.out 8
          have pf8 : w8.frozen? ⟨q4, 8, none⟩ = false := blk_free FP8.out
          have g0 := cell_two0 FF8.out
          have g1 := cell_two1 FF8.out
          have gf0 := free_two (i := 0) FF8.out
          have gf1 := free_two (i := 1) FF8.out
          have hne1 : q5 ≠ q4 := by have := HQ.out; omega
          have hne2 : q4 ≠ q5 := by have := HQ.out; omega
          have hne3 : q11 ≠ q4 := by have := HQ.out; omega
          have hne4 : q11 ≠ q5 := by have := HQ.out; omega
          go_wp2
          go_region
          all_goals go_wp2
          all_goals
            obtain ⟨hP, hF, hT⟩ := nine_x FP8.out FF8.out T8.out ⟨HQ.out.1, HQ.out.2.1⟩ (.string ⟨#[]⟩) (.string ⟨#[]⟩) (.string ⟨#[]⟩) (.bool false) (.bool false) (.int .i64 0) (.int .i64 0) (.int .i64 0) (.string ⟨#[]⟩) (.int .i64 (y.1 : Nat)) (.int .i64 (y.2 : Nat))
            refine bodyPost_ret (results_cc rfl _ _ q4 28 _ (0, 0) _ q5 31 _ (0, 0) _ rfl hP Tryz.underlying28 rfl (by kernel_rfl) rfl hF Tryz.underlying31 rfl (by kernel_rfl)) rfl ?_
            exact ⟨.error y, (by unfold Gz.partR; rw [HH.out]; simp only; rw [HTA.out]; simp only; rw [← HHX.out, HSM.out]), rfl, (sum_code HSM.out), hT⟩
        | ok t2 =>
          rintro e w7 ⟨rfl, gs⟩
          have HSUM := hid hsm
          have HT2 := hid (Gz.sumAt_in hsm HTI.out.2).2
          have T7 := hid (T4.out.trans gs.touch (fun _ _ e => e))
          have R7 := hid gs.gr
          have Q7 := hid (Q4.out.new gs.touch (fun e => hb0 e.symm))
          have FP7 := hid ((gs.touch.block q4 (lt_of_block FP4.out) (fun e => by have := HQ2.out; omega)).trans FP4.out)
          have FF7 := hid ((gs.touch.block q5 (lt_of_block FF4.out) (fun e => by have := HQ2.out; omega)).trans FF4.out)
          have F77 := hid ((gs.touch.block q7 (lt_of_block F74.out) (fun e => by have := HQ2.out; omega)).trans F74.out)
          have F97 := hid ((gs.touch.block q9 (lt_of_block F94.out) (fun e => by have := HQ2.out; omega)).trans F94.out)
          have H7 := hid (show q10 < w7.heap.size from Nat.lt_of_lt_of_le (lt_of_block F10.out) gs.touch.size)
          clear hsm gs T4 R4 Q4 FP4 FF4 F74 F94 F10
          go_upto_region 10 with fail
          have F11 := hid (cells_new w7 #[.int .i64 0, .int .i64 0] 31)
          have tal := (Touch.refl (fun _ => False) w7).alloc (.cells #[.int .i64 0, .int .i64 0] 31)
          generalize w7.alloc (.cells #[.int .i64 0, .int .i64 0] 31) = w8 at *
          obtain ⟨q11, hq11⟩ : ∃ q11, q11 = w7.heap.size := ⟨_, rfl⟩
          rw [← hq11] at F11 H7 ⊢
          have T8 := hid (T7.out.trans tal (fun _ _ e => e.elim))
          have R8 := hid (R7.out.new tal id)
          have Q8 := hid (Q7.out.new tal id)
          have FP8 := hid (tal.still FP7.out)
          have FF8 := hid (tal.still FF7.out)
          have F78 := hid (tal.still F77.out)
          have F98 := hid (tal.still F97.out)
          have HQ := HQ2
          clear hq11 tal T7 R7 Q7 FP7 FF7 F77 F97 H7
          have z0 := cell_two0 F11.out
          go_wp2_with fail
          clear z0
          refine (packed_any b s t2 most w8 R8.out Q8.out hb0 hs HT2.out hm).mono ?_
          rintro e w5 ⟨y, hpk, hpost⟩
          cases y with
          | error y =>
            obtain ⟨rfl, tc⟩ := hpost
            have HPK := hid hpk
            have T5 := hid (T8.out.trans tc (fun _ _ e => e))
            have FP5 := hid ((tc.block q4 (lt_of_block FP8.out) (fun e => by have := HQ.out; omega)).trans FP8.out)
            have FF5 := hid ((tc.block q5 (lt_of_block FF8.out) (fun e => by have := HQ.out; omega)).trans FF8.out)
            have F75 := hid ((tc.block q7 (lt_of_block F78.out) (fun e => by have := HQ.out; omega)).trans F78.out)
            have F95 := hid ((tc.block q9 (lt_of_block F98.out) (fun e => by have := HQ.out; omega)).trans F98.out)
            clear hpk tc T8 R8 Q8 FP8 FF8 F78 F98
            have j8 : w5.cell? ⟨q7, 8, none⟩ = some (.string ⟨#[]⟩) := blk_cell F75.out 8
            have jf8 : w5.frozen? ⟨q7, 8, none⟩ = false := blk_free F75.out
            have F96 := hid (show (w5.setCell ⟨q7, 8, none⟩ (.string ⟨#[]⟩)).heap[q9]? = some (.cells #[.int .i64 0, .int .i64 0] 31 (0, 0)) from (Below.heap_setCell w5 _ _ _ (show q9 ≠ q7 by have := HQ.out; omega)).trans F95.out)
            have s0 := cell_two0 F96.out
            have s1 := cell_two1 F96.out
            have sf0 := free_two (i := 0) F96.out
            have sf1 := free_two (i := 1) F96.out
            go_upto_region 13 with fail
            have F9 := hid (fset F96.out (.int .i64 (y.1 : Nat)) (.int .i64 (y.2 : Nat)))
            have T6 := hid (ftouch (T5.out.setCell (p := ⟨q7, 8, none⟩) (fun h => absurd h (Nat.not_lt.2 (show w.heap.size ≤ q7 by have := HQ.out; omega))) (.string ⟨#[]⟩)) (show w.heap.size ≤ q9 by have := HQ.out; omega) (.int .i64 (y.1 : Nat)) (.int .i64 (y.2 : Nat)))
            have FP6 := hid (((Below.heap_setCell _ _ _ _ (show q4 ≠ q9 by have := HQ.out; omega)).trans ((Below.heap_setCell _ _ _ _ (show q4 ≠ q9 by have := HQ.out; omega)).trans ((Below.heap_setCell _ _ _ _ (show q4 ≠ q7 by have := HQ.out; omega)).trans FP5.out)) : (((w5.setCell ⟨q7, 8, none⟩ (.string ⟨#[]⟩)).setCell ⟨q9, 0, none⟩ (.int .i64 (y.1 : Nat))).setCell ⟨q9, 1, none⟩ (.int .i64 (y.2 : Nat))).heap[q4]? = some (.cells #[.string ⟨#[]⟩, .string ⟨#[]⟩, .string ⟨#[]⟩, .bool false, .bool false, .int .i64 0, .int .i64 0, .int .i64 0, .string ⟨#[]⟩] 28 (0, 0))))
            have FF6 := hid (((Below.heap_setCell _ _ _ _ (show q5 ≠ q9 by have := HQ.out; omega)).trans ((Below.heap_setCell _ _ _ _ (show q5 ≠ q9 by have := HQ.out; omega)).trans ((Below.heap_setCell _ _ _ _ (show q5 ≠ q7 by have := HQ.out; omega)).trans FF5.out)) : (((w5.setCell ⟨q7, 8, none⟩ (.string ⟨#[]⟩)).setCell ⟨q9, 0, none⟩ (.int .i64 (y.1 : Nat))).setCell ⟨q9, 1, none⟩ (.int .i64 (y.2 : Nat))).heap[q5]? = some (.cells #[.int .i64 0, .int .i64 0] 31 (0, 0))))
            clear T5 FP5 FF5 F75 F95 F96 j8 jf8 s0 s1 sf0 sf1
            generalize ((w5.setCell ⟨q7, 8, none⟩ (.string ⟨#[]⟩)).setCell ⟨q9, 0, none⟩ (.int .i64 (y.1 : Nat))).setCell ⟨q9, 1, none⟩ (.int .i64 (y.2 : Nat)) = w6 at *
            have z0 := cell_two0 F9.out
            have z1 := cell_two1 F9.out
            have zc : ((y.1 : Int) == 0) = false := by have := (pack_code HPK.out); simp; omega
            have p0 : w6.cell? ⟨q4, 0, none⟩ = some (.string ⟨#[]⟩) := blk_cell FP6.out 0
            have pf0 : w6.frozen? ⟨q4, 0, none⟩ = false := blk_free FP6.out
            have p1 : w6.cell? ⟨q4, 1, none⟩ = some (.string ⟨#[]⟩) := blk_cell FP6.out 1
            have pf1 : w6.frozen? ⟨q4, 1, none⟩ = false := blk_free FP6.out
            have p2 : w6.cell? ⟨q4, 2, none⟩ = some (.string ⟨#[]⟩) := blk_cell FP6.out 2
            have pf2 : w6.frozen? ⟨q4, 2, none⟩ = false := blk_free FP6.out
            have p3 : w6.cell? ⟨q4, 3, none⟩ = some (.bool false) := blk_cell FP6.out 3
            have pf3 : w6.frozen? ⟨q4, 3, none⟩ = false := blk_free FP6.out
            have p4 : w6.cell? ⟨q4, 4, none⟩ = some (.bool false) := blk_cell FP6.out 4
            have pf4 : w6.frozen? ⟨q4, 4, none⟩ = false := blk_free FP6.out
            have p5 : w6.cell? ⟨q4, 5, none⟩ = some (.int .i64 0) := blk_cell FP6.out 5
            have pf5 : w6.frozen? ⟨q4, 5, none⟩ = false := blk_free FP6.out
            have p6 : w6.cell? ⟨q4, 6, none⟩ = some (.int .i64 0) := blk_cell FP6.out 6
            have pf6 : w6.frozen? ⟨q4, 6, none⟩ = false := blk_free FP6.out
            have p7 : w6.cell? ⟨q4, 7, none⟩ = some (.int .i64 0) := blk_cell FP6.out 7
            have pf7 : w6.frozen? ⟨q4, 7, none⟩ = false := blk_free FP6.out
            have p8 : w6.cell? ⟨q4, 8, none⟩ = some (.string ⟨#[]⟩) := blk_cell FP6.out 8
            have pf8 : w6.frozen? ⟨q4, 8, none⟩ = false := blk_free FP6.out
            have g0 := cell_two0 FF6.out
            have g1 := cell_two1 FF6.out
            have gf0 := free_two (i := 0) FF6.out
            have gf1 := free_two (i := 1) FF6.out
            have hne1 : q5 ≠ q4 := by have := HQ.out; omega
            have hne2 : q4 ≠ q5 := by have := HQ.out; omega
            have hne3 : q9 ≠ q4 := by have := HQ.out; omega
            have hne4 : q9 ≠ q5 := by have := HQ.out; omega
            go_wp2
            go_region
            all_goals go_wp2
            all_goals
              obtain ⟨hP, hF, hT⟩ := nine_x FP6.out FF6.out T6.out ⟨HQ.out.1, HQ.out.2.1⟩ (.string ⟨#[]⟩) (.string ⟨#[]⟩) (.string ⟨#[]⟩) (.bool false) (.bool false) (.int .i64 0) (.int .i64 0) (.int .i64 0) (.string ⟨#[]⟩) (.int .i64 (y.1 : Nat)) (.int .i64 (y.2 : Nat))
              refine bodyPost_ret (results_cc rfl _ _ q4 28 _ (0, 0) _ q5 31 _ (0, 0) _ rfl hP Tryz.underlying28 rfl (by kernel_rfl) rfl hF Tryz.underlying31 rfl (by kernel_rfl)) rfl ?_
              exact ⟨.error y, (by unfold Gz.partR; rw [HH.out]; simp only; rw [HTA.out]; simp only; rw [← HHX.out, HSUM.out]; exact ⟨_, HPK.out, rfl⟩), rfl, (pack_code HPK.out), hT⟩
          | ok St =>
            obtain ⟨S, t3⟩ := St
            obtain ⟨rfl, gs⟩ := hpost
            have HPK := hid hpk
            have T5 := hid (T8.out.trans gs.touch (fun _ _ e => e))
            have R5 := hid gs.gr
            have FP5 := hid ((gs.touch.block q4 (lt_of_block FP8.out) (fun e => by have := HQ.out; omega)).trans FP8.out)
            have FF5 := hid ((gs.touch.block q5 (lt_of_block FF8.out) (fun e => by have := HQ.out; omega)).trans FF8.out)
            have F75 := hid ((gs.touch.block q7 (lt_of_block F78.out) (fun e => by have := HQ.out; omega)).trans F78.out)
            have F95 := hid ((gs.touch.block q9 (lt_of_block F98.out) (fun e => by have := HQ.out; omega)).trans F98.out)
            clear hpk gs T8 R8 Q8 FP8 FF8 F78 F98
            have j8 : w5.cell? ⟨q7, 8, none⟩ = some (.string ⟨#[]⟩) := blk_cell F75.out 8
            have jf8 : w5.frozen? ⟨q7, 8, none⟩ = false := blk_free F75.out
            have F96 := hid (show (w5.setCell ⟨q7, 8, none⟩ (.string S)).heap[q9]? = some (.cells #[.int .i64 0, .int .i64 0] 31 (0, 0)) from (Below.heap_setCell w5 _ _ _ (show q9 ≠ q7 by have := HQ.out; omega)).trans F95.out)
            have s0 := cell_two0 F96.out
            have s1 := cell_two1 F96.out
            have sf0 := free_two (i := 0) F96.out
            have sf1 := free_two (i := 1) F96.out
            go_upto_region 13 with fail
            have W6 := hid (rest_of (w := w) (w5 := w5) (b := b) (s := s) (t := t3) (S := S) T5.out R5.out FP5.out FF5.out F75.out F96.out HQ.out.1 HQ.out.2.1 HQ.out.2.2.1 HQ.out.2.2.2.1 HQ.out.2.2.2.2.1)
            clear T5 FP5 FF5 F75 F95 F96 j8 jf8 s0 s1 sf0 sf1 R5
            generalize ((w5.setCell ⟨q7, 8, none⟩ (.string S)).setCell ⟨q9, 0, none⟩ (.int .i64 0)).setCell ⟨q9, 1, none⟩ (.int .i64 0) = w6 at *
            have F9 := hid W6.out.2.2.2.2.2
            have F7 := hid W6.out.2.2.2.2.1
            have FF6 := hid W6.out.2.2.2.1
            have FP6 := hid W6.out.2.2.1
            have z0 := cell_two0 F9.out
            have FF9 := hid (fin_r (qp := q4) (cs := #[.string n, .string c, .string x, .bool tx, .bool true, .int .i64 (tm : Nat), .int .i64 (m8 : Nat), .int .i64 (m9 : Nat), .string S]) FF6.out HQ.out.2.1)
            have g0 := cell_two0 FF9.out
            have g1 := cell_two1 FF9.out
            have gf0 := free_two (i := 0) FF9.out
            have gf1 := free_two (i := 1) FF9.out
            go_wp2_with (first | refine wpList_load_row rfl 28 _ rfl q7 rfl 28 _ (0, 0) _ F7.out Tryz.underlying28 rfl info30 ?_ | refine wpList_store_row rfl 28 _ _ rfl q4 _ rfl rfl 28 #[.string ⟨#[]⟩, .string ⟨#[]⟩, .string ⟨#[]⟩, .bool false, .bool false, .int .i64 0, .int .i64 0, .int .i64 0, .string ⟨#[]⟩] FP6.out info30 (by rfl) (one9 _ _ _ _ _ _ _ _ _) ?_ | fail)
            refine bodyPost_ret (results_cc rfl _ _ q4 28 _ (0, 0) _ q5 31 _ (0, 0) _ rfl (fin_p FP6.out HQ.out.2.1 _ _) Tryz.underlying28 rfl (by kernel_rfl) rfl (fset FF9.out _ _) Tryz.underlying31 rfl (by kernel_rfl)) rfl ?_
            refine ⟨.ok (Gz.partOf s t f x n c S, t3), (by unfold Gz.partR; rw [HH.out]; simp only; rw [HTA.out]; simp only; rw [← HHX.out, HSUM.out]; exact ⟨_, HPK.out, rfl⟩), ?_, fin_g W6.out.2.1 HQ.out.2.2.1 HQ.out.2.1 _ _ _, fin_t W6.out.1 HQ.out.1 (by have := HQ.out; omega) _ _ _⟩
            rw [HPO.out]
            rfl
end Go.Proofs.YtffjkceedbblgaaGreatDoor
