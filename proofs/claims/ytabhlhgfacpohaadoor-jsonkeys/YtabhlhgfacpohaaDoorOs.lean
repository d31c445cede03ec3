/- A parser of JSON: object, of texts without blanks; conditions: as told. -/
import Derived.Test.YtabhlhgfacpohaaDoorOr
namespace Go.Proofs.YtabhlhgfacpohaaDoor
open Go.RowKit
open Go.Lib

/-- An object's two lists, made since a world was. -/
structure OV (w0 w : World) (v2 v3 : Value) (ks ts : List ByteArray) : Prop where
  keys : SL w v2 ks
  kids : VL w v3 ts
  new2 : ∀ g, v2.ownBlock = some g → w0.heap.size ≤ g
  new3 : ∀ g, v3.ownBlock = some g → w0.heap.size ≤ g
theorem OV.kept {w0 w w' : World} {v2 v3 : Value} {ks ts : List ByteArray} {S : Nat → Prop} (h : OV w0 w v2 v3 ks ts) (tc : Touch S w w') (hS : ∀ k, S k → k < w0.heap.size) : OV w0 w' v2 v3 ks ts :=
  ⟨rowKept h.keys tc (fun g e e2 => by have := h.new2 g e; have := hS g e2; omega), rowKept h.kids tc (fun g e e2 => by have := h.new3 g e; have := hS g e2; omega), h.new2, h.new3⟩
theorem OV.back {w0 w1 w : World} {v2 v3 : Value} {ks ts : List ByteArray} (h : OV w1 w v2 v3 ks ts) (hs : w0.heap.size ≤ w1.heap.size) : OV w0 w v2 v3 ks ts :=
  ⟨h.keys, h.kids, fun g e => Nat.le_trans hs (h.new2 g e), fun g e => Nat.le_trans hs (h.new3 g e)⟩
def Braces (s : ByteArray) (t : Nat) (l : List (Bs × Bs)) (f : Nat) : Prop := lk s t = 123 ∧ ((l = [] ∧ lk s (t + 1) = 125 ∧ f = t + 1) ∨ Items s (t + 1) l f)
def keysL (l : List (Bs × Bs)) : List ByteArray := bytesL (l.map Prod.fst)
def textsL (l : List (Bs × Bs)) : List ByteArray := bytesL (l.map Prod.snd)
theorem one_new {w : World} (v : Value) (t : TypeId) : (w.alloc (.cells #[v] t)).heap[w.heap.size]? = some (.cells #[v] t (0, 0)) := by
  show (w.heap.push _)[_]? = _
  simp
set_option maxRecDepth 100000 in
set_option maxHeartbeats 8000000 in
theorem object_obj (b : Nat) (s : ByteArray) (t d f : Nat) (l : List (Bs × Bs)) (w : World) (h : Ps w b s t d) (hb2 : 2 ≤ b) (ht : Tabs w) (hs : s.size ≤ 1048576) (hd : d < 32) (hl : l.length ≤ 900) (hB : Braces s t l f) :
    Calls Tryd.prog 80 #[.pointer (some ⟨b, 0, none⟩)] w fun e w' => ∃ a2 n2 c2 a3 n3 c3, e = .returned (.agg #[.int .i64 6, .string ⟨#[]⟩, .slice a2 n2 c2, .slice a3 n3 c3]) ∧ Ps w' b s (f + 1) d ∧ OV w w' (.slice a2 n2 c2) (.slice a3 n3 c3) (keysL l) (textsL l) ∧ Touch (fun k => k = b) w w' := by
  have hmf : ∀ (fn : Fn) (first cap : Array Value) (w : World), (Instr.makeFunc fn first cap).run Tryd.prog w = .ok (.func fn first cap) w := fun _ _ _ _ => rfl
  obtain ⟨h0, hi⟩ := hB
  have HW := hid h
  have HT := hid ht
  have HB2 := hid hb2
  have HI := hid hi
  clear h ht hb2 hi
  go_enter Tryd.func80, Tryd.ntmps80
  go_upto_region 2 with fail
  have X1 := one_new (w := w) (.pointer (some ⟨b, 0, none⟩)) 78
  have X2 := jfour_new (w := w.alloc (.cells #[.pointer (some ⟨b, 0, none⟩)] 78)) (.int .i64 0) (.string ⟨#[]⟩) (.slice none 0 0) (.slice none 0 0) 26
  have X3 := jfour_new (w := (w.alloc (.cells #[.pointer (some ⟨b, 0, none⟩)] 78)).alloc (.cells #[.int .i64 0, .string ⟨#[]⟩, .slice none 0 0, .slice none 0 0] 26)) (.int .i64 6) (.string ⟨#[]⟩) (.slice none 0 0) (.slice none 0 0) 26
  have S1 : (w.alloc (.cells #[.pointer (some ⟨b, 0, none⟩)] 78)).heap.size = w.heap.size + 1 := size_alloc1 _ _
  have S2 : ((w.alloc (.cells #[.pointer (some ⟨b, 0, none⟩)] 78)).alloc (.cells #[.int .i64 0, .string ⟨#[]⟩, .slice none 0 0, .slice none 0 0] 26)).heap.size = w.heap.size + 2 := (size_alloc1 _ _).trans (by rw [S1])
  have S3 : (((w.alloc (.cells #[.pointer (some ⟨b, 0, none⟩)] 78)).alloc (.cells #[.int .i64 0, .string ⟨#[]⟩, .slice none 0 0, .slice none 0 0] 26)).alloc (.cells #[.int .i64 6, .string ⟨#[]⟩, .slice none 0 0, .slice none 0 0] 26)).heap.size = w.heap.size + 3 := (size_alloc1 _ _).trans (by rw [S2])
  have T12 := (Touch.refl (fun _ => False) (w.alloc (.cells #[.pointer (some ⟨b, 0, none⟩)] 78))).alloc (.cells #[.int .i64 0, .string ⟨#[]⟩, .slice none 0 0, .slice none 0 0] 26)
  have T23 := (Touch.refl (fun _ => False) ((w.alloc (.cells #[.pointer (some ⟨b, 0, none⟩)] 78)).alloc (.cells #[.int .i64 0, .string ⟨#[]⟩, .slice none 0 0, .slice none 0 0] 26))).alloc (.cells #[.int .i64 6, .string ⟨#[]⟩, .slice none 0 0, .slice none 0 0] 26)
  have TW := (((Touch.refl (fun _ => False) w).alloc (.cells #[.pointer (some ⟨b, 0, none⟩)] 78)).alloc (.cells #[.int .i64 0, .string ⟨#[]⟩, .slice none 0 0, .slice none 0 0] 26)).alloc (.cells #[.int .i64 6, .string ⟨#[]⟩, .slice none 0 0, .slice none 0 0] 26)
  rw [S1] at X2
  rw [S2] at X3
  have X1' := (T23.block w.heap.size (by rw [S2]; omega) id).trans ((T12.block w.heap.size (by rw [S1]; omega) id).trans X1)
  have X2' := hid ((T23.block (w.heap.size + 1) (by rw [S2]; omega) id).trans X2)
  have hlt := HW.out.lt
  have H0 := hid (show OS (((w.alloc (.cells #[.pointer (some ⟨b, 0, none⟩)] 78)).alloc (.cells #[.int .i64 0, .string ⟨#[]⟩, .slice none 0 0, .slice none 0 0] 26)).alloc (.cells #[.int .i64 6, .string ⟨#[]⟩, .slice none 0 0, .slice none 0 0] 26)) (w.heap.size + 3) b w.heap.size (w.heap.size + 2) s t d (.slice none 0 0) (.slice none 0 0) [] [] from
    ⟨HW.out.new TW, X1', X3, World.ownsRow_nil _ _ _ _, World.ownsRow_nil _ _ _ _, (fun g e => by cases e), (fun g e => by cases e), ⟨hlt, by omega, by omega⟩⟩)
  have T0 := hid TW
  have B0 := hid (HT.out.new TW)
  have S0 := hid S3
  clear X1 X2 X3 S1 S2 S3 T12 T23 TW X1' hlt HW HT
  generalize ((w.alloc (.cells #[.pointer (some ⟨b, 0, none⟩)] 78)).alloc (.cells #[.int .i64 0, .string ⟨#[]⟩, .slice none 0 0, .slice none 0 0] 26)).alloc (.cells #[.int .i64 6, .string ⟨#[]⟩, .slice none 0 0, .slice none 0 0] 26) = w3 at *
  obtain ⟨r, hr⟩ : ∃ r, r = w.heap.size + 1 := ⟨_, rfl⟩
  obtain ⟨q, hq⟩ : ∃ q, q = w.heap.size + 2 := ⟨_, rfl⟩
  obtain ⟨bx, hbx⟩ : ∃ bx, bx = w.heap.size := ⟨_, rfl⟩
  obtain ⟨lo, hlo⟩ : ∃ lo, lo = w.heap.size + 3 := ⟨_, rfl⟩
  have HLW := hid (show w.heap.size ≤ r ∧ r < q ∧ q < lo ∧ lo ≤ w3.heap.size ∧ bx < r ∧ b < r ∧ w.heap.size ≤ bx from ⟨by omega, by omega, by omega, by have := S0.out; omega, by omega, by have := H0.out.low; omega, by omega⟩)
  rw [← hlo, ← hq, ← hbx] at H0
  rw [← hr] at X2'
  have hq2 : q = w.heap.size + 1 + 1 := by omega
  rw [← hq2, ← hr, ← hbx]
  clear hr hq hbx hlo S0 hq2
  have cb : w3.cell? ⟨bx, 0, none⟩ = some (.pointer (some ⟨b, 0, none⟩)) := by have := H0.out.box; simp [World.cell?, this]
  have KR := hid (row_obj lo b bx q s t d f (.slice none 0 0) (.slice none 0 0) l w3 H0.out HLW.out.2.2.2.1 HB2.out B0.out hs hd h0 hl HI.out)
  go_wp2_with fail
  refine KR.out.mono ?_
  rintro e w4 ⟨rfl, v2, v3, h4, t4⟩
  obtain ⟨a2, c2, hv2⟩ := own_shape h4.keys
  obtain ⟨a3, c3, hv3⟩ := own_shape h4.kids
  subst hv2
  subst hv3
  have H4 := hid h4
  have X4 := hid ((t4.block r (lt_of_block X2'.out) (fun e => by have := HLW.out; omega)).trans X2'.out)
  have T4 := hid (Touch.trans (S := fun k => k = b) (T0.out.mono (fun _ _ e => e.elim)) t4 (fun i hi e => by have := HLW.out; omega))
  clear h4 t4 KR X2' H0 T0 B0 cb
  obtain ⟨⟨q0, q1, q2, q3⟩, _⟩ := cells4 H4.out.obj
  obtain ⟨⟨r0, r1, r2, r3⟩, ⟨g0, g1, g2, g3⟩⟩ := cells4 X4.out
  generalize hn2 : (bytesL (l.map Prod.fst)).length = n2 at *
  generalize hn3 : (bytesL (l.map Prod.snd)).length = n3 at *
  have HN2 := hid hn2
  have HN3 := hid hn3
  clear hn2 hn3
  go_wp2
  refine bodyPost_ret (results_c rfl _ _ r 26 _ (0, 0) _ rfl (jfour_set X4.out _ _ _ _) Tryd.underlying26 rfl (by kernel_rfl)) rfl ?_
  have TF := touch_four (S := fun k => k = r) (g := r) (Touch.refl _ w4) (fun _ => rfl) 0 1 2 3 (.int .i64 6) (.string ⟨#[]⟩) (.slice a2 n2 c2) (.slice a3 n3 c3)
  have HK : SL w4 (.slice a2 n2 c2) (keysL l) := H4.out.keys
  have HV : VL w4 (.slice a3 n3 c3) (textsL l) := H4.out.kids
  refine ⟨a2, n2, c2, a3, n3, c3, rfl, ?_, ⟨rowKept HK TF (fun g e e2 => ?_), rowKept HV TF (fun g e e2 => ?_), fun g e => ?_, fun g e => ?_⟩, jfour_touch T4.out HLW.out.1 _ _ _ _⟩
  · exact (TF.block b H4.out.ps.lt (by have := HLW.out; omega)).trans H4.out.ps
  · have := H4.out.new2 g e
    have := HLW.out
    omega
  · have := H4.out.new3 g e
    have := HLW.out
    omega
  · have := H4.out.new2 g e
    have := HLW.out
    omega
  · have := H4.out.new3 g e
    have := HLW.out
    omega
end Go.Proofs.YtabhlhgfacpohaaDoor
