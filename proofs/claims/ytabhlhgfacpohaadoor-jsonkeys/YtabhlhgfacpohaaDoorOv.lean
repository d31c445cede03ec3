/- A parser of JSON: a value that is an object of texts without blanks, and what is above it; conditions: as told. -/
import Derived.Test.YtabhlhgfacpohaaDoorOs
namespace Go.Proofs.YtabhlhgfacpohaaDoor
open Go.RowKit
open Go.Lib

def ObjR (s : ByteArray) (b d u : Nat) (l : List (Bs × Bs)) (w : World) (e : Ending) (w' : World) : Prop :=
  ∃ a2 n2 c2 a3 n3 c3, e = .returned (.agg #[.int .i64 6, .string ⟨#[]⟩, .slice a2 n2 c2, .slice a3 n3 c3]) ∧ Ps w' b s u d ∧ OV w w' (.slice a2 n2 c2) (.slice a3 n3 c3) (keysL l) (textsL l) ∧ Touch (fun k => k = b) w w'
set_option maxRecDepth 100000 in
set_option maxHeartbeats 4000000 in
theorem bare_obj (b : Nat) (s : ByteArray) (t d f : Nat) (l : List (Bs × Bs)) (w : World) (h : Ps w b s t d) (hs : s.size ≤ 1048576) (ht : t ≤ s.size) (hb2 : 2 ≤ b) (htb : Tabs w) (hd : d < 32) (hl : l.length ≤ 900) (hB : Braces s t l f) :
    Calls Tryd.prog 63 #[.pointer (some ⟨b, 0, none⟩)] w fun e w' => ObjR s b d (f + 1) l w e w' := by
  have T0 := hid ((Touch.refl (fun _ => False) w).alloc (.cells #[.int .i64 0, .string ⟨#[]⟩, .slice none 0 0, .slice none 0 0] 26))
  have H0 := hid (h.new T0.out)
  have B0 := hid (jfour_new (w := w) (.int .i64 0) (.string ⟨#[]⟩) (.slice none 0 0) (.slice none 0 0) 26)
  have HBW := hid h.lt
  have KL := hid (look_any b s t d _ H0.out hs ht)
  have KN := hid (fun w' (hp : Ps w' b s t d) (ht' : Tabs w') => object_obj b s t d f l w' hp hb2 ht' hs hd hl hB)
  have TB := hid (htb.new T0.out)
  rw [hB.1] at KL
  clear h htb hB
  go_enter Tryd.func63, Tryd.ntmps63
  go_wp2_with fail
  refine KL.out.mono ?_
  rintro e w1 ⟨rfl, t1⟩
  have H1 := hid (H0.out.new t1)
  have T1 := hid (T0.out.trans t1 (fun _ _ e => e))
  have TB1 := hid (TB.out.new t1)
  have B1 := hid ((t1.block w.heap.size (lt_of_block B0.out) id).trans B0.out)
  clear t1 KL H0 B0 T0
  obtain ⟨q, hq⟩ : ∃ q, q = w.heap.size := ⟨_, rfl⟩
  rw [← hq] at B1 ⊢
  have HQ := hid (show w.heap.size ≤ q ∧ b < q from ⟨by omega, by have := HBW.out; omega⟩)
  clear hq HBW
  have KN1 := hid (KN.out w1 H1.out TB1.out)
  clear KN TB TB1
  go_wp2_with fail
  refine KN1.out.mono ?_
  rintro e w2 ⟨a2, n2, c2, a3, n3, c3, rfl, hp, hov, tt⟩
  have HE := hid hp
  have TE := hid (Touch.trans (S := fun k => k = b) (T1.out.mono (fun _ _ e => e.elim)) tt (fun _ _ e => e))
  have B2 := hid ((tt.block q (lt_of_block B1.out) (fun e => by have := HQ.out; omega)).trans B1.out)
  have OV2 := hid hov
  have HQ1 := hid (lt_of_block B1.out)
  have TS1 := hid T1.out.size
  clear hp tt KN1 B1 T1 H1 hov
  obtain ⟨⟨k0, k1, k2, k3⟩, ⟨f0, f1, f2, f3⟩⟩ := cells4 B2.out
  go_wp2
  refine bodyPost_ret (results_c rfl _ _ q 26 _ (0, 0) _ rfl (jfour_set B2.out _ _ _ _) Tryd.underlying26 rfl (by kernel_rfl)) rfl ?_
  have TF := touch_four (S := fun k => k = q) (g := q) (Touch.refl _ w2) (fun _ => rfl) 0 1 2 3 (.int .i64 6) (.string ⟨#[]⟩) (.slice a2 n2 c2) (.slice a3 n3 c3)
  exact ⟨a2, n2, c2, a3, n3, c3, rfl, HE.out.four (by have := HQ.out; omega) _ _ _ _, (OV2.out.kept TF (fun k e => by rw [e]; exact HQ1.out)).back TS1.out, jfour_touch TE.out HQ.out.1 _ _ _ _⟩
set_option maxRecDepth 100000 in
set_option maxHeartbeats 4000000 in
theorem value_obj (b : Nat) (s : ByteArray) (t d f : Nat) (l : List (Bs × Bs)) (w : World) (h : Ps w b s t d) (hs : s.size ≤ 1048576) (ht : t ≤ s.size) (hb2 : 2 ≤ b) (htb : Tabs w) (hd : d < 32) (hl : l.length ≤ 900) (hB : Braces s t l f) (hu : f + 1 ≤ s.size) (hnb : noBlank (lk s (f + 1))) :
    Calls Tryd.prog 32 #[.pointer (some ⟨b, 0, none⟩)] w fun e w' => ObjR s b d (f + 1) l w e w' := by
  have T0 := hid ((Touch.refl (fun _ => False) w).alloc (.cells #[.int .i64 0, .string ⟨#[]⟩, .slice none 0 0, .slice none 0 0] 26))
  have H0 := hid (h.new T0.out)
  have B0 := hid (jfour_new (w := w) (.int .i64 0) (.string ⟨#[]⟩) (.slice none 0 0) (.slice none 0 0) 26)
  have HBW := hid h.lt
  have KB := hid (fun w' k (hp : Ps w' b s k d) (hk : k ≤ s.size) (hbk : noBlank (lk s k)) => blanks_none b s k d w' hp hs hk hbk)
  have KV := hid (fun w' (hp : Ps w' b s t d) (ht' : Tabs w') => bare_obj b s t d f l w' hp hs ht hb2 ht' hd hl hB)
  have TB := hid (htb.new T0.out)
  have HB2 := hid hb2
  have HQ0 := hid (show noBlank (lk s t) from by rw [hB.1]; unfold noBlank; decide)
  clear h htb hb2 hB
  go_enter Tryd.func32, Tryd.ntmps32
  go_wp2_with fail
  generalize w.alloc (.cells #[.int .i64 0, .string ⟨#[]⟩, .slice none 0 0, .slice none 0 0] 26) = w0 at *
  obtain ⟨q, hq⟩ : ∃ q, q = w.heap.size := ⟨_, rfl⟩
  rw [← hq] at B0 ⊢
  have HQ := hid (show w.heap.size ≤ q ∧ b < q from ⟨by omega, by have := HBW.out; omega⟩)
  clear hq HBW
  refine (KB.out _ t H0.out ht HQ0.out).mono ?_
  rintro e w1 ⟨rfl, hp, tt⟩
  have H1 := hid hp
  have T1 := hid (Touch.trans (S := fun k => k = b) (T0.out.mono (fun _ _ e => e.elim)) tt (fun _ _ e => e))
  have B1 := hid ((tt.block q (lt_of_block B0.out) (fun e => by have := HQ.out; omega)).trans B0.out)
  have TB1 := hid (TB.out.kept tt (fun e => by have := HB2.out; omega) (fun e => by have := HB2.out; omega))
  clear hp tt H0 T0 B0 TB
  have KV1 := hid (KV.out w1 H1.out TB1.out)
  clear KV
  go_wp2_with fail
  refine KV1.out.mono ?_
  rintro e w2 ⟨a2, n2, c2, a3, n3, c3, rfl, hp, hov, tt⟩
  have H2 := hid hp
  have T2 := hid (T1.out.trans tt (fun _ _ e => e))
  have B2 := hid ((tt.block q (lt_of_block B1.out) (fun e => by have := HQ.out; omega)).trans B1.out)
  have OV2 := hid hov
  have HQ1 := hid (show q < w1.heap.size ∧ b < w1.heap.size from ⟨lt_of_block B1.out, H1.out.lt⟩)
  have TS1 := hid T1.out.size
  clear hp tt KV1 B1 T1 H1 hov TB1
  go_upto_region 3 with fail
  have tA := (Touch.refl (fun _ => False) w2).alloc (.cells #[.int .i64 6, .string ⟨#[]⟩, .slice a2 n2 c2, .slice a3 n3 c3] 26)
  have H3 := hid (H2.out.new tA)
  have T3 := hid (T2.out.trans tA (fun _ _ e => e.elim))
  have B3 := hid ((tA.block q (lt_of_block B2.out) id).trans B2.out)
  have C3 := hid (jfour_new (w := w2) (.int .i64 6) (.string ⟨#[]⟩) (.slice a2 n2 c2) (.slice a3 n3 c3) 26)
  have OV3 := hid (OV2.out.kept tA (fun k e => e.elim))
  have HQ3 := hid (show b < w2.heap.size ∧ q < w2.heap.size from ⟨H2.out.lt, lt_of_block B2.out⟩)
  clear tA H2 T2 B2 OV2
  generalize w2.alloc (.cells #[.int .i64 6, .string ⟨#[]⟩, .slice a2 n2 c2, .slice a3 n3 c3] 26) = w3 at *
  generalize w2.heap.size = q3 at *
  go_wp2_with fail
  refine (KB.out _ (f + 1) H3.out hu hnb).mono ?_
  rintro e w4 ⟨rfl, hp, tt⟩
  have H4 := hid hp
  have T4 := hid (T3.out.trans tt (fun _ _ e => e))
  have B4 := hid ((tt.block q (lt_of_block B3.out) (fun e => by have := HQ.out; omega)).trans B3.out)
  have C4 := hid ((tt.block q3 (lt_of_block C3.out) (fun e => by have := HQ3.out; omega)).trans C3.out)
  have OV4 := hid (OV3.out.kept tt (fun k e => by rw [e]; exact HQ1.out.2))
  clear hp tt H3 T3 B3 C3 KB OV3
  obtain ⟨⟨j0, j1, j2, j3⟩, _⟩ := cells4 C4.out
  obtain ⟨⟨k0, k1, k2, k3⟩, ⟨f0, f1, f2, f3⟩⟩ := cells4 B4.out
  go_wp2
  refine bodyPost_ret (results_c rfl _ _ q 26 _ (0, 0) _ rfl (jfour_set B4.out _ _ _ _) Tryd.underlying26 rfl (by kernel_rfl)) rfl ?_
  have TF := touch_four (S := fun k => k = q) (g := q) (Touch.refl _ w4) (fun _ => rfl) 0 1 2 3 (.int .i64 6) (.string ⟨#[]⟩) (.slice a2 n2 c2) (.slice a3 n3 c3)
  exact ⟨a2, n2, c2, a3, n3, c3, rfl, H4.out.four (by have := HQ.out; omega) _ _ _ _, (OV4.out.kept TF (fun k e => by rw [e]; exact HQ1.out.1)).back TS1.out, jfour_touch T4.out HQ.out.1 _ _ _ _⟩
end Go.Proofs.YtabhlhgfacpohaaDoor
