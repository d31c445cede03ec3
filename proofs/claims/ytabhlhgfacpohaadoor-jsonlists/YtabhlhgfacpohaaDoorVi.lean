/- A parser of JSON: null, false, true; conditions: as told. -/
import Derived.Test.YtabhlhgfacpohaaDoorVb
import Derived.Test.YtabhlhgfacpohaaDoorM19
namespace Go.Proofs.YtabhlhgfacpohaaDoor
open Go.RowKit
open Go.Lib

theorem valP_leaf {s : ByteArray} {b d u : Nat} {w w' : World} {k : Int} {t : ByteArray} (h : Ps w' b s u d) (T : Touch (fun k => k = b) w w') : ValP s b d w (.ok (.node k t [] [], u)) (.returned (.agg #[.int .i64 k, .string t, .slice none 0 0, .slice none 0 0])) w' :=
  ⟨k, t, none, 0, 0, none, 0, 0, fun _ => False, rfl, TV.leaf _ _ _ _, fun _ e => e.elim, h, T⟩
set_option maxRecDepth 100000 in
set_option maxHeartbeats 4000000 in
theorem bare_null (b : Nat) (s : ByteArray) (t d : Nat) (w : World) (h : Ps w b s t d) (hs : s.size ≤ 1048576) (ht : t ≤ s.size) (htb : Tabs w) (hn : lk s t = 110) :
    Calls Tryd.prog 63 #[.pointer (some ⟨b, 0, none⟩)] w fun e w' => ValP s b d w (wordE s [110, 117, 108, 108] 0 t) e w' := by
  have T0 := hid ((Touch.refl (fun _ => False) w).alloc (.cells #[.int .i64 0, .string ⟨#[]⟩, .slice none 0 0, .slice none 0 0] 26))
  have H0 := hid (h.new T0.out)
  have B0 := hid (jfour_new (w := w) (.int .i64 0) (.string ⟨#[]⟩) (.slice none 0 0) (.slice none 0 0) 26)
  have HBW := hid h.lt
  have KL := hid (look_any b s t d _ H0.out hs ht)
  have KN := hid (fun w' (hp : Ps w' b s t d) => need_any b s ⟨#[110, 117, 108, 108]⟩ t d w' hp hs ht (by decide))
  rw [show needE s (⟨#[110, 117, 108, 108]⟩ : ByteArray).data.toList t = needE s [110, 117, 108, 108] t from rfl] at KN
  have TB := hid (htb.new T0.out)
  rw [hn] at KL
  obtain ⟨X, hX⟩ : ∃ X, X = wordE s [110, 117, 108, 108] 0 t := ⟨_, rfl⟩
  have HX := hid hX.symm
  rw [← hX]
  clear h htb hX
  go_enter Tryd.func63, Tryd.ntmps63
  go_wp2_with fail
  refine KL.out.mono ?_
  rintro e w1 ⟨rfl, t1⟩
  have H1 := hid (H0.out.new t1)
  have T1 := hid (T0.out.trans t1 (fun _ _ e => e))
  have TB1 := hid (TB.out.new t1)
  have B1 := hid ((t1.block w.heap.size (lt_of_block B0.out) id).trans B0.out)
  clear t1 KL H0 B0 T0
  obtain ⟨q, hq⟩ : ∃ q, q = w.heap.size := ⟨_, rfl⟩
  rw [← hq] at B1 ⊢
  have HQ := hid (show w.heap.size ≤ q ∧ b < q from ⟨by omega, by have := HBW.out; omega⟩)
  clear hq HBW
  have HQ1 := hid (lt_of_block B1.out)
  have TS1 := hid T1.out.size
  unfold wordE at HX
  have KN1 := hid (KN.out w1 H1.out)
  clear KN TB TB1
  generalize needE s [110, 117, 108, 108] t = R at *
  match R with
  | .error k =>
    unfold NeedR thrown at KN1
    go_wp2_with fail
    refine KN1.out.mono ?_
    rintro e w2 ⟨rfl, hp, tt⟩
    have TE := hid (Touch.trans (S := fun k => k = b) (T1.out.mono (fun _ _ e => e.elim)) tt (fun _ _ e => e))
    clear hp tt KN1
    go_wp2
    refine ⟨rfl, ?_⟩
    rw [← HX.out]
    exact ⟨rfl, TE.out⟩
  | .ok u =>
    unfold NeedR at KN1
    go_wp2_with fail
    refine KN1.out.mono ?_
    rintro e w2 ⟨rfl, hp, tt⟩
    have HE := hid hp
    have TE := hid (Touch.trans (S := fun k => k = b) (T1.out.mono (fun _ _ e => e.elim)) tt (fun _ _ e => e))
    have B2 := hid ((tt.block q (lt_of_block B1.out) (fun e => by have := HQ.out; omega)).trans B1.out)
    clear hp tt KN1 B1 T1 H1
    obtain ⟨⟨k0, k1, k2, k3⟩, ⟨f0, f1, f2, f3⟩⟩ := cells4 B2.out
    go_wp2
    refine bodyPost_ret (results_c rfl _ _ q 26 _ (0, 0) _ rfl (jfour_set B2.out _ _ _ _) Tryd.underlying26 rfl (by kernel_rfl)) rfl ?_
    rw [← HX.out]
    exact valP_leaf (HE.out.four (by have := HQ.out; omega) _ _ _ _) (jfour_touch TE.out HQ.out.1 _ _ _ _)
set_option maxRecDepth 100000 in
set_option maxHeartbeats 4000000 in
theorem bare_false (b : Nat) (s : ByteArray) (t d : Nat) (w : World) (h : Ps w b s t d) (hs : s.size ≤ 1048576) (ht : t ≤ s.size) (htb : Tabs w) (hn : lk s t = 102) :
    Calls Tryd.prog 63 #[.pointer (some ⟨b, 0, none⟩)] w fun e w' => ValP s b d w (wordE s [102, 97, 108, 115, 101] 1 t) e w' := by
  have T0 := hid ((Touch.refl (fun _ => False) w).alloc (.cells #[.int .i64 0, .string ⟨#[]⟩, .slice none 0 0, .slice none 0 0] 26))
  have H0 := hid (h.new T0.out)
  have B0 := hid (jfour_new (w := w) (.int .i64 0) (.string ⟨#[]⟩) (.slice none 0 0) (.slice none 0 0) 26)
  have HBW := hid h.lt
  have KL := hid (look_any b s t d _ H0.out hs ht)
  have KN := hid (fun w' (hp : Ps w' b s t d) => need_any b s ⟨#[102, 97, 108, 115, 101]⟩ t d w' hp hs ht (by decide))
  rw [show needE s (⟨#[102, 97, 108, 115, 101]⟩ : ByteArray).data.toList t = needE s [102, 97, 108, 115, 101] t from rfl] at KN
  have TB := hid (htb.new T0.out)
  rw [hn] at KL
  obtain ⟨X, hX⟩ : ∃ X, X = wordE s [102, 97, 108, 115, 101] 1 t := ⟨_, rfl⟩
  have HX := hid hX.symm
  rw [← hX]
  clear h htb hX
  go_enter Tryd.func63, Tryd.ntmps63
  go_wp2_with fail
  refine KL.out.mono ?_
  rintro e w1 ⟨rfl, t1⟩
  have H1 := hid (H0.out.new t1)
  have T1 := hid (T0.out.trans t1 (fun _ _ e => e))
  have TB1 := hid (TB.out.new t1)
  have B1 := hid ((t1.block w.heap.size (lt_of_block B0.out) id).trans B0.out)
  clear t1 KL H0 B0 T0
  obtain ⟨q, hq⟩ : ∃ q, q = w.heap.size := ⟨_, rfl⟩
  rw [← hq] at B1 ⊢
  have HQ := hid (show w.heap.size ≤ q ∧ b < q from ⟨by omega, by have := HBW.out; omega⟩)
  clear hq HBW
  have HQ1 := hid (lt_of_block B1.out)
  have TS1 := hid T1.out.size
  unfold wordE at HX
  have KN1 := hid (KN.out w1 H1.out)
  clear KN TB TB1
  generalize needE s [102, 97, 108, 115, 101] t = R at *
  match R with
  | .error k =>
    unfold NeedR thrown at KN1
    go_wp2_with fail
    refine KN1.out.mono ?_
    rintro e w2 ⟨rfl, hp, tt⟩
    have TE := hid (Touch.trans (S := fun k => k = b) (T1.out.mono (fun _ _ e => e.elim)) tt (fun _ _ e => e))
    clear hp tt KN1
    go_wp2
    refine ⟨rfl, ?_⟩
    rw [← HX.out]
    exact ⟨rfl, TE.out⟩
  | .ok u =>
    unfold NeedR at KN1
    go_wp2_with fail
    refine KN1.out.mono ?_
    rintro e w2 ⟨rfl, hp, tt⟩
    have HE := hid hp
    have TE := hid (Touch.trans (S := fun k => k = b) (T1.out.mono (fun _ _ e => e.elim)) tt (fun _ _ e => e))
    have B2 := hid ((tt.block q (lt_of_block B1.out) (fun e => by have := HQ.out; omega)).trans B1.out)
    clear hp tt KN1 B1 T1 H1
    obtain ⟨⟨k0, k1, k2, k3⟩, ⟨f0, f1, f2, f3⟩⟩ := cells4 B2.out
    go_wp2
    refine bodyPost_ret (results_c rfl _ _ q 26 _ (0, 0) _ rfl (jfour_set B2.out _ _ _ _) Tryd.underlying26 rfl (by kernel_rfl)) rfl ?_
    rw [← HX.out]
    exact valP_leaf (HE.out.four (by have := HQ.out; omega) _ _ _ _) (jfour_touch TE.out HQ.out.1 _ _ _ _)
set_option maxRecDepth 100000 in
set_option maxHeartbeats 4000000 in
theorem bare_true (b : Nat) (s : ByteArray) (t d : Nat) (w : World) (h : Ps w b s t d) (hs : s.size ≤ 1048576) (ht : t ≤ s.size) (htb : Tabs w) (hn : lk s t = 116) :
    Calls Tryd.prog 63 #[.pointer (some ⟨b, 0, none⟩)] w fun e w' => ValP s b d w (wordE s [116, 114, 117, 101] 2 t) e w' := by
  have T0 := hid ((Touch.refl (fun _ => False) w).alloc (.cells #[.int .i64 0, .string ⟨#[]⟩, .slice none 0 0, .slice none 0 0] 26))
  have H0 := hid (h.new T0.out)
  have B0 := hid (jfour_new (w := w) (.int .i64 0) (.string ⟨#[]⟩) (.slice none 0 0) (.slice none 0 0) 26)
  have HBW := hid h.lt
  have KL := hid (look_any b s t d _ H0.out hs ht)
  have KN := hid (fun w' (hp : Ps w' b s t d) => need_any b s ⟨#[116, 114, 117, 101]⟩ t d w' hp hs ht (by decide))
  rw [show needE s (⟨#[116, 114, 117, 101]⟩ : ByteArray).data.toList t = needE s [116, 114, 117, 101] t from rfl] at KN
  have TB := hid (htb.new T0.out)
  rw [hn] at KL
  obtain ⟨X, hX⟩ : ∃ X, X = wordE s [116, 114, 117, 101] 2 t := ⟨_, rfl⟩
  have HX := hid hX.symm
  rw [← hX]
  clear h htb hX
  go_enter Tryd.func63, Tryd.ntmps63
  go_wp2_with fail
  refine KL.out.mono ?_
  rintro e w1 ⟨rfl, t1⟩
  have H1 := hid (H0.out.new t1)
  have T1 := hid (T0.out.trans t1 (fun _ _ e => e))
  have TB1 := hid (TB.out.new t1)
  have B1 := hid ((t1.block w.heap.size (lt_of_block B0.out) id).trans B0.out)
  clear t1 KL H0 B0 T0
  obtain ⟨q, hq⟩ : ∃ q, q = w.heap.size := ⟨_, rfl⟩
  rw [← hq] at B1 ⊢
  have HQ := hid (show w.heap.size ≤ q ∧ b < q from ⟨by omega, by have := HBW.out; omega⟩)
  clear hq HBW
  have HQ1 := hid (lt_of_block B1.out)
  have TS1 := hid T1.out.size
  unfold wordE at HX
  have KN1 := hid (KN.out w1 H1.out)
  clear KN TB TB1
  generalize needE s [116, 114, 117, 101] t = R at *
  match R with
  | .error k =>
    unfold NeedR thrown at KN1
    go_wp2_with fail
    refine KN1.out.mono ?_
    rintro e w2 ⟨rfl, hp, tt⟩
    have TE := hid (Touch.trans (S := fun k => k = b) (T1.out.mono (fun _ _ e => e.elim)) tt (fun _ _ e => e))
    clear hp tt KN1
    go_wp2
    refine ⟨rfl, ?_⟩
    rw [← HX.out]
    exact ⟨rfl, TE.out⟩
  | .ok u =>
    unfold NeedR at KN1
    go_wp2_with fail
    refine KN1.out.mono ?_
    rintro e w2 ⟨rfl, hp, tt⟩
    have HE := hid hp
    have TE := hid (Touch.trans (S := fun k => k = b) (T1.out.mono (fun _ _ e => e.elim)) tt (fun _ _ e => e))
    have B2 := hid ((tt.block q (lt_of_block B1.out) (fun e => by have := HQ.out; omega)).trans B1.out)
    clear hp tt KN1 B1 T1 H1
    obtain ⟨⟨k0, k1, k2, k3⟩, ⟨f0, f1, f2, f3⟩⟩ := cells4 B2.out
    go_wp2
    refine bodyPost_ret (results_c rfl _ _ q 26 _ (0, 0) _ rfl (jfour_set B2.out _ _ _ _) Tryd.underlying26 rfl (by kernel_rfl)) rfl ?_
    rw [← HX.out]
    exact valP_leaf (HE.out.four (by have := HQ.out; omega) _ _ _ _) (jfour_touch TE.out HQ.out.1 _ _ _ _)
end Go.Proofs.YtabhlhgfacpohaaDoor
