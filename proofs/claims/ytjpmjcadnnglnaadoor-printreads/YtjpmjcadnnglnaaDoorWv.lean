/- The document's Parse of JSON; no condition. -/
import Derived.Test.YtjpmjcadnnglnaaDoorQWt
import Derived.Test.YtjpmjcadnnglnaaDoorM17
import Derived.Test.YtjpmjcadnnglnaaDoorQVl
namespace Go.Proofs.YtjpmjcadnnglnaaDoor
open Go.RowKit
open Go.Lib

theorem Rz.c3 {R : Value} {w : World} {b : Nat} {s : ByteArray} {t : Nat} {V : Value} {er ea : Nat} (h : Rz R w b s t V er ea) : w.cell? ⟨b, 3, none⟩ = some R := by unfold Rz at h; simp [World.cell?, h]
/-- What the document's Parse answers. -/
def RParP (w : World) : JR JV → Ending → World → Prop
  | .ok x, e, w' => ∃ a n c r ds B, e = .returned (.agg #[.slice a n c, .int .i64 (r : Nat), .int .i64 0, .int .i64 0]) ∧ DL w' (.slice a n c) ds ∧ DT w' B ds r x ∧ Touch (fun _ => False) w w'
  | .error (c, k), e, w' => e = .returned (.agg #[.slice none 0 0, .int .i64 0, .int .i64 (c : Nat), .int .i64 (k : Nat)]) ∧ Touch (fun _ => False) w w'
theorem four_own {w : World} {g : Nat} (x y z u : Value) : Touch (fun k => k = g) w ((((w.setCell ⟨g, 0, none⟩ x).setCell ⟨g, 1, none⟩ y).setCell ⟨g, 2, none⟩ z).setCell ⟨g, 3, none⟩ u) :=
  ((((Touch.refl (fun k => k = g) w).setCell (p := ⟨g, 0, none⟩) (fun _ => rfl) x).setCell (p := ⟨g, 1, none⟩) (fun _ => rfl) y).setCell (p := ⟨g, 2, none⟩) (fun _ => rfl) z).setCell (p := ⟨g, 3, none⟩) (fun _ => rfl) u
set_option maxRecDepth 100000 in
set_option maxHeartbeats 4000000 in
theorem rparse_long (s : ByteArray) (w : World) (hs : 1048576 < s.size) : Calls Tryd.prog 11 #[.string s] w fun e w' => RParP w (.error (2, 0)) e w' := by
  have hsI : (1048576 : Int) < (s.size : Int) := by omega
  have BX := hid (jfour_new (w := w) (.slice none 0 0) (.int .i64 0) (.int .i64 0) (.int .i64 0) 49)
  have T0 := hid ((Touch.refl (fun _ => False) w).alloc (.cells #[.slice none 0 0, .int .i64 0, .int .i64 0, .int .i64 0] 49))
  go_enter Tryd.func11, Tryd.ntmps11
  go_upto_region 1 with fail
  generalize w.alloc (.cells #[.slice none 0 0, .int .i64 0, .int .i64 0, .int .i64 0] 49) = w1 at *
  obtain ⟨q, hq⟩ : ∃ q, q = w.heap.size := ⟨_, rfl⟩
  have HQ := hid (show w.heap.size ≤ q by omega)
  rw [← hq] at BX ⊢
  clear hq
  obtain ⟨⟨k0, k1, k2, k3⟩, ⟨f0, f1, f2, f3⟩⟩ := cells4 BX.out
  go_wp2
  refine bodyPost_ret (results_c rfl _ _ q 49 _ (0, 0) _ rfl (jfour_set BX.out _ _ _ _) Tryd.underlying49 rfl (by kernel_rfl)) rfl ?_
  exact ⟨rfl, jfour_touch T0.out HQ.out _ _ _ _⟩
set_option maxRecDepth 100000 in
set_option maxHeartbeats 4000000 in
theorem rparse_dec (s : ByteArray) (i : Nat) (w : World) (hs : s.size ≤ 1048576) (hi : 1 ≤ i) (hi2 : i ≤ 1048577)
    (KD : ∀ w, Calls Tryd.prog 17 #[.string (xs s), .int .i64 1, .bool true] w fun e w' => e = .returned (.tuple #[.agg zeroR, .int .i64 17, .int .i64 (i : Nat)]) ∧ Touch (fun _ => False) w w') : Calls Tryd.prog 11 #[.string s] w fun e w' => RParP w (.error (17, i - 1)) e w' := by
  have hsI : ¬ (1048576 : Int) < (s.size : Int) := by omega
  have BX := hid (jfour_new (w := w) (.slice none 0 0) (.int .i64 0) (.int .i64 0) (.int .i64 0) 49)
  have T0 := hid ((Touch.refl (fun _ => False) w).alloc (.cells #[.slice none 0 0, .int .i64 0, .int .i64 0, .int .i64 0] 49))
  have K1 := hid KD
  unfold xs zeroR at K1
  clear KD
  go_enter Tryd.func11, Tryd.ntmps11
  go_upto_region 1 with fail
  generalize w.alloc (.cells #[.slice none 0 0, .int .i64 0, .int .i64 0, .int .i64 0] 49) = w1 at *
  obtain ⟨q, hq⟩ : ∃ q, q = w.heap.size := ⟨_, rfl⟩
  have HQ := hid (show w.heap.size ≤ q by omega)
  rw [← hq] at BX ⊢
  clear hq
  go_wp2_with fail
  refine (K1.out w1).mono ?_
  rintro e w2 ⟨rfl, tt⟩
  have B2 := hid ((tt.block q (lt_of_block BX.out) id).trans BX.out)
  have T2 := hid (T0.out.trans tt (fun _ _ e => e))
  clear tt K1 BX T0
  go_upto_region 4 with fail
  have TA := (Touch.refl (fun _ => False) w2).alloc (.cells #[.int .i64 0, .int .i64 0, .slice none 0 0, .slice none 0 0] 66)
  have B3 := hid ((TA.block q (lt_of_block B2.out) id).trans B2.out)
  have T3 := hid (T2.out.trans TA (fun _ _ e => e))
  clear TA B2 T2
  generalize w2.alloc (.cells #[.int .i64 0, .int .i64 0, .slice none 0 0, .slice none 0 0] 66) = w3 at *
  obtain ⟨⟨k0, k1, k2, k3⟩, ⟨f0, f1, f2, f3⟩⟩ := cells4 B3.out
  have hI : (i : Int) - 1 = ((i - 1 : Nat) : Int) := by omega
  have HI := hid hI
  clear hI
  go_wp2
  refine bodyPost_ret (results_c rfl _ _ q 49 _ (0, 0) _ rfl (jfour_set B3.out _ _ _ _) Tryd.underlying49 rfl (by kernel_rfl)) rfl ?_
  exact ⟨by rw [← HI.out]; rfl, jfour_touch T3.out HQ.out _ _ _ _⟩
theorem ends_bare (s : ByteArray) : wholeE s = match bareE s (subF s 32) (bl s 0) with
    | .error e => .error e
    | .ok (x, u) => if bl s u = s.size then .ok x else .error (20, bl s u) := by
  unfold wholeE
  have e : valF s 32 0 = valE s (subF s 32) 0 := rfl
  rw [e]
  unfold valE
  match bareE s (subF s 32) (bl s 0) with
  | .error e => rfl
  | .ok (x, u) => rfl
set_option maxRecDepth 100000 in
set_option maxHeartbeats 8000000 in
theorem rparse_good (s : ByteArray) (w : World) (hs : s.size ≤ 1048576)
    (KD : ∀ w, Calls Tryd.prog 17 #[.string (xs s), .int .i64 1, .bool true] w fun e w' => ∃ bad a1 n1 c1 a2 n2 c2, e = .returned (.tuple #[.agg #[.int .i64 1, .int .i64 bad, .slice a1 n1 c1, .slice a2 n2 c2], .int .i64 0, .int .i64 0]) ∧ Touch (fun _ => False) w w') : Calls Tryd.prog 11 #[.string s] w fun e w' => RParP w (wholeE s) e w' := by
  have hsI : ¬ (1048576 : Int) < (s.size : Int) := by omega
  have BX := hid (jfour_new (w := w) (.slice none 0 0) (.int .i64 0) (.int .i64 0) (.int .i64 0) 49)
  have T0 := hid ((Touch.refl (fun _ => False) w).alloc (.cells #[.slice none 0 0, .int .i64 0, .int .i64 0, .int .i64 0] 49))
  have K1 := hid KD
  have KV := hid (fun lo b => rvalue_top lo b s hs)
  obtain ⟨X, hX⟩ : ∃ X, X = wholeE s := ⟨_, rfl⟩
  rw [← hX]
  rw [ends_bare] at hX
  have HX := hid hX
  have HF := hid (fun x u => bare_fwd (sub_fwd s 32) (bl s 0) x u (bl_le s 0 (Nat.zero_le _)))
  have HER := hid (err_bare s 32 (bl s 0))
  unfold xs at K1
  clear KD hX
  go_enter Tryd.func11, Tryd.ntmps11
  go_upto_region 1 with fail
  generalize w.alloc (.cells #[.slice none 0 0, .int .i64 0, .int .i64 0, .int .i64 0] 49) = w1 at *
  obtain ⟨q, hq⟩ : ∃ q, q = w.heap.size := ⟨_, rfl⟩
  have HQ := hid (show w.heap.size ≤ q by omega)
  rw [← hq] at BX ⊢
  clear hq
  go_wp2_with fail
  refine (K1.out w1).mono ?_
  rintro e w2 ⟨bad, a1, n1, c1, a2, n2, c2, rfl, tt⟩
  have B2 := hid ((tt.block q (lt_of_block BX.out) id).trans BX.out)
  have T2 := hid (T0.out.trans tt (fun _ _ e => e))
  clear tt K1 BX T0
  go_upto_region 4 with fail
  have TA := (Touch.refl (fun _ => False) w2).alloc (.cells #[.int .i64 1, .int .i64 bad, .slice a1 n1 c1, .slice a2 n2 c2] 66)
  have B3 := hid ((TA.block q (lt_of_block B2.out) id).trans B2.out)
  have T3 := hid (T2.out.trans TA (fun _ _ e => e))
  clear TA B2 T2
  generalize w2.alloc (.cells #[.int .i64 1, .int .i64 bad, .slice a1 n1 c1, .slice a2 n2 c2] 66) = w3 at *
  go_upto_region 7 with fail
  have TA := (Touch.refl (fun _ => False) w3).alloc (.cells #[.string s, .int .i64 0, .slice none 0 0, .int .i64 0, .int .i64 0, .int .i64 0] 71)
  have R4 := hid (show RS (w3.alloc (.cells #[.string s, .int .i64 0, .slice none 0 0, .int .i64 0, .int .i64 0, .int .i64 0] 71)) (w3.heap.size + 1) w3.heap.size s 0 (.slice none 0 0) 0 0 [] from ⟨block_new w3 _ 71, World.ownsRow_nil _ _ _ _, (fun g e => by cases e), by omega, by rw [size_al]; omega⟩)
  have B4 := hid ((TA.block q (lt_of_block B3.out) id).trans B3.out)
  have T4 := hid (T3.out.trans TA (fun _ _ e => e))
  have HB := hid (show q < w3.heap.size ∧ w.heap.size ≤ w3.heap.size from ⟨lt_of_block B3.out, T3.out.size⟩)
  have Q4 := hid (lt_of_block B4.out)
  clear TA B3 T3
  generalize w3.alloc (.cells #[.string s, .int .i64 0, .slice none 0 0, .int .i64 0, .int .i64 0, .int .i64 0] 71) = w4 at *
  generalize w3.heap.size = b at *
  have K4 := hid (KV.out (b + 1) b 0 none 0 0 [] w4 R4.out (Nat.zero_le _) (Nat.zero_le _))
  match hR : bareE s (subF s 32) (bl s 0) with
  | .error (fc, fk) =>
    have hfc : fc ≠ 0 := HER.out fc fk hR
    rw [hR] at K4 HX
    clear hR HF HER
    have HFC := hid hfc
    have hfI : ((fc : Int) != 0) = true := by simp; omega
    clear hfc
    go_wp2_with fail
    refine K4.out.mono ?_
    rintro e w5 ⟨r, u, a', n', c', ds', rfl, hu, hr, _, tt, _⟩
    have B5 := hid ((tt.block q Q4.out (fun e => by rcases e with e | e; have := HB.out; omega; cases e)).trans B4.out)
    have T5 := hid (Touch.trans (S := fun _ => False) T4.out tt (fun i hi e => by rcases e with e | e; have := HB.out; omega; cases e))
    have H5 := hid hr.rr
    clear tt hr K4 B4 T4 R4
    have z3 : w5.cell? ⟨b, 3, none⟩ = some (.int .i64 0) := by have := H5.out; unfold Rr at this; simp [World.cell?, this]
    have zf : w5.frozen? ⟨b, 3, none⟩ = false := H5.out.fr
    go_upto_region 9 with fail
    have TS := Touch.setCell (S := fun k => k = b) (Touch.refl _ w5) (p := ⟨b, 3, none⟩) (fun _ => rfl) (.int .i64 r)
    have H6 := hid (show Rz (.int .i64 r) (w5.setCell ⟨b, 3, none⟩ (.int .i64 r)) b s u (.slice a' n' c') fc fk from block_set H5.out 3 (.int .i64 r))
    have B6 := hid ((TS.block q (lt_of_block B5.out) (fun e => by have := HB.out; omega)).trans B5.out)
    have T6 := hid (Touch.trans (S := fun _ => False) T5.out TS (fun i hi e => by have := HB.out; omega))
    clear TS H5 B5 T5 z3 zf
    generalize w5.setCell ⟨b, 3, none⟩ (.int .i64 r) = w6 at *
    have KB := hid (rblanks_errz (.int .i64 r) b s u (.slice a' n' c') fc fk w6 H6.out HFC.out)
    go_wp2_with fail
    refine KB.out.mono ?_
    rintro e w7 ⟨rfl, tt⟩
    have H7 := hid (H6.out.new tt)
    have B7 := hid ((tt.block q (lt_of_block B6.out) id).trans B6.out)
    have T7 := hid (T6.out.trans tt (fun _ _ e => e))
    clear tt KB H6 B6 T6
    have z1 := H7.out.c1
    by_cases hus : u < s.size
    · have huI : (u : Int) < (s.size : Int) := by omega
      have KF := hid (fail_errz (.int .i64 r) b s u (.slice a' n' c') fc fk 20 w7 H7.out HFC.out)
      go_wp2_with fail
      refine KF.out.mono ?_
      rintro e w8 ⟨rfl, tt⟩
      have H8 := hid (H7.out.new tt)
      have B8 := hid ((tt.block q (lt_of_block B7.out) id).trans B7.out)
      have T8 := hid (T7.out.trans tt (fun _ _ e => e))
      clear tt KF H7 B7 T7 z1
      have z4 := H8.out.c4
      have z5 := H8.out.c5
      obtain ⟨⟨k0, k1, k2, k3⟩, ⟨f0, f1, f2, f3⟩⟩ := cells4 B8.out
      go_wp2_with fail
      go_region
      go_wp2
      refine bodyPost_ret (results_c rfl _ _ q 49 _ (0, 0) _ rfl (jfour_set B8.out _ _ _ _) Tryd.underlying49 rfl (by kernel_rfl)) rfl ?_
      rw [HX.out]
      exact ⟨rfl, jfour_touch T8.out.drew HQ.out _ _ _ _⟩
    · have huI : ¬ (u : Int) < (s.size : Int) := by omega
      have z4 := H7.out.c4
      have z5 := H7.out.c5
      obtain ⟨⟨k0, k1, k2, k3⟩, ⟨f0, f1, f2, f3⟩⟩ := cells4 B7.out
      go_wp2_with fail
      go_region
      go_wp2
      refine bodyPost_ret (results_c rfl _ _ q 49 _ (0, 0) _ rfl (jfour_set B7.out _ _ _ _) Tryd.underlying49 rfl (by kernel_rfl)) rfl ?_
      rw [HX.out]
      exact ⟨rfl, jfour_touch T7.out.drew HQ.out _ _ _ _⟩
  | .ok (x, u) =>
    have hux := HF.out x u hR
    rw [hR] at K4 HX
    clear hR HF HER
    have b1 := bl_ge s u
    have b2 := bl_le s u hux.2
    go_wp2_with fail
    refine K4.out.mono ?_
    rintro e w5 ⟨r, a', n', c', es, B, rfl, hr, _, hdt, hB, tt, _⟩
    have B5 := hid ((tt.block q Q4.out (fun e => by rcases e with e | e; have := HB.out; omega; cases e)).trans B4.out)
    have T5 := hid (Touch.trans (S := fun _ => False) T4.out tt (fun i hi e => by rcases e with e | e; have := HB.out; omega; cases e))
    have H5 := hid hr.rr
    have D5 := hid (show DL w5 (.slice a' n' c') es from hr.dl)
    have NV5 := hid (show ∀ g, (Value.slice a' n' c').ownBlock = some g → b < g from fun g e => by have := hr.nv g e; omega)
    have E5 := hid (show DT w5 B es r x from hdt)
    have HBB := hid (show ∀ g, B g → b < g from fun g e => by have := (hB g e).1; have := R4.out.low; omega)
    clear tt hr hdt hB K4 B4 T4 R4
    have z3 : w5.cell? ⟨b, 3, none⟩ = some (.int .i64 0) := by have := H5.out; unfold Rr at this; simp [World.cell?, this]
    have zf : w5.frozen? ⟨b, 3, none⟩ = false := H5.out.fr
    go_upto_region 9 with fail
    have TS := Touch.setCell (S := fun k => k = b) (Touch.refl _ w5) (p := ⟨b, 3, none⟩) (fun _ => rfl) (.int .i64 (r : Nat))
    have H6 := hid (show Rz (.int .i64 (r : Nat)) (w5.setCell ⟨b, 3, none⟩ (.int .i64 (r : Nat))) b s u (.slice a' n' c') 0 0 from block_set H5.out 3 (.int .i64 (r : Nat)))
    have B6 := hid ((TS.block q (lt_of_block B5.out) (fun e => by have := HB.out; omega)).trans B5.out)
    have T6 := hid (Touch.trans (S := fun _ => False) T5.out TS (fun i hi e => by have := HB.out; omega))
    have D6 := hid (show DL _ (.slice a' n' c') es from rowKept D5.out TS (fun g e e2 => by have := NV5.out g e; omega))
    have E6 := hid (E5.out.kept TS (fun g e e2 => by have := HBB.out g e; omega))
    clear TS H5 B5 T5 z3 zf D5 E5
    generalize w5.setCell ⟨b, 3, none⟩ (.int .i64 (r : Nat)) = w6 at *
    have KB := hid (rblanks_goodz (.int .i64 (r : Nat)) b s u (.slice a' n' c') w6 H6.out hs hux.2)
    generalize bl s u = t1 at *
    go_wp2_with fail
    refine KB.out.mono ?_
    rintro e w7 ⟨rfl, hr, tt⟩
    have H7 := hid hr
    have B7 := hid ((tt.block q (lt_of_block B6.out) (fun e => by have := HB.out; omega)).trans B6.out)
    have T7 := hid (Touch.trans (S := fun _ => False) T6.out tt (fun i hi e => by have := HB.out; omega))
    have D7 := hid (show DL w7 (.slice a' n' c') es from rowKept D6.out tt (fun g e e2 => by have := NV5.out g e; omega))
    have E7 := hid (E6.out.kept tt (fun g e e2 => by have := HBB.out g e; omega))
    clear hr tt KB H6 B6 T6 D6 E6
    have z1 := H7.out.c1
    by_cases hus : t1 < s.size
    · have huI : (t1 : Int) < (s.size : Int) := by omega
      replace HX := hid (HX.out.trans (if_neg (by omega)))
      have KF := hid (fail_goodz (.int .i64 (r : Nat)) b s t1 (.slice a' n' c') 20 w7 H7.out)
      go_wp2_with fail
      refine KF.out.mono ?_
      rintro e w8 ⟨rfl, hr, tt⟩
      have H8 := hid hr
      have B8 := hid ((tt.block q (lt_of_block B7.out) (fun e => by have := HB.out; omega)).trans B7.out)
      have T8 := hid (Touch.trans (S := fun _ => False) T7.out tt (fun i hi e => by have := HB.out; omega))
      clear hr tt KF H7 B7 T7 z1 D7 E7
      have z4 := H8.out.c4
      have z5 := H8.out.c5
      obtain ⟨⟨k0, k1, k2, k3⟩, ⟨f0, f1, f2, f3⟩⟩ := cells4 B8.out
      go_wp2_with fail
      go_region
      go_wp2
      refine bodyPost_ret (results_c rfl _ _ q 49 _ (0, 0) _ rfl (jfour_set B8.out _ _ _ _) Tryd.underlying49 rfl (by kernel_rfl)) rfl ?_
      rw [HX.out]
      exact ⟨rfl, jfour_touch T8.out.drew HQ.out _ _ _ _⟩
    · have huI : ¬ (t1 : Int) < (s.size : Int) := by omega
      replace HX := hid (HX.out.trans (if_pos (by omega)))
      have z2 := H7.out.c2
      have z3 := H7.out.c3
      have z4 := H7.out.c4
      have z5 := H7.out.c5
      obtain ⟨⟨k0, k1, k2, k3⟩, ⟨f0, f1, f2, f3⟩⟩ := cells4 B7.out
      go_wp2
      refine bodyPost_ret (results_c rfl _ _ q 49 _ (0, 0) _ rfl (jfour_set B7.out _ _ _ _) Tryd.underlying49 rfl (by kernel_rfl)) rfl ?_
      rw [HX.out]
      have TF := four_own (w := w7) (g := q) (.slice a' n' c') (.int .i64 (r : Nat)) (.int .i64 0) (.int .i64 0)
      exact ⟨a', n', c', r, es, B, rfl, rowKept D7.out TF (fun g e e2 => by have := NV5.out g e; have := HB.out; omega), E7.out.kept TF (fun g e e2 => by have := HBB.out g e; have := HB.out; omega), jfour_touch T7.out HQ.out _ _ _ _⟩
theorem rparse_any (s : ByteArray) (w : World) : Calls Tryd.prog 11 #[.string s] w fun e w' => RParP w (parE s) e w' := by
  unfold parE
  by_cases hs : 1048576 < s.size
  · rw [if_pos hs]
    exact rparse_long s w hs
  rw [if_neg hs]
  have hs' : s.size ≤ 1048576 := by omega
  have k := fun w => rdecode_any (xs s) 1 true w (by rw [xs_size]; omega) (by decide)
  rw [xs_bg] at k
  cases hd : decB s with
  | some i =>
    have hi := dec_pos hd
    refine rparse_dec s i w hs' hi.1 (by omega) ?_
    intro w
    refine (k w).mono ?_
    intro e w' h
    rcases h with ⟨j, h1, h2⟩ | ⟨h1, _⟩
    · have e1 : decB s = some j := h1
      rw [hd] at e1
      cases e1
      exact ⟨h2.ret, h2.touch⟩
    · have e1 : decB s = none := h1
      rw [hd] at e1
      cases e1
  | none =>
    refine rparse_good s w hs' ?_
    intro w
    refine (k w).mono ?_
    intro e w' h
    rcases h with ⟨j, h1, h2⟩ | ⟨h1, h2⟩
    · have e1 : decB s = some j := h1
      rw [hd] at e1
      cases e1
    · obtain ⟨v1, v2, he, o1, o2⟩ := h2.ex
      obtain ⟨a1, c1, rfl⟩ := own_shape o1.own
      obtain ⟨a2, c2, rfl⟩ := own_shape o2.own
      exact ⟨_, a1, _, c1, a2, _, c2, he, o1.touch⟩
end Go.Proofs.YtjpmjcadnnglnaaDoor
