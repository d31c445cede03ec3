/- A parser of JSON: a value of any kind; conditions: as told. -/
import Derived.Test.YtjpmjcadnnglnaaDoorQVg
namespace Go.Proofs.YtjpmjcadnnglnaaDoor
open Go.RowKit
open Go.Lib

set_option maxRecDepth 100000 in
set_option maxHeartbeats 4000000 in
theorem bare_five (b : Nat) (s : ByteArray) (t d : Nat) (sub : Option (Nat → JR (JV × Nat))) (w : World) (h : Ps w b s t d) (hs : s.size ≤ 1048576) (ht : t ≤ s.size) (hb2 : 2 ≤ b) (htb : Tabs w) (hn : lk s t = 91) (hd : d ≤ 32) (hN : sub = none → d = 32)
    (KV : ∀ f, sub = some f → d < 32 ∧ Fwd s f ∧ ∀ w' t', Ps w' b s t' (d + 1) → Tabs w' → t' ≤ s.size → Calls Tryd.prog 24 #[.pointer (some ⟨b, 0, none⟩)] w' fun e w'' => ValP s b (d + 1) w' (f t') e w'') :
    Calls Tryd.prog 45 #[.pointer (some ⟨b, 0, none⟩)] w fun e w' => ValP s b d w (nodeE s 5 93 sub t) e w' := by
  have T0 := hid ((Touch.refl (fun _ => False) w).alloc (.cells #[.int .i64 0, .string ⟨#[]⟩, .slice none 0 0, .slice none 0 0] 36))
  have H0 := hid (h.new T0.out)
  have B0 := hid (jfour_new (w := w) (.int .i64 0) (.string ⟨#[]⟩) (.slice none 0 0) (.slice none 0 0) 36)
  have HBW := hid h.lt
  have KL := hid (look_any b s t d _ H0.out hs ht)
  have KN := hid (fun w' (hp : Ps w' b s t d) (ht' : Tabs w') => value_five b s t d sub w' hp hb2 ht' hs hn hd hN KV)
  have TB := hid (htb.new T0.out)
  rw [hn] at KL
  obtain ⟨X, hX⟩ : ∃ X, X = nodeE s 5 93 sub t := ⟨_, rfl⟩
  have HX := hid hX.symm
  rw [← hX]
  clear h htb hX KV
  go_enter Tryd.func45, Tryd.ntmps45
  go_wp2_with fail
  refine KL.out.mono ?_
  rintro e w1 ⟨rfl, t1⟩
  have H1 := hid (H0.out.new t1)
  have T1 := hid (T0.out.trans t1 (fun _ _ e => e))
  have TB1 := hid (TB.out.new t1)
  have B1 := hid ((t1.block w.heap.size (lt_of_block B0.out) id).trans B0.out)
  clear t1 KL H0 B0 T0
  obtain ⟨q, hq⟩ : ∃ q, q = w.heap.size := ⟨_, rfl⟩
  rw [← hq] at B1 ⊢
  have HQ := hid (show w.heap.size ≤ q ∧ b < q from ⟨by omega, by have := HBW.out; omega⟩)
  clear hq HBW
  have HQ1 := hid (lt_of_block B1.out)
  have TS1 := hid T1.out.size
  have KN1 := hid (KN.out w1 H1.out TB1.out)
  rw [HX.out] at KN1
  clear KN TB TB1 HX
  cases hR : X with
  | error e0 =>
    obtain ⟨ec, ek⟩ := e0
    rw [hR] at KN1
    have HR := hid hR
    clear hR
    unfold ValP thrown at KN1
    go_wp2_with fail
    refine KN1.out.mono ?_
    rintro e w2 ⟨rfl, tt⟩
    have TE := hid (Touch.trans (S := fun k => k = b) (T1.out.mono (fun _ _ e => e.elim)) tt (fun _ _ e => e))
    clear tt KN1
    go_wp2
    refine ⟨rfl, ?_⟩
    rw [HR.out]
    exact ⟨rfl, TE.out⟩
  | ok p0 =>
    obtain ⟨x, u⟩ := p0
    rw [hR] at KN1
    have HR := hid hR
    clear hR
    unfold ValP at KN1
    go_wp2_with fail
    refine KN1.out.mono ?_
    rintro e w2 ⟨rk, rt, a2, n2, c2, a3, n3, c3, B, rfl, tv, hB, hp, tt⟩
    have HE := hid hp
    have TE := hid (Touch.trans (S := fun k => k = b) (T1.out.mono (fun _ _ e => e.elim)) tt (fun _ _ e => e))
    have B2 := hid ((tt.block q (lt_of_block B1.out) (fun e => by have := HQ.out; omega)).trans B1.out)
    have TVH := hid tv
    have HBB := hid hB
    clear hp tt KN1 B1 T1 H1 tv hB
    obtain ⟨⟨k0, k1, k2, k3⟩, ⟨f0, f1, f2, f3⟩⟩ := cells4 B2.out
    go_wp2
    refine bodyPost_ret (results_c rfl _ _ q 36 _ (0, 0) _ rfl (jfour_set B2.out _ _ _ _) Tryd.underlying36 rfl (by kernel_rfl)) rfl ?_
    have TF := touch_four (S := fun k => k = q) (g := q) (Touch.refl _ w2) (fun _ => rfl) 0 1 2 3 (.int .i64 rk) (.string rt) (.slice a2 n2 c2) (.slice a3 n3 c3)
    rw [HR.out]
    exact ⟨rk, rt, a2, n2, c2, a3, n3, c3, B, rfl, TVH.out.kept TF (fun g e e2 => by have := HBB.out g e; have := HQ1.out; omega), fun g e => by have := HBB.out g e; have := TS1.out; have := TF.size; exact ⟨by omega, by omega⟩, HE.out.four (by have := HQ.out; omega) _ _ _ _, jfour_touch TE.out HQ.out.1 _ _ _ _⟩
set_option maxRecDepth 100000 in
set_option maxHeartbeats 4000000 in
theorem bare_six (b : Nat) (s : ByteArray) (t d : Nat) (sub : Option (Nat → JR (JV × Nat))) (w : World) (h : Ps w b s t d) (hs : s.size ≤ 1048576) (ht : t ≤ s.size) (hb2 : 2 ≤ b) (htb : Tabs w) (hn : lk s t = 123) (hd : d ≤ 32) (hN : sub = none → d = 32)
    (KV : ∀ f, sub = some f → d < 32 ∧ Fwd s f ∧ ∀ w' t', Ps w' b s t' (d + 1) → Tabs w' → t' ≤ s.size → Calls Tryd.prog 24 #[.pointer (some ⟨b, 0, none⟩)] w' fun e w'' => ValP s b (d + 1) w' (f t') e w'') :
    Calls Tryd.prog 45 #[.pointer (some ⟨b, 0, none⟩)] w fun e w' => ValP s b d w (nodeE s 6 125 sub t) e w' := by
  have T0 := hid ((Touch.refl (fun _ => False) w).alloc (.cells #[.int .i64 0, .string ⟨#[]⟩, .slice none 0 0, .slice none 0 0] 36))
  have H0 := hid (h.new T0.out)
  have B0 := hid (jfour_new (w := w) (.int .i64 0) (.string ⟨#[]⟩) (.slice none 0 0) (.slice none 0 0) 36)
  have HBW := hid h.lt
  have KL := hid (look_any b s t d _ H0.out hs ht)
  have KN := hid (fun w' (hp : Ps w' b s t d) (ht' : Tabs w') => value_six b s t d sub w' hp hb2 ht' hs hn hd hN KV)
  have TB := hid (htb.new T0.out)
  rw [hn] at KL
  obtain ⟨X, hX⟩ : ∃ X, X = nodeE s 6 125 sub t := ⟨_, rfl⟩
  have HX := hid hX.symm
  rw [← hX]
  clear h htb hX KV
  go_enter Tryd.func45, Tryd.ntmps45
  go_wp2_with fail
  refine KL.out.mono ?_
  rintro e w1 ⟨rfl, t1⟩
  have H1 := hid (H0.out.new t1)
  have T1 := hid (T0.out.trans t1 (fun _ _ e => e))
  have TB1 := hid (TB.out.new t1)
  have B1 := hid ((t1.block w.heap.size (lt_of_block B0.out) id).trans B0.out)
  clear t1 KL H0 B0 T0
  obtain ⟨q, hq⟩ : ∃ q, q = w.heap.size := ⟨_, rfl⟩
  rw [← hq] at B1 ⊢
  have HQ := hid (show w.heap.size ≤ q ∧ b < q from ⟨by omega, by have := HBW.out; omega⟩)
  clear hq HBW
  have HQ1 := hid (lt_of_block B1.out)
  have TS1 := hid T1.out.size
  have KN1 := hid (KN.out w1 H1.out TB1.out)
  rw [HX.out] at KN1
  clear KN TB TB1 HX
  cases hR : X with
  | error e0 =>
    obtain ⟨ec, ek⟩ := e0
    rw [hR] at KN1
    have HR := hid hR
    clear hR
    unfold ValP thrown at KN1
    go_wp2_with fail
    refine KN1.out.mono ?_
    rintro e w2 ⟨rfl, tt⟩
    have TE := hid (Touch.trans (S := fun k => k = b) (T1.out.mono (fun _ _ e => e.elim)) tt (fun _ _ e => e))
    clear tt KN1
    go_wp2
    refine ⟨rfl, ?_⟩
    rw [HR.out]
    exact ⟨rfl, TE.out⟩
  | ok p0 =>
    obtain ⟨x, u⟩ := p0
    rw [hR] at KN1
    have HR := hid hR
    clear hR
    unfold ValP at KN1
    go_wp2_with fail
    refine KN1.out.mono ?_
    rintro e w2 ⟨rk, rt, a2, n2, c2, a3, n3, c3, B, rfl, tv, hB, hp, tt⟩
    have HE := hid hp
    have TE := hid (Touch.trans (S := fun k => k = b) (T1.out.mono (fun _ _ e => e.elim)) tt (fun _ _ e => e))
    have B2 := hid ((tt.block q (lt_of_block B1.out) (fun e => by have := HQ.out; omega)).trans B1.out)
    have TVH := hid tv
    have HBB := hid hB
    clear hp tt KN1 B1 T1 H1 tv hB
    obtain ⟨⟨k0, k1, k2, k3⟩, ⟨f0, f1, f2, f3⟩⟩ := cells4 B2.out
    go_wp2
    refine bodyPost_ret (results_c rfl _ _ q 36 _ (0, 0) _ rfl (jfour_set B2.out _ _ _ _) Tryd.underlying36 rfl (by kernel_rfl)) rfl ?_
    have TF := touch_four (S := fun k => k = q) (g := q) (Touch.refl _ w2) (fun _ => rfl) 0 1 2 3 (.int .i64 rk) (.string rt) (.slice a2 n2 c2) (.slice a3 n3 c3)
    rw [HR.out]
    exact ⟨rk, rt, a2, n2, c2, a3, n3, c3, B, rfl, TVH.out.kept TF (fun g e e2 => by have := HBB.out g e; have := HQ1.out; omega), fun g e => by have := HBB.out g e; have := TS1.out; have := TF.size; exact ⟨by omega, by omega⟩, HE.out.four (by have := HQ.out; omega) _ _ _ _, jfour_touch TE.out HQ.out.1 _ _ _ _⟩
/-- A value without blanks around it. -/
theorem bare_any (b : Nat) (s : ByteArray) (t d : Nat) (sub : Option (Nat → JR (JV × Nat))) (w : World) (h : Ps w b s t d) (hs : s.size ≤ 1048576) (ht : t ≤ s.size) (hb2 : 2 ≤ b) (htb : Tabs w) (hd : d ≤ 32) (hN : sub = none → d = 32)
    (KV : ∀ f, sub = some f → d < 32 ∧ Fwd s f ∧ ∀ w' t', Ps w' b s t' (d + 1) → Tabs w' → t' ≤ s.size → Calls Tryd.prog 24 #[.pointer (some ⟨b, 0, none⟩)] w' fun e w'' => ValP s b (d + 1) w' (f t') e w'') :
    Calls Tryd.prog 45 #[.pointer (some ⟨b, 0, none⟩)] w fun e w' => ValP s b d w (bareE s sub t) e w' := by
  unfold bareE
  by_cases e1 : lk s t = 110
  · rw [if_pos e1]
    exact bare_null b s t d w h hs ht htb e1
  rw [if_neg e1]
  by_cases e2 : lk s t = 102
  · rw [if_pos e2]
    exact bare_false b s t d w h hs ht htb e2
  rw [if_neg e2]
  by_cases e3 : lk s t = 116
  · rw [if_pos e3]
    exact bare_true b s t d w h hs ht htb e3
  rw [if_neg e3]
  by_cases e4 : lk s t = 34
  · rw [if_pos e4]
    refine (bare_quot b s t d w h hs ht hb2 htb e4).mono ?_
    intro e w' hq
    unfold textE
    match quotE s t, hq with
    | .error k, hq => exact ⟨hq.1, hq.2.2⟩
    | .ok (o, u), hq =>
      obtain ⟨rfl, hp, tt⟩ := hq
      exact valP_leaf hp tt
  rw [if_neg e4]
  by_cases e5 : lk s t = 91
  · rw [if_pos e5]
    exact bare_five b s t d sub w h hs ht hb2 htb e5 hd hN KV
  rw [if_neg e5]
  by_cases e6 : lk s t = 123
  · rw [if_pos e6]
    exact bare_six b s t d sub w h hs ht hb2 htb e6 hd hN KV
  rw [if_neg e6]
  refine (bare_num b s t d w h hs ht ⟨e1, e2, e3, e4, e5, e6⟩).mono ?_
  intro e w' hq
  unfold numbE
  match numE s t, hq with
  | .error k, hq => exact ⟨hq.1, hq.2.2⟩
  | .ok u, hq =>
    obtain ⟨rfl, hp, tt⟩ := hq
    exact valP_leaf hp tt
set_option maxRecDepth 100000 in
set_option maxHeartbeats 4000000 in
/-- A value, with blanks around it. -/
theorem value_of (b : Nat) (s : ByteArray) (t d : Nat) (sub : Option (Nat → JR (JV × Nat))) (w : World) (h : Ps w b s t d) (hs : s.size ≤ 1048576) (ht : t ≤ s.size) (hb2 : 2 ≤ b) (htb : Tabs w) (hd : d ≤ 32) (hN : sub = none → d = 32)
    (KV0 : ∀ f, sub = some f → d < 32 ∧ Fwd s f ∧ ∀ w' t', Ps w' b s t' (d + 1) → Tabs w' → t' ≤ s.size → Calls Tryd.prog 24 #[.pointer (some ⟨b, 0, none⟩)] w' fun e w'' => ValP s b (d + 1) w' (f t') e w'') :
    Calls Tryd.prog 24 #[.pointer (some ⟨b, 0, none⟩)] w fun e w' => ValP s b d w (valE s sub t) e w' := by
  have T0 := hid ((Touch.refl (fun _ => False) w).alloc (.cells #[.int .i64 0, .string ⟨#[]⟩, .slice none 0 0, .slice none 0 0] 36))
  have H0 := hid (h.new T0.out)
  have B0 := hid (jfour_new (w := w) (.int .i64 0) (.string ⟨#[]⟩) (.slice none 0 0) (.slice none 0 0) 36)
  have HBW := hid h.lt
  have htt := bl_le s t ht
  have KB := hid (fun w' k (hp : Ps w' b s k d) (hk : k ≤ s.size) => blanks_any b s k d w' hp hs hk)
  have KV := hid (fun w' (hp : Ps w' b s (bl s t) d) (ht' : Tabs w') => bare_any b s (bl s t) d sub w' hp hs htt hb2 ht' hd hN KV0)
  have HF := hid (fun x u => bare_fwd (fun f e => (KV0 f e).2.1) (bl s t) x u htt)
  have TB := hid (htb.new T0.out)
  have HB2 := hid hb2
  obtain ⟨X, hX⟩ : ∃ X, X = valE s sub t := ⟨_, rfl⟩
  have HX := hid hX.symm
  rw [← hX]
  unfold valE at HX
  generalize bareE s sub (bl s t) = R at *
  clear h htb hb2 hX KV0 hN
  go_enter Tryd.func24, Tryd.ntmps24
  go_wp2_with fail
  generalize w.alloc (.cells #[.int .i64 0, .string ⟨#[]⟩, .slice none 0 0, .slice none 0 0] 36) = w0 at *
  obtain ⟨q, hq⟩ : ∃ q, q = w.heap.size := ⟨_, rfl⟩
  rw [← hq] at B0 ⊢
  have HQ := hid (show w.heap.size ≤ q ∧ b < q from ⟨by omega, by have := HBW.out; omega⟩)
  clear hq HBW
  refine (KB.out _ t H0.out ht).mono ?_
  rintro e w1 ⟨rfl, hp, tt⟩
  have H1 := hid hp
  have T1 := hid (Touch.trans (S := fun k => k = b) (T0.out.mono (fun _ _ e => e.elim)) tt (fun _ _ e => e))
  have B1 := hid ((tt.block q (lt_of_block B0.out) (fun e => by have := HQ.out; omega)).trans B0.out)
  have TB1 := hid (TB.out.kept tt (fun e => by have := HB2.out; omega) (fun e => by have := HB2.out; omega))
  clear hp tt H0 T0 B0 TB
  have KV1 := hid (KV.out w1 H1.out TB1.out)
  clear KV
  match R with
  | .error (ec, ek) =>
    unfold ValP thrown at KV1
    go_wp2_with fail
    refine KV1.out.mono ?_
    rintro e w2 ⟨rfl, tt⟩
    have TE := hid (T1.out.trans tt (fun _ _ e => e))
    clear tt KV1 KB
    go_wp2
    refine ⟨rfl, ?_⟩
    rw [← HX.out]
    exact ⟨rfl, TE.out⟩
  | .ok (x, u) =>
  have hu := (HF.out x u rfl).2
  unfold ValP at KV1
  go_wp2_with fail
  refine KV1.out.mono ?_
  rintro e w2 ⟨rk, rt, a2, n2, c2, a3, n3, c3, B, rfl, tv, hB, hp, tt⟩
  have H2 := hid hp
  have T2 := hid (T1.out.trans tt (fun _ _ e => e))
  have B2 := hid ((tt.block q (lt_of_block B1.out) (fun e => by have := HQ.out; omega)).trans B1.out)
  have TV2 := hid tv
  have HBB := hid hB
  have HQ1 := hid (show q < w1.heap.size ∧ b < w1.heap.size from ⟨lt_of_block B1.out, H1.out.lt⟩)
  have TS1 := hid T1.out.size
  clear hp tt KV1 B1 T1 H1 tv hB TB1
  go_upto_region 3 with fail
  have tA := (Touch.refl (fun _ => False) w2).alloc (.cells #[.int .i64 rk, .string rt, .slice a2 n2 c2, .slice a3 n3 c3] 36)
  have H3 := hid (H2.out.new tA)
  have T3 := hid (T2.out.trans tA (fun _ _ e => e.elim))
  have B3 := hid ((tA.block q (lt_of_block B2.out) id).trans B2.out)
  have C3 := hid (jfour_new (w := w2) (.int .i64 rk) (.string rt) (.slice a2 n2 c2) (.slice a3 n3 c3) 36)
  have TV3 := hid (TV2.out.kept tA (fun g e e2 => e2))
  have SZ3 := hid tA.size
  have HQ3 := hid (show b < w2.heap.size ∧ q < w2.heap.size from ⟨H2.out.lt, lt_of_block B2.out⟩)
  clear tA H2 T2 B2 TV2
  generalize w2.alloc (.cells #[.int .i64 rk, .string rt, .slice a2 n2 c2, .slice a3 n3 c3] 36) = w3 at *
  generalize w2.heap.size = q3 at *
  go_wp2_with fail
  refine (KB.out _ u H3.out hu).mono ?_
  rintro e w4 ⟨rfl, hp, tt⟩
  have H4 := hid hp
  have T4 := hid (T3.out.trans tt (fun _ _ e => e))
  have B4 := hid ((tt.block q (lt_of_block B3.out) (fun e => by have := HQ.out; omega)).trans B3.out)
  have C4 := hid ((tt.block q3 (lt_of_block C3.out) (fun e => by have := HQ3.out; omega)).trans C3.out)
  have TV4 := hid (TV3.out.kept tt (fun g e e2 => by have := HBB.out g e; have := HQ1.out; omega))
  have SZ4 := hid tt.size
  clear hp tt H3 T3 B3 C3 KB TV3
  obtain ⟨⟨j0, j1, j2, j3⟩, _⟩ := cells4 C4.out
  obtain ⟨⟨k0, k1, k2, k3⟩, ⟨f0, f1, f2, f3⟩⟩ := cells4 B4.out
  go_wp2
  refine bodyPost_ret (results_c rfl _ _ q 36 _ (0, 0) _ rfl (jfour_set B4.out _ _ _ _) Tryd.underlying36 rfl (by kernel_rfl)) rfl ?_
  have TF := touch_four (S := fun k => k = q) (g := q) (Touch.refl _ w4) (fun _ => rfl) 0 1 2 3 (.int .i64 rk) (.string rt) (.slice a2 n2 c2) (.slice a3 n3 c3)
  rw [← HX.out]
  exact ⟨rk, rt, a2, n2, c2, a3, n3, c3, B, rfl, TV4.out.kept TF (fun g e e2 => by have := HBB.out g e; have := HQ1.out; omega), fun g e => by have := HBB.out g e; have := TS1.out; have := TF.size; have := SZ3.out; have := SZ4.out; exact ⟨by omega, by omega⟩, H4.out.four (by have := HQ.out; omega) _ _ _ _, jfour_touch T4.out HQ.out.1 _ _ _ _⟩
theorem value_any (b : Nat) (s : ByteArray) (hs : s.size ≤ 1048576) (hb2 : 2 ≤ b) : ∀ (n d : Nat) (t : Nat) (w : World), d + n = 32 → Ps w b s t d → t ≤ s.size → Tabs w → Calls Tryd.prog 24 #[.pointer (some ⟨b, 0, none⟩)] w fun e w' => ValP s b d w (valF s n t) e w'
  | 0, d, t, w, hd, h, ht, htb => by
    rw [valF]
    exact value_of b s t d none w h hs ht hb2 htb (by omega) (fun _ => by omega) (fun f e => by cases e)
  | n + 1, d, t, w, hd, h, ht, htb => by
    rw [valF]
    exact value_of b s t d (some fun u => valF s n u) w h hs ht hb2 htb (by omega) (fun e => by cases e) (fun f e => by
      cases e
      exact ⟨by omega, valF_fwd s n, fun w' t' hp ht' htt => value_any b s hs hb2 n (d + 1) t' w' (by omega) hp htt ht'⟩)
end Go.Proofs.YtjpmjcadnnglnaaDoor
