/- Texts of this proof, one behind the other: what each says stands ahead of it. -/
import Derived.Test.YtjpmjcadnnglnaaDoorQVe
import Derived.Test.YtjpmjcadnnglnaaDoorM6
import Derived.Test.YtjpmjcadnnglnaaDoorQVa
import Derived.Test.YtjpmjcadnnglnaaDoorM14
/- A parser of JSON: list; conditions: as told. -/
namespace Go.Proofs.YtjpmjcadnnglnaaDoor
open Go.RowKit
open Go.Lib

/-- A list or an object that was read is a tree. -/
theorem LS.tree {w : World} {lo b bx q : Nat} {s : ByteArray} {t d : Nat} {kd : Int} {v2 v3 : Value} {ks : List ByteArray} {cs : List Cel} {xs : List JV} {B : Nat → Prop} (h : LS w lo b bx q s t d kd v2 v3 ks cs xs B) :
    TV w (fun g => B g ∨ v2.ownBlock = some g ∨ v3.ownBlock = some g) ⟨kd, ⟨#[]⟩, v2, v3⟩ (.node kd ⟨#[]⟩ ks xs) ∧ ∀ g, (B g ∨ v2.ownBlock = some g ∨ v3.ownBlock = some g) → lo ≤ g ∧ g < w.heap.size := by
  refine ⟨.mk _ _ _ _ _ _ cs h.keys (fun g e => .inr (.inl e)) h.kids (fun g e => .inr (.inr e)) h.len (fun i c x e1 e2 => (h.trees i c x e1 e2).more (fun g e => .inl e)), ?_⟩
  intro g e
  rcases e with e | e | e
  · exact h.newB g e
  · exact ⟨h.new2 g e, own_lt h.keys g e⟩
  · exact ⟨h.new3 g e, own_lt h.kids g e⟩
set_option maxRecDepth 100000 in
set_option maxHeartbeats 8000000 in
theorem value_five (b : Nat) (s : ByteArray) (t d : Nat) (sub : Option (Nat → JR (JV × Nat))) (w : World) (h : Ps w b s t d) (hb2 : 2 ≤ b) (ht : Tabs w) (hs : s.size ≤ 1048576) (h0 : lk s t = 91) (hd : d ≤ 32) (hN : sub = none → d = 32)
    (KV : ∀ f, sub = some f → d < 32 ∧ Fwd s f ∧ ∀ w' t', Ps w' b s t' (d + 1) → Tabs w' → t' ≤ s.size → Calls Tryd.prog 24 #[.pointer (some ⟨b, 0, none⟩)] w' fun e w'' => ValP s b (d + 1) w' (f t') e w'') :
    Calls Tryd.prog 58 #[.pointer (some ⟨b, 0, none⟩)] w fun e w' => ValP s b d w (nodeE s 5 93 sub t) e w' := by
  have hmf : ∀ (fn : Fn) (first cap : Array Value) (w : World), (Instr.makeFunc fn first cap).run Tryd.prog w = .ok (.func fn first cap) w := fun _ _ _ _ => rfl
  obtain ⟨X, hX⟩ : ∃ X, X = nodeE s 5 93 sub t := ⟨_, rfl⟩
  have HX := hid hX.symm
  rw [← hX]
  unfold nodeE at HX
  have HW := hid h
  have HT := hid ht
  have HB2 := hid hb2
  have HKV := hid KV
  have HND := hid hN
  clear h ht hb2 hX KV hN
  go_enter Tryd.func58, Tryd.ntmps58
  go_upto_region 2 with fail
  have X1 := one_new2 (w := w) (.pointer (some ⟨b, 0, none⟩)) 79
  have X2 := jfour_new (w := w.alloc (.cells #[.pointer (some ⟨b, 0, none⟩)] 79)) (.int .i64 0) (.string ⟨#[]⟩) (.slice none 0 0) (.slice none 0 0) 36
  have X3 := jfour_new (w := (w.alloc (.cells #[.pointer (some ⟨b, 0, none⟩)] 79)).alloc (.cells #[.int .i64 0, .string ⟨#[]⟩, .slice none 0 0, .slice none 0 0] 36)) (.int .i64 5) (.string ⟨#[]⟩) (.slice none 0 0) (.slice none 0 0) 36
  have S1 : (w.alloc (.cells #[.pointer (some ⟨b, 0, none⟩)] 79)).heap.size = w.heap.size + 1 := size_alloc1 _ _
  have S2 : ((w.alloc (.cells #[.pointer (some ⟨b, 0, none⟩)] 79)).alloc (.cells #[.int .i64 0, .string ⟨#[]⟩, .slice none 0 0, .slice none 0 0] 36)).heap.size = w.heap.size + 2 := (size_alloc1 _ _).trans (by rw [S1])
  have S3 : (((w.alloc (.cells #[.pointer (some ⟨b, 0, none⟩)] 79)).alloc (.cells #[.int .i64 0, .string ⟨#[]⟩, .slice none 0 0, .slice none 0 0] 36)).alloc (.cells #[.int .i64 5, .string ⟨#[]⟩, .slice none 0 0, .slice none 0 0] 36)).heap.size = w.heap.size + 3 := (size_alloc1 _ _).trans (by rw [S2])
  have T12 := (Touch.refl (fun _ => False) (w.alloc (.cells #[.pointer (some ⟨b, 0, none⟩)] 79))).alloc (.cells #[.int .i64 0, .string ⟨#[]⟩, .slice none 0 0, .slice none 0 0] 36)
  have T23 := (Touch.refl (fun _ => False) ((w.alloc (.cells #[.pointer (some ⟨b, 0, none⟩)] 79)).alloc (.cells #[.int .i64 0, .string ⟨#[]⟩, .slice none 0 0, .slice none 0 0] 36))).alloc (.cells #[.int .i64 5, .string ⟨#[]⟩, .slice none 0 0, .slice none 0 0] 36)
  have TW := (((Touch.refl (fun _ => False) w).alloc (.cells #[.pointer (some ⟨b, 0, none⟩)] 79)).alloc (.cells #[.int .i64 0, .string ⟨#[]⟩, .slice none 0 0, .slice none 0 0] 36)).alloc (.cells #[.int .i64 5, .string ⟨#[]⟩, .slice none 0 0, .slice none 0 0] 36)
  rw [S1] at X2
  rw [S2] at X3
  have X1' := (T23.block w.heap.size (by rw [S2]; omega) id).trans ((T12.block w.heap.size (by rw [S1]; omega) id).trans X1)
  have X2' := hid ((T23.block (w.heap.size + 1) (by rw [S2]; omega) id).trans X2)
  have hlt := HW.out.lt
  have H0 := hid (show LS (((w.alloc (.cells #[.pointer (some ⟨b, 0, none⟩)] 79)).alloc (.cells #[.int .i64 0, .string ⟨#[]⟩, .slice none 0 0, .slice none 0 0] 36)).alloc (.cells #[.int .i64 5, .string ⟨#[]⟩, .slice none 0 0, .slice none 0 0] 36)) (w.heap.size + 3) b w.heap.size (w.heap.size + 2) s t d 5 (.slice none 0 0) (.slice none 0 0) [] [] [] (fun _ => False) from
    ⟨HW.out.new TW, X1', X3, World.ownsRow_nil _ _ _ _, World.ownsRow_nil _ _ _ _, (fun g e => by cases e), (fun g e => by cases e), ⟨hlt, by omega, by omega⟩, rfl, (fun i c x e => by cases e), (fun g e => e.elim), (fun g e => e.elim)⟩)
  have T0 := hid TW
  have B0 := hid (HT.out.new TW)
  have S0 := hid S3
  clear X1 X2 X3 S1 S2 S3 T12 T23 TW X1' hlt HW HT
  generalize ((w.alloc (.cells #[.pointer (some ⟨b, 0, none⟩)] 79)).alloc (.cells #[.int .i64 0, .string ⟨#[]⟩, .slice none 0 0, .slice none 0 0] 36)).alloc (.cells #[.int .i64 5, .string ⟨#[]⟩, .slice none 0 0, .slice none 0 0] 36) = w3 at *
  obtain ⟨r, hr⟩ : ∃ r, r = w.heap.size + 1 := ⟨_, rfl⟩
  obtain ⟨q, hq⟩ : ∃ q, q = w.heap.size + 2 := ⟨_, rfl⟩
  obtain ⟨bx, hbx⟩ : ∃ bx, bx = w.heap.size := ⟨_, rfl⟩
  obtain ⟨lo, hlo⟩ : ∃ lo, lo = w.heap.size + 3 := ⟨_, rfl⟩
  have HLW := hid (show w.heap.size ≤ r ∧ r < q ∧ q < lo ∧ lo ≤ w3.heap.size ∧ bx < r ∧ b < r ∧ w.heap.size ≤ bx from ⟨by omega, by omega, by omega, by have := S0.out; omega, by omega, by have := H0.out.low; omega, by omega⟩)
  rw [← hlo, ← hq, ← hbx] at H0
  rw [← hr] at X2'
  have hq2 : q = w.heap.size + 1 + 1 := by omega
  rw [← hq2, ← hr, ← hbx]
  clear hr hq hbx hlo S0 hq2
  have cb : w3.cell? ⟨bx, 0, none⟩ = some (.pointer (some ⟨b, 0, none⟩)) := by have := H0.out.box; simp [World.cell?, this]
  cases sub with
  | none =>
    have hd32 := HND.out rfl
    subst hd32
    have KR := hid (row_deep b s t ⟨#[91, 93]⟩ ⟨#[91]⟩ ⟨#[93]⟩ 64 #[.pointer (some ⟨q, 0, none⟩), .pointer (some ⟨bx, 0, none⟩)] w3 H0.out.ps (fun w => rfl) (fun w => rfl))
    unfold thrown at KR
    clear HKV HND
    go_wp2_with fail
    refine KR.out.mono ?_
    rintro e w4 ⟨rfl, t4⟩
    have T4 := hid (Touch.trans (S := fun k => k = b) (T0.out.mono (fun _ _ e => e.elim)) t4 (fun _ _ e => e))
    clear t4 KR
    go_wp2
    refine ⟨rfl, ?_⟩
    rw [← HX.out]
    exact ⟨rfl, T4.out⟩
  | some f =>
  obtain ⟨hd2, HF, KV⟩ := HKV.out f rfl
  have KR := hid (row_five lo b bx q s t d (.slice none 0 0) (.slice none 0 0) _ f w3 H0.out HLW.out.2.2.2.1 HB2.out B0.out hs hd2 h0 HF KV)
  clear HF KV HKV HND
  simp only at HX
  generalize rowE s 93 (oneE s 5 f) t = R0 at *
  match R0 with
  | .error (ec, ek) =>
    unfold RowP thrown at KR
    go_wp2_with fail
    refine KR.out.mono ?_
    rintro e w4 ⟨rfl, t4⟩
    have T4 := hid (Touch.trans (S := fun k => k = b) (T0.out.mono (fun _ _ e => e.elim)) t4 (fun i hi e => by have := HLW.out; omega))
    clear t4 KR
    go_wp2
    refine ⟨rfl, ?_⟩
    rw [← HX.out]
    exact ⟨rfl, T4.out⟩
  | .ok (l, u) =>
  unfold RowP at KR
  go_wp2_with fail
  refine KR.out.mono ?_
  rintro e w4 ⟨rfl, v2, v3, cs, B, h4, t4⟩
  obtain ⟨a2, c2, hv2⟩ := own_shape h4.keys
  obtain ⟨a3, c3, hv3⟩ := own_shape h4.kids
  subst hv2
  subst hv3
  have H4 := hid h4
  have X4 := hid ((t4.block r (lt_of_block X2'.out) (fun e => by have := HLW.out; omega)).trans X2'.out)
  have T4 := hid (Touch.trans (S := fun k => k = b) (T0.out.mono (fun _ _ e => e.elim)) t4 (fun i hi e => by have := HLW.out; omega))
  clear h4 t4 KR X2' H0 T0 B0 cb
  obtain ⟨⟨q0, q1, q2, q3⟩, _⟩ := cells4 H4.out.obj
  obtain ⟨⟨r0, r1, r2, r3⟩, ⟨g0, g1, g2, g3⟩⟩ := cells4 X4.out
  generalize hn2 : (kyL 5 l).length = n2 at *
  generalize hn3 : cs.length = n3 at *
  have HN2 := hid hn2
  have HN3 := hid hn3
  clear hn2 hn3
  go_wp2
  refine bodyPost_ret (results_c rfl _ _ r 36 _ (0, 0) _ rfl (jfour_set X4.out _ _ _ _) Tryd.underlying36 rfl (by kernel_rfl)) rfl ?_
  have TF := touch_four (S := fun k => k = r) (g := r) (Touch.refl _ w4) (fun _ => rfl) 0 1 2 3 (.int .i64 5) (.string ⟨#[]⟩) (.slice a2 n2 c2) (.slice a3 n3 c3)
  obtain ⟨tv, hB⟩ := H4.out.tree
  rw [← HX.out]
  refine ⟨5, ⟨#[]⟩, a2, n2, c2, a3, n3, c3, _, rfl, tv.kept TF (fun g e e2 => ?_), fun g e => ?_, ?_, jfour_touch T4.out HLW.out.1 _ _ _ _⟩
  · have := hB g e
    have := HLW.out
    omega
  · have := hB g e
    have := HLW.out
    have := TF.size
    exact ⟨by omega, by omega⟩
  · exact (TF.block b H4.out.ps.lt (by have := HLW.out; omega)).trans H4.out.ps
end Go.Proofs.YtjpmjcadnnglnaaDoor

/- A parser of JSON: object; conditions: as told. -/
namespace Go.Proofs.YtjpmjcadnnglnaaDoor
open Go.RowKit
open Go.Lib

set_option maxRecDepth 100000 in
set_option maxHeartbeats 8000000 in
theorem value_six (b : Nat) (s : ByteArray) (t d : Nat) (sub : Option (Nat → JR (JV × Nat))) (w : World) (h : Ps w b s t d) (hb2 : 2 ≤ b) (ht : Tabs w) (hs : s.size ≤ 1048576) (h0 : lk s t = 123) (hd : d ≤ 32) (hN : sub = none → d = 32)
    (KV : ∀ f, sub = some f → d < 32 ∧ Fwd s f ∧ ∀ w' t', Ps w' b s t' (d + 1) → Tabs w' → t' ≤ s.size → Calls Tryd.prog 24 #[.pointer (some ⟨b, 0, none⟩)] w' fun e w'' => ValP s b (d + 1) w' (f t') e w'') :
    Calls Tryd.prog 59 #[.pointer (some ⟨b, 0, none⟩)] w fun e w' => ValP s b d w (nodeE s 6 125 sub t) e w' := by
  have hmf : ∀ (fn : Fn) (first cap : Array Value) (w : World), (Instr.makeFunc fn first cap).run Tryd.prog w = .ok (.func fn first cap) w := fun _ _ _ _ => rfl
  obtain ⟨X, hX⟩ : ∃ X, X = nodeE s 6 125 sub t := ⟨_, rfl⟩
  have HX := hid hX.symm
  rw [← hX]
  unfold nodeE at HX
  have HW := hid h
  have HT := hid ht
  have HB2 := hid hb2
  have HKV := hid KV
  have HND := hid hN
  clear h ht hb2 hX KV hN
  go_enter Tryd.func59, Tryd.ntmps59
  go_upto_region 2 with fail
  have X1 := one_new2 (w := w) (.pointer (some ⟨b, 0, none⟩)) 79
  have X2 := jfour_new (w := w.alloc (.cells #[.pointer (some ⟨b, 0, none⟩)] 79)) (.int .i64 0) (.string ⟨#[]⟩) (.slice none 0 0) (.slice none 0 0) 36
  have X3 := jfour_new (w := (w.alloc (.cells #[.pointer (some ⟨b, 0, none⟩)] 79)).alloc (.cells #[.int .i64 0, .string ⟨#[]⟩, .slice none 0 0, .slice none 0 0] 36)) (.int .i64 6) (.string ⟨#[]⟩) (.slice none 0 0) (.slice none 0 0) 36
  have S1 : (w.alloc (.cells #[.pointer (some ⟨b, 0, none⟩)] 79)).heap.size = w.heap.size + 1 := size_alloc1 _ _
  have S2 : ((w.alloc (.cells #[.pointer (some ⟨b, 0, none⟩)] 79)).alloc (.cells #[.int .i64 0, .string ⟨#[]⟩, .slice none 0 0, .slice none 0 0] 36)).heap.size = w.heap.size + 2 := (size_alloc1 _ _).trans (by rw [S1])
  have S3 : (((w.alloc (.cells #[.pointer (some ⟨b, 0, none⟩)] 79)).alloc (.cells #[.int .i64 0, .string ⟨#[]⟩, .slice none 0 0, .slice none 0 0] 36)).alloc (.cells #[.int .i64 6, .string ⟨#[]⟩, .slice none 0 0, .slice none 0 0] 36)).heap.size = w.heap.size + 3 := (size_alloc1 _ _).trans (by rw [S2])
  have T12 := (Touch.refl (fun _ => False) (w.alloc (.cells #[.pointer (some ⟨b, 0, none⟩)] 79))).alloc (.cells #[.int .i64 0, .string ⟨#[]⟩, .slice none 0 0, .slice none 0 0] 36)
  have T23 := (Touch.refl (fun _ => False) ((w.alloc (.cells #[.pointer (some ⟨b, 0, none⟩)] 79)).alloc (.cells #[.int .i64 0, .string ⟨#[]⟩, .slice none 0 0, .slice none 0 0] 36))).alloc (.cells #[.int .i64 6, .string ⟨#[]⟩, .slice none 0 0, .slice none 0 0] 36)
  have TW := (((Touch.refl (fun _ => False) w).alloc (.cells #[.pointer (some ⟨b, 0, none⟩)] 79)).alloc (.cells #[.int .i64 0, .string ⟨#[]⟩, .slice none 0 0, .slice none 0 0] 36)).alloc (.cells #[.int .i64 6, .string ⟨#[]⟩, .slice none 0 0, .slice none 0 0] 36)
  rw [S1] at X2
  rw [S2] at X3
  have X1' := (T23.block w.heap.size (by rw [S2]; omega) id).trans ((T12.block w.heap.size (by rw [S1]; omega) id).trans X1)
  have X2' := hid ((T23.block (w.heap.size + 1) (by rw [S2]; omega) id).trans X2)
  have hlt := HW.out.lt
  have H0 := hid (show LS (((w.alloc (.cells #[.pointer (some ⟨b, 0, none⟩)] 79)).alloc (.cells #[.int .i64 0, .string ⟨#[]⟩, .slice none 0 0, .slice none 0 0] 36)).alloc (.cells #[.int .i64 6, .string ⟨#[]⟩, .slice none 0 0, .slice none 0 0] 36)) (w.heap.size + 3) b w.heap.size (w.heap.size + 2) s t d 6 (.slice none 0 0) (.slice none 0 0) [] [] [] (fun _ => False) from
    ⟨HW.out.new TW, X1', X3, World.ownsRow_nil _ _ _ _, World.ownsRow_nil _ _ _ _, (fun g e => by cases e), (fun g e => by cases e), ⟨hlt, by omega, by omega⟩, rfl, (fun i c x e => by cases e), (fun g e => e.elim), (fun g e => e.elim)⟩)
  have T0 := hid TW
  have B0 := hid (HT.out.new TW)
  have S0 := hid S3
  clear X1 X2 X3 S1 S2 S3 T12 T23 TW X1' hlt HW HT
  generalize ((w.alloc (.cells #[.pointer (some ⟨b, 0, none⟩)] 79)).alloc (.cells #[.int .i64 0, .string ⟨#[]⟩, .slice none 0 0, .slice none 0 0] 36)).alloc (.cells #[.int .i64 6, .string ⟨#[]⟩, .slice none 0 0, .slice none 0 0] 36) = w3 at *
  obtain ⟨r, hr⟩ : ∃ r, r = w.heap.size + 1 := ⟨_, rfl⟩
  obtain ⟨q, hq⟩ : ∃ q, q = w.heap.size + 2 := ⟨_, rfl⟩
  obtain ⟨bx, hbx⟩ : ∃ bx, bx = w.heap.size := ⟨_, rfl⟩
  obtain ⟨lo, hlo⟩ : ∃ lo, lo = w.heap.size + 3 := ⟨_, rfl⟩
  have HLW := hid (show w.heap.size ≤ r ∧ r < q ∧ q < lo ∧ lo ≤ w3.heap.size ∧ bx < r ∧ b < r ∧ w.heap.size ≤ bx from ⟨by omega, by omega, by omega, by have := S0.out; omega, by omega, by have := H0.out.low; omega, by omega⟩)
  rw [← hlo, ← hq, ← hbx] at H0
  rw [← hr] at X2'
  have hq2 : q = w.heap.size + 1 + 1 := by omega
  rw [← hq2, ← hr, ← hbx]
  clear hr hq hbx hlo S0 hq2
  have cb : w3.cell? ⟨bx, 0, none⟩ = some (.pointer (some ⟨b, 0, none⟩)) := by have := H0.out.box; simp [World.cell?, this]
  cases sub with
  | none =>
    have hd32 := HND.out rfl
    subst hd32
    have KR := hid (row_deep b s t ⟨#[123, 125]⟩ ⟨#[123]⟩ ⟨#[125]⟩ 65 #[.pointer (some ⟨bx, 0, none⟩), .pointer (some ⟨q, 0, none⟩)] w3 H0.out.ps (fun w => rfl) (fun w => rfl))
    unfold thrown at KR
    clear HKV HND
    go_wp2_with fail
    refine KR.out.mono ?_
    rintro e w4 ⟨rfl, t4⟩
    have T4 := hid (Touch.trans (S := fun k => k = b) (T0.out.mono (fun _ _ e => e.elim)) t4 (fun _ _ e => e))
    clear t4 KR
    go_wp2
    refine ⟨rfl, ?_⟩
    rw [← HX.out]
    exact ⟨rfl, T4.out⟩
  | some f =>
  obtain ⟨hd2, HF, KV⟩ := HKV.out f rfl
  have KR := hid (row_six lo b bx q s t d (.slice none 0 0) (.slice none 0 0) _ f w3 H0.out HLW.out.2.2.2.1 HB2.out B0.out hs hd2 h0 HF KV)
  clear HF KV HKV HND
  simp only at HX
  generalize rowE s 125 (oneE s 6 f) t = R0 at *
  match R0 with
  | .error (ec, ek) =>
    unfold RowP thrown at KR
    go_wp2_with fail
    refine KR.out.mono ?_
    rintro e w4 ⟨rfl, t4⟩
    have T4 := hid (Touch.trans (S := fun k => k = b) (T0.out.mono (fun _ _ e => e.elim)) t4 (fun i hi e => by have := HLW.out; omega))
    clear t4 KR
    go_wp2
    refine ⟨rfl, ?_⟩
    rw [← HX.out]
    exact ⟨rfl, T4.out⟩
  | .ok (l, u) =>
  unfold RowP at KR
  go_wp2_with fail
  refine KR.out.mono ?_
  rintro e w4 ⟨rfl, v2, v3, cs, B, h4, t4⟩
  obtain ⟨a2, c2, hv2⟩ := own_shape h4.keys
  obtain ⟨a3, c3, hv3⟩ := own_shape h4.kids
  subst hv2
  subst hv3
  have H4 := hid h4
  have X4 := hid ((t4.block r (lt_of_block X2'.out) (fun e => by have := HLW.out; omega)).trans X2'.out)
  have T4 := hid (Touch.trans (S := fun k => k = b) (T0.out.mono (fun _ _ e => e.elim)) t4 (fun i hi e => by have := HLW.out; omega))
  clear h4 t4 KR X2' H0 T0 B0 cb
  obtain ⟨⟨q0, q1, q2, q3⟩, _⟩ := cells4 H4.out.obj
  obtain ⟨⟨r0, r1, r2, r3⟩, ⟨g0, g1, g2, g3⟩⟩ := cells4 X4.out
  generalize hn2 : (kyL 6 l).length = n2 at *
  generalize hn3 : cs.length = n3 at *
  have HN2 := hid hn2
  have HN3 := hid hn3
  clear hn2 hn3
  go_wp2
  refine bodyPost_ret (results_c rfl _ _ r 36 _ (0, 0) _ rfl (jfour_set X4.out _ _ _ _) Tryd.underlying36 rfl (by kernel_rfl)) rfl ?_
  have TF := touch_four (S := fun k => k = r) (g := r) (Touch.refl _ w4) (fun _ => rfl) 0 1 2 3 (.int .i64 6) (.string ⟨#[]⟩) (.slice a2 n2 c2) (.slice a3 n3 c3)
  obtain ⟨tv, hB⟩ := H4.out.tree
  rw [← HX.out]
  refine ⟨6, ⟨#[]⟩, a2, n2, c2, a3, n3, c3, _, rfl, tv.kept TF (fun g e e2 => ?_), fun g e => ?_, ?_, jfour_touch T4.out HLW.out.1 _ _ _ _⟩
  · have := hB g e
    have := HLW.out
    omega
  · have := hB g e
    have := HLW.out
    have := TF.size
    exact ⟨by omega, by omega⟩
  · exact (TF.block b H4.out.ps.lt (by have := HLW.out; omega)).trans H4.out.ps
end Go.Proofs.YtjpmjcadnnglnaaDoor

/- A parser of JSON: null, false, true; conditions: as told. -/
namespace Go.Proofs.YtjpmjcadnnglnaaDoor
open Go.RowKit
open Go.Lib

theorem valP_leaf {s : ByteArray} {b d u : Nat} {w w' : World} {k : Int} {t : ByteArray} (h : Ps w' b s u d) (T : Touch (fun k => k = b) w w') : ValP s b d w (.ok (.node k t [] [], u)) (.returned (.agg #[.int .i64 k, .string t, .slice none 0 0, .slice none 0 0])) w' :=
  ⟨k, t, none, 0, 0, none, 0, 0, fun _ => False, rfl, TV.leaf _ _ _ _, fun _ e => e.elim, h, T⟩
set_option maxRecDepth 100000 in
set_option maxHeartbeats 4000000 in
theorem bare_null (b : Nat) (s : ByteArray) (t d : Nat) (w : World) (h : Ps w b s t d) (hs : s.size ≤ 1048576) (ht : t ≤ s.size) (htb : Tabs w) (hn : lk s t = 110) :
    Calls Tryd.prog 45 #[.pointer (some ⟨b, 0, none⟩)] w fun e w' => ValP s b d w (wordE s [110, 117, 108, 108] 0 t) e w' := by
  have T0 := hid ((Touch.refl (fun _ => False) w).alloc (.cells #[.int .i64 0, .string ⟨#[]⟩, .slice none 0 0, .slice none 0 0] 36))
  have H0 := hid (h.new T0.out)
  have B0 := hid (jfour_new (w := w) (.int .i64 0) (.string ⟨#[]⟩) (.slice none 0 0) (.slice none 0 0) 36)
  have HBW := hid h.lt
  have KL := hid (look_any b s t d _ H0.out hs ht)
  have KN := hid (fun w' (hp : Ps w' b s t d) => need_any b s ⟨#[110, 117, 108, 108]⟩ t d w' hp hs ht (by decide))
  rw [show needE s (⟨#[110, 117, 108, 108]⟩ : ByteArray).data.toList t = needE s [110, 117, 108, 108] t from rfl] at KN
  have TB := hid (htb.new T0.out)
  rw [hn] at KL
  obtain ⟨X, hX⟩ : ∃ X, X = wordE s [110, 117, 108, 108] 0 t := ⟨_, rfl⟩
  have HX := hid hX.symm
  rw [← hX]
  clear h htb hX
  go_enter Tryd.func45, Tryd.ntmps45
  go_wp2_with fail
  refine KL.out.mono ?_
  rintro e w1 ⟨rfl, t1⟩
  have H1 := hid (H0.out.new t1)
  have T1 := hid (T0.out.trans t1 (fun _ _ e => e))
  have TB1 := hid (TB.out.new t1)
  have B1 := hid ((t1.block w.heap.size (lt_of_block B0.out) id).trans B0.out)
  clear t1 KL H0 B0 T0
  obtain ⟨q, hq⟩ : ∃ q, q = w.heap.size := ⟨_, rfl⟩
  rw [← hq] at B1 ⊢
  have HQ := hid (show w.heap.size ≤ q ∧ b < q from ⟨by omega, by have := HBW.out; omega⟩)
  clear hq HBW
  have HQ1 := hid (lt_of_block B1.out)
  have TS1 := hid T1.out.size
  unfold wordE at HX
  have KN1 := hid (KN.out w1 H1.out)
  clear KN TB TB1
  generalize needE s [110, 117, 108, 108] t = R at *
  match R with
  | .error k =>
    unfold NeedR thrown at KN1
    go_wp2_with fail
    refine KN1.out.mono ?_
    rintro e w2 ⟨rfl, hp, tt⟩
    have TE := hid (Touch.trans (S := fun k => k = b) (T1.out.mono (fun _ _ e => e.elim)) tt (fun _ _ e => e))
    clear hp tt KN1
    go_wp2
    refine ⟨rfl, ?_⟩
    rw [← HX.out]
    exact ⟨rfl, TE.out⟩
  | .ok u =>
    unfold NeedR at KN1
    go_wp2_with fail
    refine KN1.out.mono ?_
    rintro e w2 ⟨rfl, hp, tt⟩
    have HE := hid hp
    have TE := hid (Touch.trans (S := fun k => k = b) (T1.out.mono (fun _ _ e => e.elim)) tt (fun _ _ e => e))
    have B2 := hid ((tt.block q (lt_of_block B1.out) (fun e => by have := HQ.out; omega)).trans B1.out)
    clear hp tt KN1 B1 T1 H1
    obtain ⟨⟨k0, k1, k2, k3⟩, ⟨f0, f1, f2, f3⟩⟩ := cells4 B2.out
    go_wp2
    refine bodyPost_ret (results_c rfl _ _ q 36 _ (0, 0) _ rfl (jfour_set B2.out _ _ _ _) Tryd.underlying36 rfl (by kernel_rfl)) rfl ?_
    rw [← HX.out]
    exact valP_leaf (HE.out.four (by have := HQ.out; omega) _ _ _ _) (jfour_touch TE.out HQ.out.1 _ _ _ _)
set_option maxRecDepth 100000 in
set_option maxHeartbeats 4000000 in
theorem bare_false (b : Nat) (s : ByteArray) (t d : Nat) (w : World) (h : Ps w b s t d) (hs : s.size ≤ 1048576) (ht : t ≤ s.size) (htb : Tabs w) (hn : lk s t = 102) :
    Calls Tryd.prog 45 #[.pointer (some ⟨b, 0, none⟩)] w fun e w' => ValP s b d w (wordE s [102, 97, 108, 115, 101] 1 t) e w' := by
  have T0 := hid ((Touch.refl (fun _ => False) w).alloc (.cells #[.int .i64 0, .string ⟨#[]⟩, .slice none 0 0, .slice none 0 0] 36))
  have H0 := hid (h.new T0.out)
  have B0 := hid (jfour_new (w := w) (.int .i64 0) (.string ⟨#[]⟩) (.slice none 0 0) (.slice none 0 0) 36)
  have HBW := hid h.lt
  have KL := hid (look_any b s t d _ H0.out hs ht)
  have KN := hid (fun w' (hp : Ps w' b s t d) => need_any b s ⟨#[102, 97, 108, 115, 101]⟩ t d w' hp hs ht (by decide))
  rw [show needE s (⟨#[102, 97, 108, 115, 101]⟩ : ByteArray).data.toList t = needE s [102, 97, 108, 115, 101] t from rfl] at KN
  have TB := hid (htb.new T0.out)
  rw [hn] at KL
  obtain ⟨X, hX⟩ : ∃ X, X = wordE s [102, 97, 108, 115, 101] 1 t := ⟨_, rfl⟩
  have HX := hid hX.symm
  rw [← hX]
  clear h htb hX
  go_enter Tryd.func45, Tryd.ntmps45
  go_wp2_with fail
  refine KL.out.mono ?_
  rintro e w1 ⟨rfl, t1⟩
  have H1 := hid (H0.out.new t1)
  have T1 := hid (T0.out.trans t1 (fun _ _ e => e))
  have TB1 := hid (TB.out.new t1)
  have B1 := hid ((t1.block w.heap.size (lt_of_block B0.out) id).trans B0.out)
  clear t1 KL H0 B0 T0
  obtain ⟨q, hq⟩ : ∃ q, q = w.heap.size := ⟨_, rfl⟩
  rw [← hq] at B1 ⊢
  have HQ := hid (show w.heap.size ≤ q ∧ b < q from ⟨by omega, by have := HBW.out; omega⟩)
  clear hq HBW
  have HQ1 := hid (lt_of_block B1.out)
  have TS1 := hid T1.out.size
  unfold wordE at HX
  have KN1 := hid (KN.out w1 H1.out)
  clear KN TB TB1
  generalize needE s [102, 97, 108, 115, 101] t = R at *
  match R with
  | .error k =>
    unfold NeedR thrown at KN1
    go_wp2_with fail
    refine KN1.out.mono ?_
    rintro e w2 ⟨rfl, hp, tt⟩
    have TE := hid (Touch.trans (S := fun k => k = b) (T1.out.mono (fun _ _ e => e.elim)) tt (fun _ _ e => e))
    clear hp tt KN1
    go_wp2
    refine ⟨rfl, ?_⟩
    rw [← HX.out]
    exact ⟨rfl, TE.out⟩
  | .ok u =>
    unfold NeedR at KN1
    go_wp2_with fail
    refine KN1.out.mono ?_
    rintro e w2 ⟨rfl, hp, tt⟩
    have HE := hid hp
    have TE := hid (Touch.trans (S := fun k => k = b) (T1.out.mono (fun _ _ e => e.elim)) tt (fun _ _ e => e))
    have B2 := hid ((tt.block q (lt_of_block B1.out) (fun e => by have := HQ.out; omega)).trans B1.out)
    clear hp tt KN1 B1 T1 H1
    obtain ⟨⟨k0, k1, k2, k3⟩, ⟨f0, f1, f2, f3⟩⟩ := cells4 B2.out
    go_wp2
    refine bodyPost_ret (results_c rfl _ _ q 36 _ (0, 0) _ rfl (jfour_set B2.out _ _ _ _) Tryd.underlying36 rfl (by kernel_rfl)) rfl ?_
    rw [← HX.out]
    exact valP_leaf (HE.out.four (by have := HQ.out; omega) _ _ _ _) (jfour_touch TE.out HQ.out.1 _ _ _ _)
set_option maxRecDepth 100000 in
set_option maxHeartbeats 4000000 in
theorem bare_true (b : Nat) (s : ByteArray) (t d : Nat) (w : World) (h : Ps w b s t d) (hs : s.size ≤ 1048576) (ht : t ≤ s.size) (htb : Tabs w) (hn : lk s t = 116) :
    Calls Tryd.prog 45 #[.pointer (some ⟨b, 0, none⟩)] w fun e w' => ValP s b d w (wordE s [116, 114, 117, 101] 2 t) e w' := by
  have T0 := hid ((Touch.refl (fun _ => False) w).alloc (.cells #[.int .i64 0, .string ⟨#[]⟩, .slice none 0 0, .slice none 0 0] 36))
  have H0 := hid (h.new T0.out)
  have B0 := hid (jfour_new (w := w) (.int .i64 0) (.string ⟨#[]⟩) (.slice none 0 0) (.slice none 0 0) 36)
  have HBW := hid h.lt
  have KL := hid (look_any b s t d _ H0.out hs ht)
  have KN := hid (fun w' (hp : Ps w' b s t d) => need_any b s ⟨#[116, 114, 117, 101]⟩ t d w' hp hs ht (by decide))
  rw [show needE s (⟨#[116, 114, 117, 101]⟩ : ByteArray).data.toList t = needE s [116, 114, 117, 101] t from rfl] at KN
  have TB := hid (htb.new T0.out)
  rw [hn] at KL
  obtain ⟨X, hX⟩ : ∃ X, X = wordE s [116, 114, 117, 101] 2 t := ⟨_, rfl⟩
  have HX := hid hX.symm
  rw [← hX]
  clear h htb hX
  go_enter Tryd.func45, Tryd.ntmps45
  go_wp2_with fail
  refine KL.out.mono ?_
  rintro e w1 ⟨rfl, t1⟩
  have H1 := hid (H0.out.new t1)
  have T1 := hid (T0.out.trans t1 (fun _ _ e => e))
  have TB1 := hid (TB.out.new t1)
  have B1 := hid ((t1.block w.heap.size (lt_of_block B0.out) id).trans B0.out)
  clear t1 KL H0 B0 T0
  obtain ⟨q, hq⟩ : ∃ q, q = w.heap.size := ⟨_, rfl⟩
  rw [← hq] at B1 ⊢
  have HQ := hid (show w.heap.size ≤ q ∧ b < q from ⟨by omega, by have := HBW.out; omega⟩)
  clear hq HBW
  have HQ1 := hid (lt_of_block B1.out)
  have TS1 := hid T1.out.size
  unfold wordE at HX
  have KN1 := hid (KN.out w1 H1.out)
  clear KN TB TB1
  generalize needE s [116, 114, 117, 101] t = R at *
  match R with
  | .error k =>
    unfold NeedR thrown at KN1
    go_wp2_with fail
    refine KN1.out.mono ?_
    rintro e w2 ⟨rfl, hp, tt⟩
    have TE := hid (Touch.trans (S := fun k => k = b) (T1.out.mono (fun _ _ e => e.elim)) tt (fun _ _ e => e))
    clear hp tt KN1
    go_wp2
    refine ⟨rfl, ?_⟩
    rw [← HX.out]
    exact ⟨rfl, TE.out⟩
  | .ok u =>
    unfold NeedR at KN1
    go_wp2_with fail
    refine KN1.out.mono ?_
    rintro e w2 ⟨rfl, hp, tt⟩
    have HE := hid hp
    have TE := hid (Touch.trans (S := fun k => k = b) (T1.out.mono (fun _ _ e => e.elim)) tt (fun _ _ e => e))
    have B2 := hid ((tt.block q (lt_of_block B1.out) (fun e => by have := HQ.out; omega)).trans B1.out)
    clear hp tt KN1 B1 T1 H1
    obtain ⟨⟨k0, k1, k2, k3⟩, ⟨f0, f1, f2, f3⟩⟩ := cells4 B2.out
    go_wp2
    refine bodyPost_ret (results_c rfl _ _ q 36 _ (0, 0) _ rfl (jfour_set B2.out _ _ _ _) Tryd.underlying36 rfl (by kernel_rfl)) rfl ?_
    rw [← HX.out]
    exact valP_leaf (HE.out.four (by have := HQ.out; omega) _ _ _ _) (jfour_touch TE.out HQ.out.1 _ _ _ _)
end Go.Proofs.YtjpmjcadnnglnaaDoor
