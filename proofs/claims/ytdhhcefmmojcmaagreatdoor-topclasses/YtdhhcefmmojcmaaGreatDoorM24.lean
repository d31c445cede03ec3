/- Texts of this proof, one behind the other: what each says stands ahead of it. -/
import Derived.Test.YtdhhcefmmojcmaaGreatDoorM21
import Derived.Test.YtdhhcefmmojcmaaGreatDoorXj
/- A parser of patterns: an escape outside of brackets; conditions: as told. -/
namespace Go.Proofs.YtdhhcefmmojcmaaGreatDoor
open Go.RowKit
open Go.Lib

def bordC (n : Int) : Cel := ⟨n, none, 0, 0, false, 0, 0, false, 0, ⟨#[]⟩, none, 0, 0⟩
theorem bord_tn (w : World) (B : Nat → Prop) (n : Int) : TN w B (bordC n) (.border n) :=
  TN.mk (bordC n) [] [] [] (sr_nil w) (fun g e => by cases e) (cl_nil w) (fun g e => by cases e) rfl (fun i c x e _ => by simp at e)
theorem cls_tn {w : World} {B : Nat → Prop} {f : Fl} {a : Option Addr} {n c : Nat} {l : List R2} (h : w.ownsRow 0 60 2 (.slice a n c) l.length (flatR l)) (hb : ∀ g, (Value.slice a n c).ownBlock = some g → B g) : TN w B (clsC f.i a n c) (.cls f l) :=
  TN.mk (clsC f.i a n c) l [] [] h hb (cl_nil w) (fun g e => by cases e) rfl (fun i c x e _ => by simp at e)
def optN : PR (Nd × St) → PR (Option Nd × St)
  | .error e => .error e
  | .ok (x, st) => .ok (some x, st)
set_option maxRecDepth 100000 in
set_option maxHeartbeats 8000000 in
theorem stroke_65 (b : Nat) (X : Px) (k0 k : Nat) (f : Fl) (vn : Value) (ns : List ByteArray) (op : Nat) (w : World) (h : PS w b X k f vn ns op) (hk : k ≤ 1024)  (h65 : lkR X.R k = 65) :
    Calls Tryz.prog 112 #[.pointer (some ⟨b, 0, none⟩), .int .i64 (k0 : Nat)] w fun e w' => NodP b X vn op (fun _ => False) w (.ok (.border 2, ⟨k + 1, f, ns⟩)) e w' := by
  have TA := hid (((Touch.refl (fun _ => False) w).alloc (.cells Cel.zero.arr 28)).mono (S' := fun g => g = b) (fun _ _ e => e.elim))
  have QB := hid (block_new w Cel.zero.arr 28)
  have HP := hid (h.new ((Touch.refl (fun _ => False) w).alloc (.cells Cel.zero.arr 28)))
  have hlt := h.lt
  clear h
  go_enter Tryz.func112, Tryz.ntmps112
  go_upto_region 1 with fail
  unfold Cel.zero Cel.arr at TA QB HP
  generalize w.alloc (.cells _ 28) = w1 at *
  obtain ⟨q, hq⟩ : ∃ q, q = w.heap.size := ⟨_, rfl⟩
  have HQ := hid (show w.heap.size ≤ q ∧ b < q by omega)
  rw [← hq] at QB ⊢
  clear hq
  go_wp2_with fail
  refine (took1_y 65 HP.out (by omega) h65).mono ?_
  rintro e ws ⟨rfl, hp, tt⟩
  replace QB := hid ((tt.block q (lt_of_block QB.out) (fun e => by have := HQ.out; omega)).trans QB.out)
  replace HP := hid hp
  replace TA := hid (TA.out.trans tt (fun _ _ e => e))
  clear hp tt h65
  go_wp2_with (first | refine wpList_store_row rfl 28 _ _ rfl q _ rfl rfl 28 _ QB.out info28 (by rfl) (Cel.one (bordC 2)) ?_ | fail)
  refine bodyPost_ret (results_c rfl _ _ q 28 _ (0, 0) _ rfl (setRow_heap _ q _ _ 28 (0, 0) QB.out) Tryz.underlying28 rfl (by kernel_rfl)) rfl ?_
  exact ⟨bordC 2, vn, rfl, bord_tn _ _ _, HP.out.row (by have := HQ.out; omega) QB.out, .inl rfl, (TA.out.trans (touch_row _ _ _) (fun i hi e => by have := HQ.out; omega)).mono (fun _ _ e => .inl e)⟩
set_option maxRecDepth 100000 in
set_option maxHeartbeats 8000000 in
theorem stroke_122 (b : Nat) (X : Px) (k0 k : Nat) (f : Fl) (vn : Value) (ns : List ByteArray) (op : Nat) (w : World) (h : PS w b X k f vn ns op) (hk : k ≤ 1024) (h65 : lkR X.R k ≠ 65) (h122 : lkR X.R k = 122) :
    Calls Tryz.prog 112 #[.pointer (some ⟨b, 0, none⟩), .int .i64 (k0 : Nat)] w fun e w' => NodP b X vn op (fun _ => False) w (.ok (.border 3, ⟨k + 1, f, ns⟩)) e w' := by
  have TA := hid (((Touch.refl (fun _ => False) w).alloc (.cells Cel.zero.arr 28)).mono (S' := fun g => g = b) (fun _ _ e => e.elim))
  have QB := hid (block_new w Cel.zero.arr 28)
  have HP := hid (h.new ((Touch.refl (fun _ => False) w).alloc (.cells Cel.zero.arr 28)))
  have hlt := h.lt
  clear h
  go_enter Tryz.func112, Tryz.ntmps112
  go_upto_region 1 with fail
  unfold Cel.zero Cel.arr at TA QB HP
  generalize w.alloc (.cells _ 28) = w1 at *
  obtain ⟨q, hq⟩ : ∃ q, q = w.heap.size := ⟨_, rfl⟩
  have HQ := hid (show w.heap.size ≤ q ∧ b < q by omega)
  rw [← hq] at QB ⊢
  clear hq
  go_wp2_with fail
  refine (took1_n 65 HP.out (by omega) h65).mono ?_
  rintro e ws ⟨rfl, hp, tt⟩
  replace QB := hid ((tt.block q (lt_of_block QB.out) (fun e => by have := HQ.out; omega)).trans QB.out)
  replace HP := hid hp
  replace TA := hid (TA.out.trans tt (fun _ _ e => e))
  clear hp tt h65
  go_wp2_with fail
  refine (took1_y 122 HP.out (by omega) h122).mono ?_
  rintro e ws ⟨rfl, hp, tt⟩
  replace QB := hid ((tt.block q (lt_of_block QB.out) (fun e => by have := HQ.out; omega)).trans QB.out)
  replace HP := hid hp
  replace TA := hid (TA.out.trans tt (fun _ _ e => e))
  clear hp tt h122
  go_wp2_with (first | refine wpList_store_row rfl 28 _ _ rfl q _ rfl rfl 28 _ QB.out info28 (by rfl) (Cel.one (bordC 3)) ?_ | fail)
  refine bodyPost_ret (results_c rfl _ _ q 28 _ (0, 0) _ rfl (setRow_heap _ q _ _ 28 (0, 0) QB.out) Tryz.underlying28 rfl (by kernel_rfl)) rfl ?_
  exact ⟨bordC 3, vn, rfl, bord_tn _ _ _, HP.out.row (by have := HQ.out; omega) QB.out, .inl rfl, (TA.out.trans (touch_row _ _ _) (fun i hi e => by have := HQ.out; omega)).mono (fun _ _ e => .inl e)⟩
set_option maxRecDepth 100000 in
set_option maxHeartbeats 8000000 in
theorem stroke_98 (b : Nat) (X : Px) (k0 k : Nat) (f : Fl) (vn : Value) (ns : List ByteArray) (op : Nat) (w : World) (h : PS w b X k f vn ns op) (hk : k ≤ 1024) (h65 : lkR X.R k ≠ 65) (h122 : lkR X.R k ≠ 122) (h98 : lkR X.R k = 98) :
    Calls Tryz.prog 112 #[.pointer (some ⟨b, 0, none⟩), .int .i64 (k0 : Nat)] w fun e w' => NodP b X vn op (fun _ => False) w (.ok (.border 6, ⟨k + 1, f, ns⟩)) e w' := by
  have TA := hid (((Touch.refl (fun _ => False) w).alloc (.cells Cel.zero.arr 28)).mono (S' := fun g => g = b) (fun _ _ e => e.elim))
  have QB := hid (block_new w Cel.zero.arr 28)
  have HP := hid (h.new ((Touch.refl (fun _ => False) w).alloc (.cells Cel.zero.arr 28)))
  have hlt := h.lt
  clear h
  go_enter Tryz.func112, Tryz.ntmps112
  go_upto_region 1 with fail
  unfold Cel.zero Cel.arr at TA QB HP
  generalize w.alloc (.cells _ 28) = w1 at *
  obtain ⟨q, hq⟩ : ∃ q, q = w.heap.size := ⟨_, rfl⟩
  have HQ := hid (show w.heap.size ≤ q ∧ b < q by omega)
  rw [← hq] at QB ⊢
  clear hq
  go_wp2_with fail
  refine (took1_n 65 HP.out (by omega) h65).mono ?_
  rintro e ws ⟨rfl, hp, tt⟩
  replace QB := hid ((tt.block q (lt_of_block QB.out) (fun e => by have := HQ.out; omega)).trans QB.out)
  replace HP := hid hp
  replace TA := hid (TA.out.trans tt (fun _ _ e => e))
  clear hp tt h65
  go_wp2_with fail
  refine (took1_n 122 HP.out (by omega) h122).mono ?_
  rintro e ws ⟨rfl, hp, tt⟩
  replace QB := hid ((tt.block q (lt_of_block QB.out) (fun e => by have := HQ.out; omega)).trans QB.out)
  replace HP := hid hp
  replace TA := hid (TA.out.trans tt (fun _ _ e => e))
  clear hp tt h122
  go_wp2_with fail
  refine (took1_y 98 HP.out (by omega) h98).mono ?_
  rintro e ws ⟨rfl, hp, tt⟩
  replace QB := hid ((tt.block q (lt_of_block QB.out) (fun e => by have := HQ.out; omega)).trans QB.out)
  replace HP := hid hp
  replace TA := hid (TA.out.trans tt (fun _ _ e => e))
  clear hp tt h98
  go_wp2_with (first | refine wpList_store_row rfl 28 _ _ rfl q _ rfl rfl 28 _ QB.out info28 (by rfl) (Cel.one (bordC 6)) ?_ | fail)
  refine bodyPost_ret (results_c rfl _ _ q 28 _ (0, 0) _ rfl (setRow_heap _ q _ _ 28 (0, 0) QB.out) Tryz.underlying28 rfl (by kernel_rfl)) rfl ?_
  exact ⟨bordC 6, vn, rfl, bord_tn _ _ _, HP.out.row (by have := HQ.out; omega) QB.out, .inl rfl, (TA.out.trans (touch_row _ _ _) (fun i hi e => by have := HQ.out; omega)).mono (fun _ _ e => .inl e)⟩
set_option maxRecDepth 100000 in
set_option maxHeartbeats 8000000 in
theorem stroke_66 (b : Nat) (X : Px) (k0 k : Nat) (f : Fl) (vn : Value) (ns : List ByteArray) (op : Nat) (w : World) (h : PS w b X k f vn ns op) (hk : k ≤ 1024) (h65 : lkR X.R k ≠ 65) (h122 : lkR X.R k ≠ 122) (h98 : lkR X.R k ≠ 98) (h66 : lkR X.R k = 66) :
    Calls Tryz.prog 112 #[.pointer (some ⟨b, 0, none⟩), .int .i64 (k0 : Nat)] w fun e w' => NodP b X vn op (fun _ => False) w (.ok (.border 7, ⟨k + 1, f, ns⟩)) e w' := by
  have TA := hid (((Touch.refl (fun _ => False) w).alloc (.cells Cel.zero.arr 28)).mono (S' := fun g => g = b) (fun _ _ e => e.elim))
  have QB := hid (block_new w Cel.zero.arr 28)
  have HP := hid (h.new ((Touch.refl (fun _ => False) w).alloc (.cells Cel.zero.arr 28)))
  have hlt := h.lt
  clear h
  go_enter Tryz.func112, Tryz.ntmps112
  go_upto_region 1 with fail
  unfold Cel.zero Cel.arr at TA QB HP
  generalize w.alloc (.cells _ 28) = w1 at *
  obtain ⟨q, hq⟩ : ∃ q, q = w.heap.size := ⟨_, rfl⟩
  have HQ := hid (show w.heap.size ≤ q ∧ b < q by omega)
  rw [← hq] at QB ⊢
  clear hq
  go_wp2_with fail
  refine (took1_n 65 HP.out (by omega) h65).mono ?_
  rintro e ws ⟨rfl, hp, tt⟩
  replace QB := hid ((tt.block q (lt_of_block QB.out) (fun e => by have := HQ.out; omega)).trans QB.out)
  replace HP := hid hp
  replace TA := hid (TA.out.trans tt (fun _ _ e => e))
  clear hp tt h65
  go_wp2_with fail
  refine (took1_n 122 HP.out (by omega) h122).mono ?_
  rintro e ws ⟨rfl, hp, tt⟩
  replace QB := hid ((tt.block q (lt_of_block QB.out) (fun e => by have := HQ.out; omega)).trans QB.out)
  replace HP := hid hp
  replace TA := hid (TA.out.trans tt (fun _ _ e => e))
  clear hp tt h122
  go_wp2_with fail
  refine (took1_n 98 HP.out (by omega) h98).mono ?_
  rintro e ws ⟨rfl, hp, tt⟩
  replace QB := hid ((tt.block q (lt_of_block QB.out) (fun e => by have := HQ.out; omega)).trans QB.out)
  replace HP := hid hp
  replace TA := hid (TA.out.trans tt (fun _ _ e => e))
  clear hp tt h98
  go_wp2_with fail
  refine (took1_y 66 HP.out (by omega) h66).mono ?_
  rintro e ws ⟨rfl, hp, tt⟩
  replace QB := hid ((tt.block q (lt_of_block QB.out) (fun e => by have := HQ.out; omega)).trans QB.out)
  replace HP := hid hp
  replace TA := hid (TA.out.trans tt (fun _ _ e => e))
  clear hp tt h66
  go_wp2_with (first | refine wpList_store_row rfl 28 _ _ rfl q _ rfl rfl 28 _ QB.out info28 (by rfl) (Cel.one (bordC 7)) ?_ | fail)
  refine bodyPost_ret (results_c rfl _ _ q 28 _ (0, 0) _ rfl (setRow_heap _ q _ _ 28 (0, 0) QB.out) Tryz.underlying28 rfl (by kernel_rfl)) rfl ?_
  exact ⟨bordC 7, vn, rfl, bord_tn _ _ _, HP.out.row (by have := HQ.out; omega) QB.out, .inl rfl, (TA.out.trans (touch_row _ _ _) (fun i hi e => by have := HQ.out; omega)).mono (fun _ _ e => .inl e)⟩
def clsN (f : Fl) (ns : List ByteArray) : PR (List R2 × Option Int × Nat) → PR (Nd × St)
  | .error e => .error e
  | .ok (l, _, k1) => .ok (.cls f (cnR l), ⟨k1, f, ns⟩)
set_option maxRecDepth 100000 in
set_option maxHeartbeats 8000000 in
theorem stroke_c (b : Nat) (X : Px) (k0 k : Nat) (f : Fl) (vn : Value) (ns : List ByteArray) (op : Nat) (w : World) (h : PS w b X k f vn ns op) (hX : X.Good) (hk : k ≤ X.R.length) (hk0 : k0 ≤ X.R.length) (h65 : lkR X.R k ≠ 65) (h122 : lkR X.R k ≠ 122) (h98 : lkR X.R k ≠ 98) (h66 : lkR X.R k ≠ 66) :
    Calls Tryz.prog 112 #[.pointer (some ⟨b, 0, none⟩), .int .i64 (k0 : Nat)] w fun e w' => NodP b X vn op (fun _ => False) w (clsN f ns (escF X.R tableN k0 k)) e w' := by
  have TA := hid (((Touch.refl (fun _ => False) w).alloc (.cells Cel.zero.arr 28)).mono (S' := fun g => g = b) (fun _ _ e => e.elim))
  have QB := hid (block_new w Cel.zero.arr 28)
  have HP := hid (h.new ((Touch.refl (fun _ => False) w).alloc (.cells Cel.zero.arr 28)))
  have hlt := h.lt
  have KE := hid (fun w' hp => escape_any b X k0 k f vn ns op w' hp hX hk hk0)
  have hk : k ≤ 1024 := by have := hX.lenR; omega
  obtain ⟨A, hA⟩ : ∃ A, A = clsN f ns (escF X.R tableN k0 k) := ⟨_, rfl⟩
  have HA := hid hA.symm
  rw [← hA]
  clear h hA hk0
  generalize escF X.R tableN k0 k = M at *
  go_enter Tryz.func112, Tryz.ntmps112
  go_upto_region 1 with fail
  unfold Cel.zero Cel.arr at TA QB HP
  generalize w.alloc (.cells _ 28) = w1 at *
  obtain ⟨q, hq⟩ : ∃ q, q = w.heap.size := ⟨_, rfl⟩
  have HQ := hid (show w.heap.size ≤ q ∧ b < q by omega)
  rw [← hq] at QB ⊢
  clear hq
  go_wp2_with fail
  refine (took1_n 65 HP.out (by omega) h65).mono ?_
  rintro e ws ⟨rfl, hp, tt⟩
  replace QB := hid ((tt.block q (lt_of_block QB.out) (fun e => by have := HQ.out; omega)).trans QB.out)
  replace HP := hid hp
  replace TA := hid (TA.out.trans tt (fun _ _ e => e))
  clear hp tt h65
  go_wp2_with fail
  refine (took1_n 122 HP.out (by omega) h122).mono ?_
  rintro e ws ⟨rfl, hp, tt⟩
  replace QB := hid ((tt.block q (lt_of_block QB.out) (fun e => by have := HQ.out; omega)).trans QB.out)
  replace HP := hid hp
  replace TA := hid (TA.out.trans tt (fun _ _ e => e))
  clear hp tt h122
  go_wp2_with fail
  refine (took1_n 98 HP.out (by omega) h98).mono ?_
  rintro e ws ⟨rfl, hp, tt⟩
  replace QB := hid ((tt.block q (lt_of_block QB.out) (fun e => by have := HQ.out; omega)).trans QB.out)
  replace HP := hid hp
  replace TA := hid (TA.out.trans tt (fun _ _ e => e))
  clear hp tt h98
  go_wp2_with fail
  refine (took1_n 66 HP.out (by omega) h66).mono ?_
  rintro e ws ⟨rfl, hp, tt⟩
  replace QB := hid ((tt.block q (lt_of_block QB.out) (fun e => by have := HQ.out; omega)).trans QB.out)
  replace HP := hid hp
  replace TA := hid (TA.out.trans tt (fun _ _ e => e))
  clear hp tt h66
  have KE2 := hid (KE.out _ HP.out)
  clear KE
  match M with
  | .error (ec, ej) =>
    unfold EscP thrown at KE2
    go_wp2_with fail
    refine KE2.out.mono ?_
    rintro e w2 ⟨rfl, tt⟩
    replace TA := hid (TA.out.trans tt (fun _ _ e => e))
    clear tt KE2
    go_wp2
    refine ⟨rfl, ?_⟩
    rw [← HA.out]
    exact ⟨rfl, TA.out.mono (fun _ _ e => .inl e)⟩
  | .ok (l, o, k1) =>
    unfold EscP at KE2
    simp only at KE2
    generalize Option.isSome o = oo at KE2
    go_wp2_with fail
    refine KE2.out.mono ?_
    rintro e w2 ⟨v, rfl, ho, hn, hp, tt⟩
    obtain ⟨a2, c2, hv⟩ := own_shape ho
    subst hv
    have O := hid ho
    have N := hid (fun g e => Nat.le_trans TA.out.size (hn g e))
    replace QB := hid ((tt.block q (lt_of_block QB.out) (fun e => by have := HQ.out; omega)).trans QB.out)
    replace HP := hid hp
    replace TA := hid (TA.out.trans tt (fun _ _ e => e))
    have K5 := hid (ndclass_any b X k1 f vn ns op a2 (cnR l).length c2 w2 hp)
    clear ho hn hp tt KE2
    go_wp2_with fail
    refine K5.out.mono ?_
    rintro e w3 ⟨rfl, t3⟩
    replace QB := hid ((t3.block q (lt_of_block QB.out) id).trans QB.out)
    replace HP := hid (HP.out.new t3)
    replace O := hid (rowKept O.out t3 (fun _ _ e => e))
    replace TA := hid (TA.out.trans t3 (fun _ _ e => e.elim))
    clear t3 K5
    unfold clsC Cel.arr
    go_wp2_with (first | refine wpList_store_row rfl 28 _ _ rfl q _ rfl rfl 28 _ QB.out info28 (by rfl) (Cel.one (clsC f.i a2 (cnR l).length c2)) ?_ | fail)
    refine bodyPost_ret (results_c rfl _ _ q 28 _ (0, 0) _ rfl (setRow_heap _ q _ _ 28 (0, 0) QB.out) Tryz.underlying28 rfl (by kernel_rfl)) rfl ?_
    rw [← HA.out]
    have TR := touch_row w3 q (clsC f.i a2 (cnR l).length c2).arr
    have O2 := rowKept O.out TR (fun g e s => by
      subst s
      obtain ⟨cs, fr, hh⟩ := own_type O.out g e
      rw [QB.out] at hh
      cases hh)
    exact ⟨clsC f.i a2 (cnR l).length c2, vn, rfl, cls_tn O2 (fun g e => .inr ⟨N.out g e, by obtain ⟨cs, fr, hh⟩ := own_type O2 g e; exact lt_of_block hh⟩), HP.out.row (by have := HQ.out; omega) QB.out, .inl rfl, (TA.out.trans TR (fun i hi e => by have := HQ.out; omega)).mono (fun _ _ e => .inl e)⟩
/-- An escape outside of brackets: the place is behind the stroke. -/
theorem escaped_any (b : Nat) (X : Px) (k : Nat) (f : Fl) (vn : Value) (ns : List ByteArray) (op : Nat) (w : World) (h : PS w b X (k + 1) f vn ns op) (hX : X.Good) (hk : k + 1 ≤ X.R.length) :
    ∃ r, strokeF X.R tableN ⟨k, f, ns⟩ = optN r ∧ Calls Tryz.prog 112 #[.pointer (some ⟨b, 0, none⟩), .int .i64 (k : Nat)] w fun e w' => NodP b X vn op (fun _ => False) w r e w' := by
  have hk2 : k + 1 ≤ 1024 := by have := hX.lenR; omega
  unfold strokeF strokeC
  by_cases h65 : lkR X.R (k + 1) = 65
  · exact ⟨.ok (.border 2, ⟨k + 1 + 1, f, ns⟩), by rw [if_pos h65]; rfl, stroke_65 b X k (k + 1) f vn ns op w h hk2  h65⟩
  rw [if_neg h65]
  by_cases h122 : lkR X.R (k + 1) = 122
  · exact ⟨.ok (.border 3, ⟨k + 1 + 1, f, ns⟩), by rw [if_pos h122]; rfl, stroke_122 b X k (k + 1) f vn ns op w h hk2 h65 h122⟩
  rw [if_neg h122]
  by_cases h98 : lkR X.R (k + 1) = 98
  · exact ⟨.ok (.border 6, ⟨k + 1 + 1, f, ns⟩), by rw [if_pos h98]; rfl, stroke_98 b X k (k + 1) f vn ns op w h hk2 h65 h122 h98⟩
  rw [if_neg h98]
  by_cases h66 : lkR X.R (k + 1) = 66
  · exact ⟨.ok (.border 7, ⟨k + 1 + 1, f, ns⟩), by rw [if_pos h66]; rfl, stroke_66 b X k (k + 1) f vn ns op w h hk2 h65 h122 h98 h66⟩
  rw [if_neg h66]
  refine ⟨_, ?_, stroke_c b X k (k + 1) f vn ns op w h hX hk (by omega) h65 h122 h98 h66⟩
  dsimp only
  cases escF X.R tableN k (k + 1) with
  | error e => rfl
  | ok r => rfl
end Go.Proofs.YtdhhcefmmojcmaaGreatDoor

/- A parser of patterns: nodes put together; conditions: as told. -/
namespace Go.Proofs.YtdhhcefmmojcmaaGreatDoor
open Go.RowKit
open Go.Lib

def catC (kind : Int) (a : Option Addr) (n c : Nat) : Cel := ⟨kind, none, 0, 0, false, 0, 0, false, 0, ⟨#[]⟩, a, n, c⟩
set_option maxRecDepth 100000 in
set_option maxHeartbeats 8000000 in
theorem toge_0 (kind : Int) (a : Option Addr) (c : Nat) (w : World) :
    Calls Tryz.prog 70 #[.int .i64 kind, .slice a 0 c] w fun e w' => e = .returned (.agg (bordC 0).arr) ∧ Touch (fun _ => False) w w' := by
  have TA := hid ((Touch.refl (fun _ => False) w).alloc (.cells Cel.zero.arr 28))
  have QB := hid (block_new w Cel.zero.arr 28)
  go_enter Tryz.func70, Tryz.ntmps70
  go_upto_region 1 with fail
  unfold Cel.zero Cel.arr at TA QB
  generalize w.alloc (.cells _ 28) = w1 at *
  obtain ⟨q, hq⟩ : ∃ q, q = w.heap.size := ⟨_, rfl⟩
  have HQ := hid (show w.heap.size ≤ q by omega)
  rw [← hq] at QB ⊢
  clear hq
  go_wp2_with (first | refine wpList_store_row rfl 28 _ _ rfl q _ rfl rfl 28 _ QB.out info28 (by rfl) (Cel.one (bordC 0)) ?_ | fail)
  refine bodyPost_ret (results_c rfl _ _ q 28 _ (0, 0) _ rfl (setRow_heap _ q _ _ 28 (0, 0) QB.out) Tryz.underlying28 rfl (by kernel_rfl)) rfl ?_
  exact ⟨rfl, TA.out.trans (touch_row _ _ _) (fun i hi e => by have := HQ.out; omega)⟩
set_option maxRecDepth 100000 in
set_option maxHeartbeats 8000000 in
theorem toge_2 (kind : Int) (a : Option Addr) (n c : Nat) (w : World) (hn : 2 ≤ n) :
    Calls Tryz.prog 70 #[.int .i64 kind, .slice a n c] w fun e w' => e = .returned (.agg (catC kind a n c).arr) ∧ Touch (fun _ => False) w w' := by
  have TA := hid ((Touch.refl (fun _ => False) w).alloc (.cells Cel.zero.arr 28))
  have QB := hid (block_new w Cel.zero.arr 28)
  have h0 : ((n : Int) == 0) = false := beq_eq_false_iff_ne.2 (by omega)
  have h1 : ((n : Int) == 1) = false := beq_eq_false_iff_ne.2 (by omega)
  go_enter Tryz.func70, Tryz.ntmps70
  go_upto_region 1 with fail
  unfold Cel.zero Cel.arr at TA QB
  generalize w.alloc (.cells _ 28) = w1 at *
  obtain ⟨q, hq⟩ : ∃ q, q = w.heap.size := ⟨_, rfl⟩
  have HQ := hid (show w.heap.size ≤ q by omega)
  rw [← hq] at QB ⊢
  clear hq
  go_wp2_with (first | refine wpList_store_row rfl 28 _ _ rfl q _ rfl rfl 28 _ QB.out info28 (by rfl) (Cel.one (catC kind a n c)) ?_ | fail)
  refine bodyPost_ret (results_c rfl _ _ q 28 _ (0, 0) _ rfl (setRow_heap _ q _ _ 28 (0, 0) QB.out) Tryz.underlying28 rfl (by kernel_rfl)) rfl ?_
  exact ⟨rfl, TA.out.trans (touch_row _ _ _) (fun i hi e => by have := HQ.out; omega)⟩
set_option maxRecDepth 100000 in
set_option maxHeartbeats 8000000 in
theorem toge_1 (kind : Int) (g cc : Nat) (c : Cel) (w : World) (hg : g < w.heap.size) (hc : ∀ j u, c.list[j]? = some u → w.cell? ⟨g, j, none⟩ = some u) :
    Calls Tryz.prog 70 #[.int .i64 kind, .slice (some ⟨g, 0, none⟩) 1 cc] w fun e w' => e = .returned (.agg c.arr) ∧ Touch (fun _ => False) w w' := by
  obtain ⟨ck, sa, sn, sc, fo, mi, ma, la, ca, nm, ka, kn, kc⟩ := c
  have TA := hid ((Touch.refl (fun _ => False) w).alloc (.cells Cel.zero.arr 28))
  have QB := hid (block_new w Cel.zero.arr 28)
  have d0 := ((TA.out.cell (p := ⟨g, 0, none⟩) hg id)).trans (hc 0 _ rfl)
  have d1 := ((TA.out.cell (p := ⟨g, 1, none⟩) hg id)).trans (hc 1 _ rfl)
  have d2 := ((TA.out.cell (p := ⟨g, 2, none⟩) hg id)).trans (hc 2 _ rfl)
  have d3 := ((TA.out.cell (p := ⟨g, 3, none⟩) hg id)).trans (hc 3 _ rfl)
  have d4 := ((TA.out.cell (p := ⟨g, 4, none⟩) hg id)).trans (hc 4 _ rfl)
  have d5 := ((TA.out.cell (p := ⟨g, 5, none⟩) hg id)).trans (hc 5 _ rfl)
  have d6 := ((TA.out.cell (p := ⟨g, 6, none⟩) hg id)).trans (hc 6 _ rfl)
  have d7 := ((TA.out.cell (p := ⟨g, 7, none⟩) hg id)).trans (hc 7 _ rfl)
  have d8 := ((TA.out.cell (p := ⟨g, 8, none⟩) hg id)).trans (hc 8 _ rfl)
  go_enter Tryz.func70, Tryz.ntmps70
  go_upto_region 1 with fail
  unfold Cel.zero Cel.arr at TA QB d0 d1 d2 d3 d4 d5 d6 d7 d8
  generalize w.alloc (.cells _ 28) = w1 at *
  obtain ⟨q, hq⟩ : ∃ q, q = w.heap.size := ⟨_, rfl⟩
  have HQ := hid (show w.heap.size ≤ q by omega)
  rw [← hq] at QB ⊢
  clear hq hc hg
  go_wp2_with (first | refine wpList_store_row rfl 28 _ _ rfl q _ rfl rfl 28 _ QB.out info28 (by rfl) (Cel.one ⟨ck, sa, sn, sc, fo, mi, ma, la, ca, nm, ka, kn, kc⟩) ?_ | fail)
  refine bodyPost_ret (results_c rfl _ _ q 28 _ (0, 0) _ rfl (setRow_heap _ q _ _ 28 (0, 0) QB.out) Tryz.underlying28 rfl (by kernel_rfl)) rfl ?_
  exact ⟨rfl, TA.out.trans (touch_row _ _ _) (fun i hi e => by have := HQ.out; omega)⟩
theorem together_any (kind : Int) (v : Value) (cs : List Cel) (l : List Nd) (B : Nat → Prop) (w : World) (hv : CL w v cs) (hb : ∀ g, v.ownBlock = some g → B g) (hl : cs.length = l.length)
    (ht : ∀ (i : Nat) (c : Cel) (x : Nd), cs[i]? = some c → l[i]? = some x → TN w B c x) :
    Calls Tryz.prog 70 #[.int .i64 kind, v] w fun e w' => ∃ c, e = .returned (.agg c.arr) ∧ TN w' B c (togeF kind l) ∧ Touch (fun _ => False) w w' := by
  obtain ⟨a, cap, rfl⟩ := own_shape hv
  match l, cs, hl with
  | [], [], _ => exact (toge_0 kind a cap w).mono (fun e w' h => ⟨_, h.1, bord_tn _ _ 0, h.2⟩)
  | [x], [c], _ =>
    rcases hv.2 with ⟨h0, _⟩ | ⟨g, cap2, cur, hv2, _, hh, _⟩
    · cases h0
    · cases hv2
      refine (toge_1 kind g cap c w (lt_of_block hh) (fun j u e => ?_)).mono (fun e w' h => ⟨c, h.1, (ht 0 c x rfl rfl).new h.2, h.2⟩)
      have := hv.cells (g := g) rfl j u (by simpa using e)
      rwa [add_g] at this
  | x :: y :: l, c :: d :: cs, hl => exact (toge_2 kind a _ cap w (by simp)).mono (fun e w' h => ⟨_, h.1, TN.mk (catC kind a _ cap) [] (x :: y :: l) (c :: d :: cs) (sr_nil w') (fun g e => by cases e) (rowKept hv h.2 (fun _ _ e => e)) hb hl (fun i c' x' e1 e2 => (ht i c' x' e1 e2).new h.2), h.2⟩)
end Go.Proofs.YtdhhcefmmojcmaaGreatDoor
