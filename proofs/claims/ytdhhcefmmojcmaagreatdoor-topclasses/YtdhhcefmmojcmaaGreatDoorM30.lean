/- Texts of this proof, one behind the other: what each says stands ahead of it. -/
import Derived.Test.YtdhhcefmmojcmaaGreatDoorM28
import Derived.Test.YtdhhcefmmojcmaaGreatDoorM29
/- A parser of patterns: brackets; conditions: as told. -/
namespace Go.Proofs.YtdhhcefmmojcmaaGreatDoor
open Go.RowKit
open Go.Lib

set_option maxRecDepth 100000 in
set_option maxHeartbeats 8000000 in
theorem brack_nest (b : Nat) (X : Px) (k : Nat) (f : Fl) (vn : Value) (ns : List ByteArray) (op : Nat) (w : World) (h : PS w b X (k + 1) f vn ns 32) (hX : X.Good) (hk : k + 1 ≤ X.R.length) :
    Calls Tryz.prog 109 #[.pointer (some ⟨b, 0, none⟩), .int .i64 (k : Nat)] w fun e w' => OptP b X vn op (fun _ => False) w (.error (21, k)) e w' := by
  have TA := hid (((Touch.refl (fun _ => False) w).alloc (.cells Cel.zero.arr 28)).mono (S' := fun g => g = b) (fun _ _ e => e.elim))
  have QB := hid (block_new w Cel.zero.arr 28)
  have HP := hid (h.new ((Touch.refl (fun _ => False) w).alloc (.cells Cel.zero.arr 28)))
  have hlt := h.lt
  have hk2 : k + 1 ≤ 1024 := by have := hX.lenR; omega
  have KW := hid (fun w' hp => wrong_any b X (k + 1) f vn ns 32 21 k w' hp (by have := hX.lenP; omega))
  clear h
  go_enter Tryz.func109, Tryz.ntmps109
  go_upto_region 1 with fail
  unfold Cel.zero Cel.arr at TA QB HP
  generalize w.alloc (.cells _ 28) = w1 at *
  obtain ⟨q, hq⟩ : ∃ q, q = w.heap.size := ⟨_, rfl⟩
  have HQ := hid (show w.heap.size ≤ q ∧ b < q by omega)
  rw [← hq] at QB ⊢
  clear hq hlt
  have c11 := HP.out.c11
  go_wp2_with fail
  refine (KW.out _ HP.out).mono ?_
  rintro e w9 ⟨rfl, t9⟩
  replace TA := hid (TA.out.trans t9 (fun _ _ e => e.elim))
  clear t9 KW
  go_wp2
  exact ⟨rfl, rfl, TA.out.mono (fun _ _ e => .inl e)⟩
set_option maxRecDepth 100000 in
set_option maxHeartbeats 8000000 in
theorem brack_group (b : Nat) (X : Px) (k : Nat) (f : Fl) (vn : Value) (ns : List ByteArray) (op : Nat) (r : PR (Nd × St)) (w : World) (h : PS w b X (k + 1) f vn ns op) (hX : X.Good) (hk : k + 1 ≤ X.R.length) (hop : op ≤ 31) (h63 : lkR X.R (k + 1) ≠ 63)
    (KG : ∀ w', PS w' b X (k + 1) f vn ns op → Calls Tryz.prog 127 #[.pointer (some ⟨b, 0, none⟩), .int .i64 (k : Nat), .string ⟨#[]⟩] w' fun e w'' => NodP b X vn op (fun _ => False) w' r e w'') :
    Calls Tryz.prog 109 #[.pointer (some ⟨b, 0, none⟩), .int .i64 (k : Nat)] w fun e w' => OptP b X vn op (fun _ => False) w (optN r) e w' := by
  have TA := hid (((Touch.refl (fun _ => False) w).alloc (.cells Cel.zero.arr 28)).mono (S' := fun g => g = b) (fun _ _ e => e.elim))
  have QB := hid (block_new w Cel.zero.arr 28)
  have HP := hid (h.new ((Touch.refl (fun _ => False) w).alloc (.cells Cel.zero.arr 28)))
  have hlt := h.lt
  have hk2 : k + 1 ≤ 1024 := by have := hX.lenR; omega
  have hopn : ((op : Int) == 32) = false := beq_eq_false_iff_ne.2 (by omega)
  have KI := hid KG
  obtain ⟨A, hA⟩ : ∃ A, A = optN r := ⟨_, rfl⟩
  rw [← hA]
  have HA := hid hA
  clear KG hA
  clear h
  go_enter Tryz.func109, Tryz.ntmps109
  go_upto_region 1 with fail
  unfold Cel.zero Cel.arr at TA QB HP
  generalize w.alloc (.cells _ 28) = w1 at *
  obtain ⟨q, hq⟩ : ∃ q, q = w.heap.size := ⟨_, rfl⟩
  have HQ := hid (show w.heap.size ≤ q ∧ b < q by omega)
  rw [← hq] at QB ⊢
  clear hq hlt
  have c11 := HP.out.c11
  go_wp2_with fail
  refine (took2_n 63 80 HP.out (by omega) (fun e => h63 e.1)).mono ?_
  rintro e w2 ⟨rfl, hp, tt⟩
  replace QB := hid ((tt.block q (lt_of_block QB.out) (fun e => by have := HQ.out; omega)).trans QB.out)
  replace HP := hid hp
  replace TA := hid (TA.out.trans tt (fun _ _ e => e))
  clear hp tt
  go_wp2_with fail
  refine (took2_n 63 58 HP.out (by omega) (fun e => h63 e.1)).mono ?_
  rintro e w2b ⟨rfl, hp, tt⟩
  replace QB := hid ((tt.block q (lt_of_block QB.out) (fun e => by have := HQ.out; omega)).trans QB.out)
  replace HP := hid hp
  replace TA := hid (TA.out.trans tt (fun _ _ e => e))
  clear hp tt
  go_wp2_with fail
  refine (took1_n 63 HP.out (by omega) h63).mono ?_
  rintro e w2c ⟨rfl, hp, tt⟩
  replace QB := hid ((tt.block q (lt_of_block QB.out) (fun e => by have := HQ.out; omega)).trans QB.out)
  replace HP := hid hp
  replace TA := hid (TA.out.trans tt (fun _ _ e => e))
  clear hp tt
  clear c11
  have KE2 := hid (KI.out _ HP.out)
  clear KI
  match r with
  | .error (ec, ej) =>
    unfold NodP thrown at KE2
    go_wp2_with fail
    refine KE2.out.mono ?_
    rintro e w3 ⟨rfl, tt⟩
    replace TA := hid ((TA.out.mono (S' := fun g => g = b ∨ vn.ownBlock = some g) (fun _ _ e => .inl e)).trans tt (fun _ _ e => e))
    clear tt KE2
    go_wp2
    refine ⟨rfl, ?_⟩
    rw [HA.out]
    exact ⟨rfl, TA.out⟩
  | .ok (x, st) =>
    unfold NodP at KE2
    simp only at KE2
    go_wp2_with fail
    refine KE2.out.mono ?_
    rintro e w3 ⟨c, vn', rfl, ht, hp, hn, tt⟩
    have HT := hid ht
    have HN := hid (show vn'.ownBlock = vn.ownBlock ∨ ∃ g, vn'.ownBlock = some g ∧ w.heap.size ≤ g from by rcases hn with e | ⟨g, e, hg⟩; exact .inl e; exact .inr ⟨g, e, Nat.le_trans TA.out.size hg⟩)
    have HNQ := hid (show ¬ vn.ownBlock = some q from HP.out.notN QB.out (by decide))
    have HW2 := hid (lt_of_block QB.out)
    replace QB := hid ((tt.block q (lt_of_block QB.out) (fun e => by have := HQ.out; rcases e with e | e; omega; exact HNQ.out e)).trans QB.out)
    have SZ := hid TA.out.size
    replace HP := hid hp
    have HTT := hid (TA.out.mono (S' := fun g => g = b ∨ vn.ownBlock = some g) (fun _ _ e => .inl e) |>.trans tt (fun _ _ e => e))
    clear ht hp hn tt KE2 TA
    obtain ⟨ck, sa, sn, sc, fo, mi, ma, la, ca, nm, ka, kn, kc⟩ := c
    unfold Cel.arr
    go_wp2_with (first | refine wpList_store_row rfl 28 _ _ rfl q _ rfl rfl 28 _ QB.out info28 (by rfl) (Cel.one ⟨ck, sa, sn, sc, fo, mi, ma, la, ca, nm, ka, kn, kc⟩) ?_ | fail)
    refine bodyPost_ret (results_ct rfl _ _ q 28 _ (0, 0) _ rfl (setRow_heap _ q _ _ 28 (0, 0) QB.out) Tryz.underlying28 rfl (by kernel_rfl)) rfl ?_
    have TR := touch_row w3 q #[.int .i64 ck, .slice sa sn sc, .bool fo, .int .i64 mi, .int .i64 ma, .bool la, .int .i64 ca, .string nm, .slice ka kn kc]
    have HS3 := TR.size
    rw [HA.out]
    exact ⟨⟨ck, sa, sn, sc, fo, mi, ma, la, ca, nm, ka, kn, kc⟩, vn', rfl, (HT.out.kept TR (fun g hg e => by have := HW2.out; have := HQ.out; rcases hg with hg | hg; exact hg.elim; omega)).more (fun g hg => .inr (by have := SZ.out; rcases hg with hg | hg; exact hg.elim; omega)), HP.out.row (by have := HQ.out; omega) QB.out, HN.out, HTT.out.trans TR (fun i hi e => by have := HQ.out; omega)⟩
set_option maxRecDepth 100000 in
set_option maxHeartbeats 8000000 in
theorem brack_name_no (b : Nat) (X : Px) (k : Nat) (f : Fl) (vn : Value) (ns : List ByteArray) (op : Nat) (ec ej : Nat) (w : World) (h : PS w b X (k + 1) f vn ns op) (hX : X.Good) (hk : k + 1 ≤ X.R.length) (hop : op ≤ 31) (h63 : lkR X.R (k + 1) = 63) (h80 : lkR X.R (k + 2) = 80)
    (KN : ∀ w', PS w' b X (k + 3) f vn ns op → Calls Tryz.prog 128 #[.pointer (some ⟨b, 0, none⟩), .int .i64 (k : Nat)] w' fun e w'' => NamP b X f vn ns op w' (.error (ec, ej)) e w'') :
    Calls Tryz.prog 109 #[.pointer (some ⟨b, 0, none⟩), .int .i64 (k : Nat)] w fun e w' => OptP b X vn op (fun _ => False) w (.error (ec, ej)) e w' := by
  have TA := hid (((Touch.refl (fun _ => False) w).alloc (.cells Cel.zero.arr 28)).mono (S' := fun g => g = b) (fun _ _ e => e.elim))
  have QB := hid (block_new w Cel.zero.arr 28)
  have HP := hid (h.new ((Touch.refl (fun _ => False) w).alloc (.cells Cel.zero.arr 28)))
  have hlt := h.lt
  have hk2 : k + 1 ≤ 1024 := by have := hX.lenR; omega
  have hopn : ((op : Int) == 32) = false := beq_eq_false_iff_ne.2 (by omega)
  have KI := hid KN
  clear KN
  clear h
  go_enter Tryz.func109, Tryz.ntmps109
  go_upto_region 1 with fail
  unfold Cel.zero Cel.arr at TA QB HP
  generalize w.alloc (.cells _ 28) = w1 at *
  obtain ⟨q, hq⟩ : ∃ q, q = w.heap.size := ⟨_, rfl⟩
  have HQ := hid (show w.heap.size ≤ q ∧ b < q by omega)
  rw [← hq] at QB ⊢
  clear hq hlt
  have c11 := HP.out.c11
  go_wp2_with fail
  refine (took2_y 63 80 HP.out (by omega) h63 h80).mono ?_
  rintro e w2 ⟨rfl, hp, tt⟩
  replace QB := hid ((tt.block q (lt_of_block QB.out) (fun e => by have := HQ.out; omega)).trans QB.out)
  replace HP := hid hp
  replace TA := hid (TA.out.trans tt (fun _ _ e => e))
  clear hp tt
  clear c11
  have KE2 := hid (KI.out _ HP.out)
  clear KI
  unfold NamP thrown at KE2
  go_wp2_with fail
  refine KE2.out.mono ?_
  rintro e w3 ⟨rfl, tt⟩
  replace TA := hid (TA.out.trans tt (fun _ _ e => e))
  clear tt KE2
  go_wp2
  exact ⟨rfl, rfl, TA.out.mono (fun _ _ e => .inl e)⟩
set_option maxRecDepth 100000 in
set_option maxHeartbeats 8000000 in
theorem brack_name (b : Nat) (X : Px) (k : Nat) (f : Fl) (vn : Value) (ns : List ByteArray) (op : Nat) (name : ByteArray) (k1 : Nat) (r : PR (Nd × St)) (w : World) (h : PS w b X (k + 1) f vn ns op) (hX : X.Good) (hk : k + 1 ≤ X.R.length) (hop : op ≤ 31) (h63 : lkR X.R (k + 1) = 63) (h80 : lkR X.R (k + 2) = 80)
    (KN : ∀ w', PS w' b X (k + 3) f vn ns op → Calls Tryz.prog 128 #[.pointer (some ⟨b, 0, none⟩), .int .i64 (k : Nat)] w' fun e w'' => NamP b X f vn ns op w' (.ok (name, k1)) e w'')
    (KG : ∀ w', PS w' b X k1 f vn ns op → Calls Tryz.prog 127 #[.pointer (some ⟨b, 0, none⟩), .int .i64 (k : Nat), .string name] w' fun e w'' => NodP b X vn op (fun _ => False) w' r e w'') :
    Calls Tryz.prog 109 #[.pointer (some ⟨b, 0, none⟩), .int .i64 (k : Nat)] w fun e w' => OptP b X vn op (fun _ => False) w (optN r) e w' := by
  have TA := hid (((Touch.refl (fun _ => False) w).alloc (.cells Cel.zero.arr 28)).mono (S' := fun g => g = b) (fun _ _ e => e.elim))
  have QB := hid (block_new w Cel.zero.arr 28)
  have HP := hid (h.new ((Touch.refl (fun _ => False) w).alloc (.cells Cel.zero.arr 28)))
  have hlt := h.lt
  have hk2 : k + 1 ≤ 1024 := by have := hX.lenR; omega
  have hopn : ((op : Int) == 32) = false := beq_eq_false_iff_ne.2 (by omega)
  have KI := hid KG
  obtain ⟨A, hA⟩ : ∃ A, A = optN r := ⟨_, rfl⟩
  rw [← hA]
  have HA := hid hA
  have KJ := hid KN
  clear KG hA KN
  clear h
  go_enter Tryz.func109, Tryz.ntmps109
  go_upto_region 1 with fail
  unfold Cel.zero Cel.arr at TA QB HP
  generalize w.alloc (.cells _ 28) = w1 at *
  obtain ⟨q, hq⟩ : ∃ q, q = w.heap.size := ⟨_, rfl⟩
  have HQ := hid (show w.heap.size ≤ q ∧ b < q by omega)
  rw [← hq] at QB ⊢
  clear hq hlt
  have c11 := HP.out.c11
  go_wp2_with fail
  refine (took2_y 63 80 HP.out (by omega) h63 h80).mono ?_
  rintro e w2 ⟨rfl, hp, tt⟩
  replace QB := hid ((tt.block q (lt_of_block QB.out) (fun e => by have := HQ.out; omega)).trans QB.out)
  replace HP := hid hp
  replace TA := hid (TA.out.trans tt (fun _ _ e => e))
  clear hp tt
  clear c11
  have KJ2 := hid (KJ.out _ HP.out)
  unfold NamP at KJ2
  simp only at KJ2
  clear KJ
  go_wp2_with fail
  refine KJ2.out.mono ?_
  rintro e w2n ⟨rfl, hp, tt⟩
  replace QB := hid ((tt.block q (lt_of_block QB.out) (fun e => by have := HQ.out; omega)).trans QB.out)
  replace HP := hid hp
  replace TA := hid (TA.out.trans tt (fun _ _ e => e))
  clear hp tt KJ2
  have KE2 := hid (KI.out _ HP.out)
  clear KI
  match r with
  | .error (ec, ej) =>
    unfold NodP thrown at KE2
    go_wp2_with fail
    refine KE2.out.mono ?_
    rintro e w3 ⟨rfl, tt⟩
    replace TA := hid ((TA.out.mono (S' := fun g => g = b ∨ vn.ownBlock = some g) (fun _ _ e => .inl e)).trans tt (fun _ _ e => e))
    clear tt KE2
    go_wp2
    refine ⟨rfl, ?_⟩
    rw [HA.out]
    exact ⟨rfl, TA.out⟩
  | .ok (x, st) =>
    unfold NodP at KE2
    simp only at KE2
    go_wp2_with fail
    refine KE2.out.mono ?_
    rintro e w3 ⟨c, vn', rfl, ht, hp, hn, tt⟩
    have HT := hid ht
    have HN := hid (show vn'.ownBlock = vn.ownBlock ∨ ∃ g, vn'.ownBlock = some g ∧ w.heap.size ≤ g from by rcases hn with e | ⟨g, e, hg⟩; exact .inl e; exact .inr ⟨g, e, Nat.le_trans TA.out.size hg⟩)
    have HNQ := hid (show ¬ vn.ownBlock = some q from HP.out.notN QB.out (by decide))
    have HW2 := hid (lt_of_block QB.out)
    replace QB := hid ((tt.block q (lt_of_block QB.out) (fun e => by have := HQ.out; rcases e with e | e; omega; exact HNQ.out e)).trans QB.out)
    have SZ := hid TA.out.size
    replace HP := hid hp
    have HTT := hid (TA.out.mono (S' := fun g => g = b ∨ vn.ownBlock = some g) (fun _ _ e => .inl e) |>.trans tt (fun _ _ e => e))
    clear ht hp hn tt KE2 TA
    obtain ⟨ck, sa, sn, sc, fo, mi, ma, la, ca, nm, ka, kn, kc⟩ := c
    unfold Cel.arr
    go_wp2_with (first | refine wpList_store_row rfl 28 _ _ rfl q _ rfl rfl 28 _ QB.out info28 (by rfl) (Cel.one ⟨ck, sa, sn, sc, fo, mi, ma, la, ca, nm, ka, kn, kc⟩) ?_ | fail)
    refine bodyPost_ret (results_ct rfl _ _ q 28 _ (0, 0) _ rfl (setRow_heap _ q _ _ 28 (0, 0) QB.out) Tryz.underlying28 rfl (by kernel_rfl)) rfl ?_
    have TR := touch_row w3 q #[.int .i64 ck, .slice sa sn sc, .bool fo, .int .i64 mi, .int .i64 ma, .bool la, .int .i64 ca, .string nm, .slice ka kn kc]
    have HS3 := TR.size
    rw [HA.out]
    exact ⟨⟨ck, sa, sn, sc, fo, mi, ma, la, ca, nm, ka, kn, kc⟩, vn', rfl, (HT.out.kept TR (fun g hg e => by have := HW2.out; have := HQ.out; rcases hg with hg | hg; exact hg.elim; omega)).more (fun g hg => .inr (by have := SZ.out; rcases hg with hg | hg; exact hg.elim; omega)), HP.out.row (by have := HQ.out; omega) QB.out, HN.out, HTT.out.trans TR (fun i hi e => by have := HQ.out; omega)⟩
end Go.Proofs.YtdhhcefmmojcmaaGreatDoor

/- A parser of patterns: brackets without a group; conditions: as told. -/
namespace Go.Proofs.YtdhhcefmmojcmaaGreatDoor
open Go.RowKit
open Go.Lib

set_option maxRecDepth 100000 in
set_option maxHeartbeats 8000000 in
theorem brack_with (b : Nat) (X : Px) (k : Nat) (f : Fl) (vn : Value) (ns : List ByteArray) (op : Nat) (r : PR (Nd × St)) (w : World) (h : PS w b X (k + 1) f vn ns op) (hX : X.Good) (hk : k + 1 ≤ X.R.length) (hop : op ≤ 31) (h63 : lkR X.R (k + 1) = 63) (h58 : lkR X.R (k + 2) = 58)
    (KG : ∀ w', PS w' b X (k + 3) f vn ns op → Calls Tryz.prog 129 #[.pointer (some ⟨b, 0, none⟩), .int .i64 (k : Nat), .agg f.arr] w' fun e w'' => NodP b X vn op (fun _ => False) w' r e w'') :
    Calls Tryz.prog 109 #[.pointer (some ⟨b, 0, none⟩), .int .i64 (k : Nat)] w fun e w' => OptP b X vn op (fun _ => False) w (optN r) e w' := by
  have TA := hid (((Touch.refl (fun _ => False) w).alloc (.cells Cel.zero.arr 28)).mono (S' := fun g => g = b) (fun _ _ e => e.elim))
  have QB := hid (block_new w Cel.zero.arr 28)
  have HP := hid (h.new ((Touch.refl (fun _ => False) w).alloc (.cells Cel.zero.arr 28)))
  have hlt := h.lt
  have hk2 : k + 1 ≤ 1024 := by have := hX.lenR; omega
  have hopn : ((op : Int) == 32) = false := beq_eq_false_iff_ne.2 (by omega)
  have KI := hid KG
  obtain ⟨A, hA⟩ : ∃ A, A = optN r := ⟨_, rfl⟩
  rw [← hA]
  have HA := hid hA
  clear KG hA
  clear h
  go_enter Tryz.func109, Tryz.ntmps109
  go_upto_region 1 with fail
  unfold Cel.zero Cel.arr at TA QB HP
  generalize w.alloc (.cells _ 28) = w1 at *
  obtain ⟨q, hq⟩ : ∃ q, q = w.heap.size := ⟨_, rfl⟩
  have HQ := hid (show w.heap.size ≤ q ∧ b < q by omega)
  rw [← hq] at QB ⊢
  clear hq hlt
  have c11 := HP.out.c11
  go_wp2_with fail
  refine (took2_n 63 80 HP.out (by omega) (fun e => by have := e.2; rw [show k + 1 + 1 = k + 2 from rfl, h58] at this; exact absurd this (by decide))).mono ?_
  rintro e w2 ⟨rfl, hp, tt⟩
  replace QB := hid ((tt.block q (lt_of_block QB.out) (fun e => by have := HQ.out; omega)).trans QB.out)
  replace HP := hid hp
  replace TA := hid (TA.out.trans tt (fun _ _ e => e))
  clear hp tt
  go_wp2_with fail
  refine (took2_y 63 58 HP.out (by omega) h63 h58).mono ?_
  rintro e w2b ⟨rfl, hp, tt⟩
  replace QB := hid ((tt.block q (lt_of_block QB.out) (fun e => by have := HQ.out; omega)).trans QB.out)
  replace HP := hid hp
  replace TA := hid (TA.out.trans tt (fun _ _ e => e))
  clear hp tt
  clear c11
  have KE2 := hid (KI.out _ HP.out)
  clear KI
  obtain ⟨⟨c6, c7, c8, c9⟩, f6, f7, f8, f9⟩ := HP.out.c69
  clear f6 f7 f8 f9
  unfold Fl.arr at KE2
  generalize f.i = fi at *
  generalize f.m = fm at *
  generalize f.s = fs at *
  generalize f.u = fu at *
  match r with
  | .error (ec, ej) =>
    unfold NodP thrown at KE2
    go_wp2_with fail
    refine KE2.out.mono ?_
    rintro e w3 ⟨rfl, tt⟩
    replace TA := hid ((TA.out.mono (S' := fun g => g = b ∨ vn.ownBlock = some g) (fun _ _ e => .inl e)).trans tt (fun _ _ e => e))
    clear tt KE2
    go_wp2
    refine ⟨rfl, ?_⟩
    rw [HA.out]
    exact ⟨rfl, TA.out⟩
  | .ok (x, st) =>
    unfold NodP at KE2
    simp only at KE2
    go_wp2_with fail
    refine KE2.out.mono ?_
    rintro e w3 ⟨c, vn', rfl, ht, hp, hn, tt⟩
    have HT := hid ht
    have HN := hid (show vn'.ownBlock = vn.ownBlock ∨ ∃ g, vn'.ownBlock = some g ∧ w.heap.size ≤ g from by rcases hn with e | ⟨g, e, hg⟩; exact .inl e; exact .inr ⟨g, e, Nat.le_trans TA.out.size hg⟩)
    have HNQ := hid (show ¬ vn.ownBlock = some q from HP.out.notN QB.out (by decide))
    have HW2 := hid (lt_of_block QB.out)
    replace QB := hid ((tt.block q (lt_of_block QB.out) (fun e => by have := HQ.out; rcases e with e | e; omega; exact HNQ.out e)).trans QB.out)
    have SZ := hid TA.out.size
    replace HP := hid hp
    have HTT := hid (TA.out.mono (S' := fun g => g = b ∨ vn.ownBlock = some g) (fun _ _ e => .inl e) |>.trans tt (fun _ _ e => e))
    clear ht hp hn tt KE2 TA c6 c7 c8 c9
    obtain ⟨ck, sa, sn, sc, fo, mi, ma, la, ca, nm, ka, kn, kc⟩ := c
    unfold Cel.arr
    go_wp2_with (first | refine wpList_store_row rfl 28 _ _ rfl q _ rfl rfl 28 _ QB.out info28 (by rfl) (Cel.one ⟨ck, sa, sn, sc, fo, mi, ma, la, ca, nm, ka, kn, kc⟩) ?_ | fail)
    refine bodyPost_ret (results_ct rfl _ _ q 28 _ (0, 0) _ rfl (setRow_heap _ q _ _ 28 (0, 0) QB.out) Tryz.underlying28 rfl (by kernel_rfl)) rfl ?_
    have TR := touch_row w3 q #[.int .i64 ck, .slice sa sn sc, .bool fo, .int .i64 mi, .int .i64 ma, .bool la, .int .i64 ca, .string nm, .slice ka kn kc]
    have HS3 := TR.size
    rw [HA.out]
    exact ⟨⟨ck, sa, sn, sc, fo, mi, ma, la, ca, nm, ka, kn, kc⟩, vn', rfl, (HT.out.kept TR (fun g hg e => by have := HW2.out; have := HQ.out; rcases hg with hg | hg; exact hg.elim; omega)).more (fun g hg => .inr (by have := SZ.out; rcases hg with hg | hg; exact hg.elim; omega)), HP.out.row (by have := HQ.out; omega) QB.out, HN.out, HTT.out.trans TR (fun i hi e => by have := HQ.out; omega)⟩
set_option maxRecDepth 100000 in
set_option maxHeartbeats 8000000 in
theorem brack_flags (b : Nat) (X : Px) (k : Nat) (f : Fl) (vn : Value) (ns : List ByteArray) (op : Nat) (A : PR (Option Nd × St)) (w : World) (h : PS w b X (k + 1) f vn ns op) (hX : X.Good) (hk : k + 1 ≤ X.R.length) (hop : op ≤ 31) (h63 : lkR X.R (k + 1) = 63) (h80 : lkR X.R (k + 2) ≠ 80) (h58 : lkR X.R (k + 2) ≠ 58)
    (KF : ∀ w', PS w' b X (k + 2) f vn ns op → Calls Tryz.prog 130 #[.pointer (some ⟨b, 0, none⟩), .int .i64 (k : Nat)] w' fun e w'' => OptP b X vn op (fun _ => False) w' A e w'') :
    Calls Tryz.prog 109 #[.pointer (some ⟨b, 0, none⟩), .int .i64 (k : Nat)] w fun e w' => OptP b X vn op (fun _ => False) w A e w' := by
  have TA := hid (((Touch.refl (fun _ => False) w).alloc (.cells Cel.zero.arr 28)).mono (S' := fun g => g = b) (fun _ _ e => e.elim))
  have QB := hid (block_new w Cel.zero.arr 28)
  have HP := hid (h.new ((Touch.refl (fun _ => False) w).alloc (.cells Cel.zero.arr 28)))
  have hlt := h.lt
  have hk2 : k + 1 ≤ 1024 := by have := hX.lenR; omega
  have hopn : ((op : Int) == 32) = false := beq_eq_false_iff_ne.2 (by omega)
  have KI := hid KF
  obtain ⟨M, hA⟩ : ∃ M, M = A := ⟨_, rfl⟩
  have HA := hid hA
  rw [← hA] at KI
  clear KF hA
  clear h
  go_enter Tryz.func109, Tryz.ntmps109
  go_upto_region 1 with fail
  unfold Cel.zero Cel.arr at TA QB HP
  generalize w.alloc (.cells _ 28) = w1 at *
  obtain ⟨q, hq⟩ : ∃ q, q = w.heap.size := ⟨_, rfl⟩
  have HQ := hid (show w.heap.size ≤ q ∧ b < q by omega)
  rw [← hq] at QB ⊢
  clear hq hlt
  have c11 := HP.out.c11
  go_wp2_with fail
  refine (took2_n 63 80 HP.out (by omega) (fun e => h80 e.2)).mono ?_
  rintro e w2 ⟨rfl, hp, tt⟩
  replace QB := hid ((tt.block q (lt_of_block QB.out) (fun e => by have := HQ.out; omega)).trans QB.out)
  replace HP := hid hp
  replace TA := hid (TA.out.trans tt (fun _ _ e => e))
  clear hp tt
  go_wp2_with fail
  refine (took2_n 63 58 HP.out (by omega) (fun e => h58 e.2)).mono ?_
  rintro e w2b ⟨rfl, hp, tt⟩
  replace QB := hid ((tt.block q (lt_of_block QB.out) (fun e => by have := HQ.out; omega)).trans QB.out)
  replace HP := hid hp
  replace TA := hid (TA.out.trans tt (fun _ _ e => e))
  clear hp tt
  go_wp2_with fail
  refine (took1_y 63 HP.out (by omega) h63).mono ?_
  rintro e w2c ⟨rfl, hp, tt⟩
  replace QB := hid ((tt.block q (lt_of_block QB.out) (fun e => by have := HQ.out; omega)).trans QB.out)
  replace HP := hid hp
  replace TA := hid (TA.out.trans tt (fun _ _ e => e))
  clear hp tt
  clear c11
  have KE2 := hid (KI.out _ HP.out)
  clear KI
  match M with
  | .error (ec, ej) =>
    unfold OptP thrown at KE2
    go_wp2_with fail
    refine KE2.out.mono ?_
    rintro e w3 ⟨rfl, tt⟩
    replace TA := hid ((TA.out.mono (S' := fun g => g = b ∨ vn.ownBlock = some g) (fun _ _ e => .inl e)).trans tt (fun _ _ e => e))
    clear tt KE2
    go_wp2
    refine ⟨rfl, ?_⟩
    rw [← HA.out]
    exact ⟨rfl, TA.out⟩
  | .ok (none, st) =>
    unfold OptP at KE2
    simp only at KE2
    go_wp2_with fail
    refine KE2.out.mono ?_
    rintro e w3 ⟨c, vn', rfl, hp, hn, tt⟩
    have HN := hid (show vn'.ownBlock = vn.ownBlock ∨ ∃ g, vn'.ownBlock = some g ∧ w.heap.size ≤ g from by rcases hn with e | ⟨g, e, hg⟩; exact .inl e; exact .inr ⟨g, e, Nat.le_trans TA.out.size hg⟩)
    have HNQ := hid (show ¬ vn.ownBlock = some q from HP.out.notN QB.out (by decide))
    have HW2 := hid (lt_of_block QB.out)
    replace QB := hid ((tt.block q (lt_of_block QB.out) (fun e => by have := HQ.out; rcases e with e | e; omega; exact HNQ.out e)).trans QB.out)
    have SZ := hid TA.out.size
    replace HP := hid hp
    have HTT := hid (TA.out.mono (S' := fun g => g = b ∨ vn.ownBlock = some g) (fun _ _ e => .inl e) |>.trans tt (fun _ _ e => e))
    clear hp hn tt KE2 TA
    obtain ⟨ck, sa, sn, sc, fo, mi, ma, la, ca, nm, ka, kn, kc⟩ := c
    unfold Cel.arr
    go_wp2_with (first | refine wpList_store_row rfl 28 _ _ rfl q _ rfl rfl 28 _ QB.out info28 (by rfl) (Cel.one ⟨ck, sa, sn, sc, fo, mi, ma, la, ca, nm, ka, kn, kc⟩) ?_ | fail)
    refine bodyPost_ret (results_ct rfl _ _ q 28 _ (0, 0) _ rfl (setRow_heap _ q _ _ 28 (0, 0) QB.out) Tryz.underlying28 rfl (by kernel_rfl)) rfl ?_
    have TR := touch_row w3 q #[.int .i64 ck, .slice sa sn sc, .bool fo, .int .i64 mi, .int .i64 ma, .bool la, .int .i64 ca, .string nm, .slice ka kn kc]
    have HS3 := TR.size
    rw [← HA.out]
    exact ⟨⟨ck, sa, sn, sc, fo, mi, ma, la, ca, nm, ka, kn, kc⟩, vn', rfl, HP.out.row (by have := HQ.out; omega) QB.out, HN.out, HTT.out.trans TR (fun i hi e => by have := HQ.out; omega)⟩
  | .ok (some x, st) =>
    unfold OptP at KE2
    simp only at KE2
    go_wp2_with fail
    refine KE2.out.mono ?_
    rintro e w3 ⟨c, vn', rfl, ht, hp, hn, tt⟩
    have HT := hid ht
    have HN := hid (show vn'.ownBlock = vn.ownBlock ∨ ∃ g, vn'.ownBlock = some g ∧ w.heap.size ≤ g from by rcases hn with e | ⟨g, e, hg⟩; exact .inl e; exact .inr ⟨g, e, Nat.le_trans TA.out.size hg⟩)
    have HNQ := hid (show ¬ vn.ownBlock = some q from HP.out.notN QB.out (by decide))
    have HW2 := hid (lt_of_block QB.out)
    replace QB := hid ((tt.block q (lt_of_block QB.out) (fun e => by have := HQ.out; rcases e with e | e; omega; exact HNQ.out e)).trans QB.out)
    have SZ := hid TA.out.size
    replace HP := hid hp
    have HTT := hid (TA.out.mono (S' := fun g => g = b ∨ vn.ownBlock = some g) (fun _ _ e => .inl e) |>.trans tt (fun _ _ e => e))
    clear ht hp hn tt KE2 TA
    obtain ⟨ck, sa, sn, sc, fo, mi, ma, la, ca, nm, ka, kn, kc⟩ := c
    unfold Cel.arr
    go_wp2_with (first | refine wpList_store_row rfl 28 _ _ rfl q _ rfl rfl 28 _ QB.out info28 (by rfl) (Cel.one ⟨ck, sa, sn, sc, fo, mi, ma, la, ca, nm, ka, kn, kc⟩) ?_ | fail)
    refine bodyPost_ret (results_ct rfl _ _ q 28 _ (0, 0) _ rfl (setRow_heap _ q _ _ 28 (0, 0) QB.out) Tryz.underlying28 rfl (by kernel_rfl)) rfl ?_
    have TR := touch_row w3 q #[.int .i64 ck, .slice sa sn sc, .bool fo, .int .i64 mi, .int .i64 ma, .bool la, .int .i64 ca, .string nm, .slice ka kn kc]
    have HS3 := TR.size
    rw [← HA.out]
    exact ⟨⟨ck, sa, sn, sc, fo, mi, ma, la, ca, nm, ka, kn, kc⟩, vn', rfl, (HT.out.kept TR (fun g hg e => by have := HW2.out; have := HQ.out; rcases hg with hg | hg; exact hg.elim; omega)).more (fun g hg => .inr (by have := SZ.out; rcases hg with hg | hg; exact hg.elim; omega)), HP.out.row (by have := HQ.out; omega) QB.out, HN.out, HTT.out.trans TR (fun i hi e => by have := HQ.out; omega)⟩
end Go.Proofs.YtdhhcefmmojcmaaGreatDoor

/- A parser of patterns: brackets, all ways; conditions: the contracts of alternatives and of flags. -/
namespace Go.Proofs.YtdhhcefmmojcmaaGreatDoor
open Go.RowKit
open Go.Lib

/-- What stands behind (? with flags. -/
def flagT (R : List Int) (alt : Sub) (st : St) : PR (Option Nd × St) :=
  let g := flagsF R st.f (st.k + 2)
  if g.2.1 = true ∧ lkR R g.2.2 = 58 then match withF R alt st.k { st with k := g.2.2 + 1 } g.1 with
    | .error e => .error e
    | .ok (x, s1) => .ok (some x, s1)
  else if g.2.1 = true ∧ lkR R g.2.2 = 41 then .ok (none, ⟨g.2.2 + 1, g.1, st.ns⟩)
  else .error (20, st.k)
def FlagC (b : Nat) (X : Px) (op : Nat) (alt : Sub) : Prop := ∀ (w : World) (k : Nat) (f : Fl) (vn : Value) (ns : List ByteArray), PS w b X (k + 2) f vn ns op → k + 2 ≤ X.R.length → ns.length ≤ k + 1 →
  Calls Tryz.prog 130 #[.pointer (some ⟨b, 0, none⟩), .int .i64 (k : Nat)] w fun e w' => OptP b X vn op (fun _ => False) w (flagT X.R alt ⟨k, f, ns⟩) e w'
theorem brack_any (b : Nat) (X : Px) (k : Nat) (f : Fl) (vn : Value) (ns : List ByteArray) (op : Nat) (alt : Sub) (w : World) (h : PS w b X (k + 1) f vn ns op) (hX : X.Good) (hk : k + 1 ≤ X.R.length) (hop : op ≤ 31) (hN : ns.length ≤ k + 1) (hF : Fwd X.R alt) (hs : SubC b X (op + 1) alt) (KF : FlagC b X op alt) :
    Calls Tryz.prog 109 #[.pointer (some ⟨b, 0, none⟩), .int .i64 (k : Nat)] w fun e w' => OptP b X vn op (fun _ => False) w (brackF X.R (some alt) ⟨k, f, ns⟩) e w' := by
  have hRl := hX.lenR
  by_cases h63 : lkR X.R (k + 1) = 63
  · have hk2 : k + 2 ≤ X.R.length := lk_is h63 (by decide)
    by_cases h80 : lkR X.R (k + 2) = 80
    · have hk3 : k + 3 ≤ X.R.length := lk_is h80 (by decide)
      have KN := fun w' hp => name_any b X k (k + 3) f vn ns op w' hp hX hk3 (by omega) (by omega)
      cases hn : nameF X.R k ns (k + 3) with
      | error e =>
        obtain ⟨ec, ej⟩ := e
        rw [hn] at KN
        have e : brackF X.R (some alt) ⟨k, f, ns⟩ = .error (ec, ej) := by simp only [brackF, if_pos h63, if_pos h80, hn]
        rw [e]
        exact brack_name_no b X k f vn ns op ec ej w h hX hk hop h63 h80 KN
      | ok p =>
        obtain ⟨name, k1⟩ := p
        rw [hn] at KN
        have hk1 := name_fwd hn
        have e : brackF X.R (some alt) ⟨k, f, ns⟩ = optN (groupF X.R alt k ⟨k1, f, ns⟩ name) := by
          simp only [brackF, if_pos h63, if_pos h80, hn]
          cases groupF X.R alt k ⟨k1, f, ns⟩ name <;> rfl
        rw [e]
        exact brack_name b X k f vn ns op name k1 _ w h hX hk hop h63 h80 KN (fun w' hp => group_any b X k k1 f vn ns op name alt w' hp hX (by omega) (by omega) hop (by omega) hF hs)
    · by_cases h58 : lkR X.R (k + 2) = 58
      · have hk3 : k + 3 ≤ X.R.length := lk_is h58 (by decide)
        have e : brackF X.R (some alt) ⟨k, f, ns⟩ = optN (withF X.R alt k ⟨k + 3, f, ns⟩ f) := by
          simp only [brackF, if_pos h63, if_neg h80, if_pos h58]
          cases withF X.R alt k ⟨k + 3, f, ns⟩ f <;> rfl
        rw [e]
        exact brack_with b X k f vn ns op _ w h hX hk hop h63 h58 (fun w' hp => within_any b X k (k + 3) f f vn ns op alt w' hp hX hk3 (by omega) hop (by omega) hF hs)
      · have e : brackF X.R (some alt) ⟨k, f, ns⟩ = flagT X.R alt ⟨k, f, ns⟩ := by
          simp only [brackF, flagT, if_pos h63, if_neg h80, if_neg h58]
          cases withF X.R alt k ⟨(flagsF X.R f (k + 2)).2.2 + 1, f, ns⟩ (flagsF X.R f (k + 2)).1 <;> rfl
        rw [e]
        exact brack_flags b X k f vn ns op _ w h hX hk hop h63 h80 h58 (fun w' hp => KF w' k f vn ns hp hk2 hN)
  · have e : brackF X.R (some alt) ⟨k, f, ns⟩ = optN (groupF X.R alt k ⟨k + 1, f, ns⟩ ⟨#[]⟩) := by
      simp only [brackF, if_neg h63]
      cases groupF X.R alt k ⟨k + 1, f, ns⟩ ⟨#[]⟩ <;> rfl
    rw [e]
    exact brack_group b X k f vn ns op _ w h hX hk hop h63 (fun w' hp => group_any b X k (k + 1) f vn ns op ⟨#[]⟩ alt w' hp hX hk (by omega) hop hN hF hs)
end Go.Proofs.YtdhhcefmmojcmaaGreatDoor
