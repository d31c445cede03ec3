/- Texts of this proof, one behind the other: what each says stands ahead of it. -/
import Derived.Test.YtdhhcefmmojcmaaGreatDoorM27
/- A parser of patterns: an atom that is a class or a scalar; conditions: as told. -/
namespace Go.Proofs.YtdhhcefmmojcmaaGreatDoor
open Go.RowKit
open Go.Lib

def clsO (f : Fl) (ns : List ByteArray) : PR (List R2 × Nat) → PR (Option Nd × St)
  | .error e => .error e
  | .ok (l, k1) => .ok (some (.cls f (cnR l)), ⟨k1, f, ns⟩)
set_option maxRecDepth 100000 in
set_option maxHeartbeats 8000000 in
theorem atom_class (b : Nat) (X : Px) (k : Nat) (f : Fl) (vn : Value) (ns : List ByteArray) (op : Nat) (w : World) (h : PS w b X k f vn ns op) (hX : X.Good) (hk : k ≤ X.R.length) (hc : lkR X.R k = 91) :
    Calls Tryz.prog 95 #[.pointer (some ⟨b, 0, none⟩)] w fun e w' => OptP b X vn op (fun _ => False) w (clsO f ns (classF X.R tableN k (k + 1))) e w' := by
  have TA := hid (((Touch.refl (fun _ => False) w).alloc (.cells Cel.zero.arr 28)).mono (S' := fun g => g = b) (fun _ _ e => e.elim))
  have QB := hid (block_new w Cel.zero.arr 28)
  have HP := hid (h.new ((Touch.refl (fun _ => False) w).alloc (.cells Cel.zero.arr 28)))
  have hlt := h.lt
  have hk2 : k ≤ 1024 := by have := hX.lenR; omega
  have hk3 : k + 1 ≤ X.R.length := lk_is hc (by decide)
  obtain ⟨A, hA⟩ : ∃ A, A = clsO f ns (classF X.R tableN k (k + 1)) := ⟨_, rfl⟩
  rw [← hA]
  have HA := hid hA.symm
  clear hA
  have KI := hid (fun w' hp => items_any b X k (k + 1) f vn ns op w' hp hX hk3 hk)
  generalize classF X.R tableN k (k + 1) = M at *
  clear h
  go_enter Tryz.func95, Tryz.ntmps95
  go_upto_region 1 with fail
  unfold Cel.zero Cel.arr at TA QB HP
  generalize w.alloc (.cells _ 28) = w1 at *
  obtain ⟨q, hq⟩ : ∃ q, q = w.heap.size := ⟨_, rfl⟩
  have HQ := hid (show w.heap.size ≤ q ∧ b < q by omega)
  rw [← hq] at QB ⊢
  clear hq hlt
  have c5 := HP.out.c5
  go_wp2_with fail
  refine (take_y HP.out (by omega) 91 hc (by decide)).mono ?_
  rintro e w2 ⟨rfl, hp, tt⟩
  replace QB := hid ((tt.block q (lt_of_block QB.out) (fun e => by have := HQ.out; omega)).trans QB.out)
  replace HP := hid hp
  replace TA := hid (TA.out.trans tt (fun _ _ e => e))
  clear hp tt c5
  have KI2 := hid (KI.out _ HP.out)
  clear KI
  match M with
  | .error (ec, ej) =>
    unfold SetP thrown at KI2
    go_wp2_with fail
    refine KI2.out.mono ?_
    rintro e w3 ⟨rfl, tt⟩
    replace TA := hid (TA.out.trans tt (fun _ _ e => e))
    clear tt KI2
    go_wp2
    refine ⟨rfl, ?_⟩
    rw [← HA.out]
    exact ⟨rfl, TA.out.mono (fun _ _ e => .inl e)⟩
  | .ok (l, k1) =>
    unfold SetP at KI2
    simp only at KI2
    go_wp2_with fail
    refine KI2.out.mono ?_
    rintro e w3 ⟨v, rfl, ho, hn, hp, tt⟩
    obtain ⟨a2, c2, hv⟩ := own_shape ho
    subst hv
    have O := hid ho
    have N := hid (fun g e => Nat.le_trans TA.out.size (hn g e))
    replace QB := hid ((tt.block q (lt_of_block QB.out) (fun e => by have := HQ.out; omega)).trans QB.out)
    replace HP := hid hp
    replace TA := hid (TA.out.trans tt (fun _ _ e => e))
    clear ho hn hp tt KI2
    have K5 := hid (ndclass_any b X k1 f vn ns op a2 (cnR l).length c2 w3 HP.out)
    go_wp2_with fail
    refine K5.out.mono ?_
    rintro e w4 ⟨rfl, t4⟩
    replace QB := hid ((t4.block q (lt_of_block QB.out) id).trans QB.out)
    replace HP := hid (HP.out.new t4)
    replace O := hid (rowKept O.out t4 (fun _ _ e => e))
    replace TA := hid (TA.out.trans t4 (fun _ _ e => e.elim))
    clear t4 K5
    unfold clsC Cel.arr
    go_wp2_with (first | refine wpList_store_row rfl 28 _ _ rfl q _ rfl rfl 28 _ QB.out info28 (by rfl) (Cel.one (clsC f.i a2 (cnR l).length c2)) ?_ | fail)
    refine bodyPost_ret (results_ct rfl _ _ q 28 _ (0, 0) _ rfl (setRow_heap _ q _ _ 28 (0, 0) QB.out) Tryz.underlying28 rfl (by kernel_rfl)) rfl ?_
    rw [← HA.out]
    have TR := touch_row w4 q (clsC f.i a2 (cnR l).length c2).arr
    have O2 := rowKept O.out TR (fun g e s => by
      subst s
      obtain ⟨cs, fr, hh⟩ := own_type O.out g e
      rw [QB.out] at hh
      cases hh)
    exact ⟨clsC f.i a2 (cnR l).length c2, vn, rfl, cls_tn O2 (fun g e => .inr ⟨N.out g e, by obtain ⟨cs, fr, hh⟩ := own_type O2 g e; exact lt_of_block hh⟩), HP.out.row (by have := HQ.out; omega) QB.out, .inl rfl, (TA.out.trans TR (fun i hi e => by have := HQ.out; omega)).mono (fun _ _ e => .inl e)⟩
set_option maxRecDepth 100000 in
set_option maxHeartbeats 8000000 in
theorem atom_one (b : Nat) (X : Px) (k : Nat) (f : Fl) (vn : Value) (ns : List ByteArray) (op : Nat) (w : World) (h : PS w b X k f vn ns op) (hX : X.Good) (hk : k ≤ X.R.length) (x : Int) (hc : lkR X.R k = x) (hx : x ≠ -1) (h40 : x ≠ 40) (h91 : x ≠ 91) (h92 : x ≠ 92) (h46 : x ≠ 46) (h94 : x ≠ 94) (h36 : x ≠ 36) :
    Calls Tryz.prog 95 #[.pointer (some ⟨b, 0, none⟩)] w fun e w' => OptP b X vn op (fun _ => False) w (.ok (some (.cls f (cnR [(x, x)])), ⟨k + 1, f, ns⟩)) e w' := by
  have TA := hid (((Touch.refl (fun _ => False) w).alloc (.cells Cel.zero.arr 28)).mono (S' := fun g => g = b) (fun _ _ e => e.elim))
  have QB := hid (block_new w Cel.zero.arr 28)
  have HP := hid (h.new ((Touch.refl (fun _ => False) w).alloc (.cells Cel.zero.arr 28)))
  have hlt := h.lt
  have hk2 : k ≤ 1024 := by have := hX.lenR; omega
  have e40 : (x == 40) = false := beq_eq_false_iff_ne.2 h40
  have e91 : (x == 91) = false := beq_eq_false_iff_ne.2 h91
  have e92 : (x == 92) = false := beq_eq_false_iff_ne.2 h92
  have e46 : (x == 46) = false := beq_eq_false_iff_ne.2 h46
  have e94 : (x == 94) = false := beq_eq_false_iff_ne.2 h94
  have e36 : (x == 36) = false := beq_eq_false_iff_ne.2 h36
  clear h40 h91 h92 h46 h94 h36
  clear h
  go_enter Tryz.func95, Tryz.ntmps95
  go_upto_region 1 with fail
  unfold Cel.zero Cel.arr at TA QB HP
  generalize w.alloc (.cells _ 28) = w1 at *
  obtain ⟨q, hq⟩ : ∃ q, q = w.heap.size := ⟨_, rfl⟩
  have HQ := hid (show w.heap.size ≤ q ∧ b < q by omega)
  rw [← hq] at QB ⊢
  clear hq hlt
  have c5 := HP.out.c5
  go_wp2_with fail
  refine (take_y HP.out (by omega) x hc hx).mono ?_
  rintro e w2 ⟨rfl, hp, tt⟩
  replace QB := hid ((tt.block q (lt_of_block QB.out) (fun e => by have := HQ.out; omega)).trans QB.out)
  replace HP := hid hp
  replace TA := hid (TA.out.trans tt (fun _ _ e => e))
  clear hp tt c5
  have KO := hid (only_any x w2)
  go_wp2_with fail
  refine KO.out.mono ?_
  rintro e w3 ⟨v, rfl, ow⟩
  obtain ⟨a2, c2, hv, _⟩ := ow.slice
  subst hv
  have O := hid ow.own
  have N := hid (fun g e => Nat.le_trans TA.out.size (ow.new g e))
  replace QB := hid ((ow.touch.block q (lt_of_block QB.out) id).trans QB.out)
  replace HP := hid (HP.out.new ow.touch)
  replace TA := hid (TA.out.trans ow.touch (fun _ _ e => e.elim))
  clear ow KO
  have K5 := hid (ndclass_any b X (k + 1) f vn ns op a2 (cnR [(x, x)]).length c2 w3 HP.out)
  go_wp2_with fail
  refine K5.out.mono ?_
  rintro e w4 ⟨rfl, t4⟩
  replace QB := hid ((t4.block q (lt_of_block QB.out) id).trans QB.out)
  replace HP := hid (HP.out.new t4)
  replace O := hid (rowKept O.out t4 (fun _ _ e => e))
  replace TA := hid (TA.out.trans t4 (fun _ _ e => e.elim))
  clear t4 K5
  unfold clsC Cel.arr
  go_wp2_with (first | refine wpList_store_row rfl 28 _ _ rfl q _ rfl rfl 28 _ QB.out info28 (by rfl) (Cel.one (clsC f.i a2 (cnR [(x, x)]).length c2)) ?_ | fail)
  refine bodyPost_ret (results_ct rfl _ _ q 28 _ (0, 0) _ rfl (setRow_heap _ q _ _ 28 (0, 0) QB.out) Tryz.underlying28 rfl (by kernel_rfl)) rfl ?_
  have TR := touch_row w4 q (clsC f.i a2 (cnR [(x, x)]).length c2).arr
  have O2 := rowKept O.out TR (fun g e s => by
    subst s
    obtain ⟨cs, fr, hh⟩ := own_type O.out g e
    rw [QB.out] at hh
    cases hh)
  exact ⟨clsC f.i a2 (cnR [(x, x)]).length c2, vn, rfl, cls_tn O2 (fun g e => .inr ⟨N.out g e, by obtain ⟨cs, fr, hh⟩ := own_type O2 g e; exact lt_of_block hh⟩), HP.out.row (by have := HQ.out; omega) QB.out, .inl rfl, (TA.out.trans TR (fun i hi e => by have := HQ.out; omega)).mono (fun _ _ e => .inl e)⟩
end Go.Proofs.YtdhhcefmmojcmaaGreatDoor

/- A parser of patterns: an atom that is a bracket; conditions: as told. -/
namespace Go.Proofs.YtdhhcefmmojcmaaGreatDoor
open Go.RowKit
open Go.Lib

set_option maxRecDepth 100000 in
set_option maxHeartbeats 8000000 in
theorem atom_paren (A : PR (Option Nd × St)) (b : Nat) (X : Px) (k : Nat) (f : Fl) (vn : Value) (ns : List ByteArray) (op : Nat) (w : World) (h : PS w b X k f vn ns op) (hX : X.Good) (hk : k ≤ X.R.length) (hc : lkR X.R k = 40)
    (KB : ∀ w', PS w' b X (k + 1) f vn ns op → Calls Tryz.prog 109 #[.pointer (some ⟨b, 0, none⟩), .int .i64 (k : Nat)] w' fun e w'' => OptP b X vn op (fun _ => False) w' A e w'') :
    Calls Tryz.prog 95 #[.pointer (some ⟨b, 0, none⟩)] w fun e w' => OptP b X vn op (fun _ => False) w A e w' := by
  have TA := hid (((Touch.refl (fun _ => False) w).alloc (.cells Cel.zero.arr 28)).mono (S' := fun g => g = b) (fun _ _ e => e.elim))
  have QB := hid (block_new w Cel.zero.arr 28)
  have HP := hid (h.new ((Touch.refl (fun _ => False) w).alloc (.cells Cel.zero.arr 28)))
  have hlt := h.lt
  have hk2 : k ≤ 1024 := by have := hX.lenR; omega
  have KI := hid KB
  obtain ⟨M, hA⟩ : ∃ M, M = A := ⟨_, rfl⟩
  have HA := hid hA
  rw [← hA] at KI
  clear hA KB
  clear h
  go_enter Tryz.func95, Tryz.ntmps95
  go_upto_region 1 with fail
  unfold Cel.zero Cel.arr at TA QB HP
  generalize w.alloc (.cells _ 28) = w1 at *
  obtain ⟨q, hq⟩ : ∃ q, q = w.heap.size := ⟨_, rfl⟩
  have HQ := hid (show w.heap.size ≤ q ∧ b < q by omega)
  rw [← hq] at QB ⊢
  clear hq hlt
  have c5 := HP.out.c5
  go_wp2_with fail
  refine (take_y HP.out (by omega) 40 hc (by decide)).mono ?_
  rintro e w2 ⟨rfl, hp, tt⟩
  replace QB := hid ((tt.block q (lt_of_block QB.out) (fun e => by have := HQ.out; omega)).trans QB.out)
  replace HP := hid hp
  replace TA := hid (TA.out.trans tt (fun _ _ e => e))
  clear hp tt c5
  have KE2 := hid (KI.out _ HP.out)
  clear KI
  match M with
  | .error (ec, ej) =>
    unfold OptP thrown at KE2
    go_wp2_with fail
    refine KE2.out.mono ?_
    rintro e w3 ⟨rfl, tt⟩
    replace TA := hid ((TA.out.mono (S' := fun g => g = b ∨ vn.ownBlock = some g) (fun _ _ e => .inl e)).trans tt (fun _ _ e => e))
    clear tt KE2
    go_wp2
    refine ⟨rfl, ?_⟩
    rw [← HA.out]
    exact ⟨rfl, TA.out⟩
  | .ok (none, st) =>
    unfold OptP at KE2
    simp only at KE2
    go_wp2_with fail
    refine KE2.out.mono ?_
    rintro e w3 ⟨c, vn', rfl, hp, hn, tt⟩
    have HN := hid (show vn'.ownBlock = vn.ownBlock ∨ ∃ g, vn'.ownBlock = some g ∧ w.heap.size ≤ g from by rcases hn with e | ⟨g, e, hg⟩; exact .inl e; exact .inr ⟨g, e, Nat.le_trans TA.out.size hg⟩)
    have HNQ := hid (show ¬ vn.ownBlock = some q from HP.out.notN QB.out (by decide))
    have HW2 := hid (lt_of_block QB.out)
    replace QB := hid ((tt.block q (lt_of_block QB.out) (fun e => by have := HQ.out; rcases e with e | e; omega; exact HNQ.out e)).trans QB.out)
    have SZ := hid TA.out.size
    replace HP := hid hp
    have HTT := hid (TA.out.mono (S' := fun g => g = b ∨ vn.ownBlock = some g) (fun _ _ e => .inl e) |>.trans tt (fun _ _ e => e))
    clear hp hn tt KE2 TA
    obtain ⟨ck, sa, sn, sc, fo, mi, ma, la, ca, nm, ka, kn, kc⟩ := c
    unfold Cel.arr
    go_wp2_with (first | refine wpList_store_row rfl 28 _ _ rfl q _ rfl rfl 28 _ QB.out info28 (by rfl) (Cel.one ⟨ck, sa, sn, sc, fo, mi, ma, la, ca, nm, ka, kn, kc⟩) ?_ | fail)
    refine bodyPost_ret (results_ct rfl _ _ q 28 _ (0, 0) _ rfl (setRow_heap _ q _ _ 28 (0, 0) QB.out) Tryz.underlying28 rfl (by kernel_rfl)) rfl ?_
    have TR := touch_row w3 q #[.int .i64 ck, .slice sa sn sc, .bool fo, .int .i64 mi, .int .i64 ma, .bool la, .int .i64 ca, .string nm, .slice ka kn kc]
    have HS3 := TR.size
    rw [← HA.out]
    exact ⟨⟨ck, sa, sn, sc, fo, mi, ma, la, ca, nm, ka, kn, kc⟩, vn', rfl, HP.out.row (by have := HQ.out; omega) QB.out, HN.out, HTT.out.trans TR (fun i hi e => by have := HQ.out; omega)⟩
  | .ok (some x, st) =>
    unfold OptP at KE2
    simp only at KE2
    go_wp2_with fail
    refine KE2.out.mono ?_
    rintro e w3 ⟨c, vn', rfl, ht, hp, hn, tt⟩
    have HT := hid ht
    have HN := hid (show vn'.ownBlock = vn.ownBlock ∨ ∃ g, vn'.ownBlock = some g ∧ w.heap.size ≤ g from by rcases hn with e | ⟨g, e, hg⟩; exact .inl e; exact .inr ⟨g, e, Nat.le_trans TA.out.size hg⟩)
    have HNQ := hid (show ¬ vn.ownBlock = some q from HP.out.notN QB.out (by decide))
    have HW2 := hid (lt_of_block QB.out)
    replace QB := hid ((tt.block q (lt_of_block QB.out) (fun e => by have := HQ.out; rcases e with e | e; omega; exact HNQ.out e)).trans QB.out)
    have SZ := hid TA.out.size
    replace HP := hid hp
    have HTT := hid (TA.out.mono (S' := fun g => g = b ∨ vn.ownBlock = some g) (fun _ _ e => .inl e) |>.trans tt (fun _ _ e => e))
    clear ht hp hn tt KE2 TA
    obtain ⟨ck, sa, sn, sc, fo, mi, ma, la, ca, nm, ka, kn, kc⟩ := c
    unfold Cel.arr
    go_wp2_with (first | refine wpList_store_row rfl 28 _ _ rfl q _ rfl rfl 28 _ QB.out info28 (by rfl) (Cel.one ⟨ck, sa, sn, sc, fo, mi, ma, la, ca, nm, ka, kn, kc⟩) ?_ | fail)
    refine bodyPost_ret (results_ct rfl _ _ q 28 _ (0, 0) _ rfl (setRow_heap _ q _ _ 28 (0, 0) QB.out) Tryz.underlying28 rfl (by kernel_rfl)) rfl ?_
    have TR := touch_row w3 q #[.int .i64 ck, .slice sa sn sc, .bool fo, .int .i64 mi, .int .i64 ma, .bool la, .int .i64 ca, .string nm, .slice ka kn kc]
    have HS3 := TR.size
    rw [← HA.out]
    exact ⟨⟨ck, sa, sn, sc, fo, mi, ma, la, ca, nm, ka, kn, kc⟩, vn', rfl, (HT.out.kept TR (fun g hg e => by have := HW2.out; have := HQ.out; rcases hg with hg | hg; exact hg.elim; omega)).more (fun g hg => .inr (by have := SZ.out; rcases hg with hg | hg; exact hg.elim; omega)), HP.out.row (by have := HQ.out; omega) QB.out, HN.out, HTT.out.trans TR (fun i hi e => by have := HQ.out; omega)⟩
end Go.Proofs.YtdhhcefmmojcmaaGreatDoor

/- A parser of patterns: a group, given what alternatives do; conditions: as told. -/
namespace Go.Proofs.YtdhhcefmmojcmaaGreatDoor
open Go.RowKit
open Go.Lib

theorem info9n : (Tryz.prog.info? 9).map (fun i => (i.zero, i.size, i.bytes)) = some (some (.string ⟨#[]⟩), 1, 16) := by kernel_rfl
/-- A name was put behind the others. -/
theorem PS.named {w w4 : World} {b : Nat} {X : Px} {k : Nat} {f : Fl} {a : Option Addr} {n c : Nat} {ns : List ByteArray} {op : Nat} {v' : Value} {K : ByteArray} {o : Obj} (h : PS w b X k f (.slice a n c) ns op) (hb : b < w.heap.size)
    (hn : n = ns.length) (hown : w4.ownsRow 0 9 1 v' (n + 1) (ns.map Value.string ++ [.string K])) (hg : (w.alloc o).grownBy w4 (Value.slice a n c).ownBlock) (hat : v'.ownBlock = (Value.slice a n c).ownBlock ∨ v'.ownBlock = some (w.heap.size + 1)) :
    PS (w4.setCell ⟨b, 10, none⟩ v') b X k f v' (ns ++ [K]) op ∧ Touch (fun g => g = b ∨ (Value.slice a n c).ownBlock = some g) w (w4.setCell ⟨b, 10, none⟩ v') := by
  have TG : Touch (fun k => (Value.slice a n c).ownBlock = some k) w w4 := Touch.grown ((Touch.refl _ w).alloc o) hg (fun k e _ => e)
  have C4 := (TG.block b hb (fun e => h.apart e)).trans h.cells
  have TS := touch_one w4 b 10 v'
  have hv : v'.ownBlock ≠ some b := fun e => by
    rcases hat with e2 | e2
    · exact h.apart (by rw [← e2]; exact e)
    · rw [e2] at e
      cases e
      omega
  have T : Touch (fun g => g = b ∨ (Value.slice a n c).ownBlock = some g) w (w4.setCell ⟨b, 10, none⟩ v') := Touch.trans (TG.mono (fun _ _ e => .inr e)) TS (fun _ _ e => .inl e)
  have lowS : ∀ g, g = b ∨ (Value.slice a n c).ownBlock = some g → 7 ≤ g := fun g e => by
    rcases e with e | e
    · subst e; exact h.low
    · exact h.lowN g e
  refine ⟨⟨block_set C4 10 v', ?_, ?_, ?_, h.oldR, h.oldP, h.env.kept T lowS, h.low, fun g e => ?_, fun g o e => ?_⟩, T⟩
  · exact Io.kept (Io.kept h.runes TG (fun g o e => h.apN g o (.inl e)) (fun g o hl e => io_lt (by rw [← e]; exact h.runes) hl)) TS (fun g o e x => by have := h.oldR g o e; omega) (fun g o hl e => Nat.lt_of_lt_of_le (io_lt (by rw [← e]; exact h.runes) hl) TG.size)
  · exact Io.kept (Io.kept h.places TG (fun g o e => h.apN g o (.inr e)) (fun g o hl e => io_lt (by rw [← e]; exact h.places) hl)) TS (fun g o e x => by have := h.oldP g o e; omega) (fun g o hl e => Nat.lt_of_lt_of_le (io_lt (by rw [← e]; exact h.places) hl) TG.size)
  · have := rowKept hown TS (fun g e e2 => by subst e2; exact hv e)
    unfold SL
    rw [List.length_append, List.map_append, ← hn]
    exact this
  · rcases hat with e2 | e2
    · exact h.lowN g (by rw [← e2]; exact e)
    · rw [e2] at e
      cases e
      have := h.low
      omega
  · rcases hat with e2 | e2
    · rw [e2]
      exact h.apN g o e
    · intro e3
      rw [e2] at e3
      cases e3
      rcases e with e | e
      · have := h.oldR _ o e
        omega
      · have := h.oldP _ o e
        omega
end Go.Proofs.YtdhhcefmmojcmaaGreatDoor
