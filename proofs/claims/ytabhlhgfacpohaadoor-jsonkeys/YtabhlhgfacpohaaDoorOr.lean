/- A parser of JSON: row, of an object of texts without blanks; conditions: as told. -/
import Derived.Test.YtabhlhgfacpohaaDoorOi
namespace Go.Proofs.YtabhlhgfacpohaaDoor
open Go.RowKit
open Go.Lib

/-- Items of an object, each a key and a text, from a place on; the last ends where the bracket stands. -/
inductive Items (s : ByteArray) : Nat → List (Bs × Bs) → Nat → Prop
  | last (t u e : Nat) (k o : Bs) (h1 : lk s t = 34) (h2 : quotE s t = .ok (k, u)) (h3 : u ≤ s.size) (h4 : lk s u = 58) (h5 : lk s (u + 1) = 34) (h6 : quotE s (u + 1) = .ok (o, e)) (h7 : e ≤ s.size) (h8 : lk s e = 125) : Items s t [(k, o)] e
  | more (t u e f : Nat) (k o : Bs) (rest : List (Bs × Bs)) (h1 : lk s t = 34) (h2 : quotE s t = .ok (k, u)) (h3 : u ≤ s.size) (h4 : lk s u = 58) (h5 : lk s (u + 1) = 34) (h6 : quotE s (u + 1) = .ok (o, e)) (h7 : e ≤ s.size) (h8 : lk s e = 44) (h9 : Items s (e + 1) rest f) : Items s t ((k, o) :: rest) f
/-- One item's facts. -/
structure Item (s : ByteArray) (t u e : Nat) (k o : Bs) : Prop where
  h1 : lk s t = 34
  h2 : quotE s t = .ok (k, u)
  h3 : u ≤ s.size
  h4 : lk s u = 58
  h5 : lk s (u + 1) = 34
  h6 : quotE s (u + 1) = .ok (o, e)
  h7 : e ≤ s.size
/-- What is left behind an item: nothing, or a comma and more. -/
def Left (s : ByteArray) (e : Nat) (rest : List (Bs × Bs)) (f : Nat) : Prop := (rest = [] ∧ e = f ∧ lk s e = 125) ∨ (lk s e = 44 ∧ Items s (e + 1) rest f)
theorem items_cons {s : ByteArray} {t f : Nat} {l : List (Bs × Bs)} (h : Items s t l f) : ∃ k o rest u e, l = (k, o) :: rest ∧ Item s t u e k o ∧ Left s e rest f := by
  match h with
  | .last _ u _ k o h1 h2 h3 h4 h5 h6 h7 h8 => exact ⟨_, _, _, u, _, rfl, ⟨h1, h2, h3, h4, h5, h6, h7⟩, .inl ⟨rfl, rfl, h8⟩⟩
  | .more _ u e _ k o rest h1 h2 h3 h4 h5 h6 h7 h8 h9 => exact ⟨_, _, _, u, e, rfl, ⟨h1, h2, h3, h4, h5, h6, h7⟩, .inr ⟨h8, h9⟩⟩
theorem left_blank {s : ByteArray} {e f : Nat} {rest : List (Bs × Bs)} (h : Left s e rest f) : noBlank (lk s e) := by
  unfold noBlank
  rcases h with ⟨_, _, h⟩ | ⟨h, _⟩ <;> rw [h] <;> decide
def bytesL (l : List Bs) : List ByteArray := l.map fun x => ⟨x.toArray⟩
/-- An item, as the closure takes it. -/
theorem item_of {s : ByteArray} {t u e f : Nat} {k o : Bs} {rest : List (Bs × Bs)} (hi : Item s t u e k o) (hl : Left s e rest f) (lo b bx q d : Nat) (v2 v3 : Value) (ks ts : List ByteArray) (w : World) (h : OS w lo b bx q s t d v2 v3 ks ts) (hlo : lo ≤ w.heap.size) (hb2 : 2 ≤ b) (ht : Tabs w) (hs : s.size ≤ 1048576) (hn : ks.length ≤ 1000) (hn3 : ts.length ≤ 1000) :
    Calls Tryd.prog 91 (#[] ++ #[.pointer (some ⟨bx, 0, none⟩), .pointer (some ⟨q, 0, none⟩)]) w fun e' w' => e' = .returned (.tuple #[]) ∧ ∃ v2' v3', OS w' lo b bx q s e d v2' v3' (ks ++ [⟨k.toArray⟩]) (ts ++ [⟨o.toArray⟩]) ∧ Touch (fun k => k = b ∨ k = q ∨ lo ≤ k) w w' := by
  obtain ⟨a2, c2, hv2⟩ := own_shape h.keys
  obtain ⟨a3, c3, hv3⟩ := own_shape h.kids
  subst hv2
  subst hv3
  have htl := (lk_is (c := 34) hi.h1).1
  refine (item_key lo b bx q s t d a2 a3 _ c2 _ c3 ks ts k o u e w h hlo hb2 ht hs (by omega) hn hn3 (by rw [hi.h1]; unfold noBlank; decide) hi.h2 hi.h3 hi.h4 hi.h5 hi.h6 hi.h7 (left_blank hl)).mono ?_
  rintro e' w' ⟨h1, a2', m2', c2', a3', m3', c3', h2, h3⟩
  exact ⟨h1, _, _, h2, h3⟩
theorem Ps.setd {w : World} {b : Nat} {s : ByteArray} {t d : Nat} (h : Ps w b s t d) (d' : Nat) : Ps (w.setCell ⟨b, 2, none⟩ (.int .i64 (d' : Nat))) b s t d' := by
  have := block_set h 2 (.int .i64 (d' : Nat))
  exact this
theorem OS.goesd {w w' : World} {lo b bx q : Nat} {s : ByteArray} {t t' d d' : Nat} {v2 v3 : Value} {ks ts : List ByteArray} (h : OS w lo b bx q s t d v2 v3 ks ts) (hp : Ps w' b s t' d') (tc : Touch (fun k => k = b) w w') : OS w' lo b bx q s t' d' v2 v3 ks ts := by
  obtain ⟨l1, l2, l3⟩ := h.low
  exact ⟨hp, (tc.block bx (lt_of_block h.box) (by omega)).trans h.box, (tc.block q (lt_of_block h.obj) (by omega)).trans h.obj, rowKept h.keys tc (fun g e e2 => by have := h.new2 g e; omega), rowKept h.kids tc (fun g e e2 => by have := h.new3 g e; omega), h.new2, h.new3, h.low⟩
set_option maxRecDepth 100000 in
set_option maxHeartbeats 8000000 in
theorem row_obj (lo b bx q : Nat) (s : ByteArray) (t d f : Nat) (v2 v3 : Value) (l : List (Bs × Bs)) (w : World) (h : OS w lo b bx q s t d v2 v3 [] []) (hlo : lo ≤ w.heap.size) (hb2 : 2 ≤ b) (ht : Tabs w) (hs : s.size ≤ 1048576) (hd : d < 32) (h0 : lk s t = 123) (hl : l.length ≤ 900)
    (hi : (l = [] ∧ lk s (t + 1) = 125 ∧ f = t + 1) ∨ Items s (t + 1) l f) :
    Calls Tryd.prog 89 #[.pointer (some ⟨b, 0, none⟩), .string ⟨#[123, 125]⟩, .func (.func 91) #[] #[.pointer (some ⟨bx, 0, none⟩), .pointer (some ⟨q, 0, none⟩)]] w fun e w' => e = .returned (.tuple #[]) ∧ ∃ v2' v3', OS w' lo b bx q s (f + 1) d v2' v3' (bytesL (l.map Prod.fst)) (bytesL (l.map Prod.snd)) ∧ Touch (fun k => k = b ∨ k = q ∨ lo ≤ k) w w' := by
  have htl := (lk_is (c := 123) h0).1
  have c2 := h.ps.c2
  have f2 := h.ps.fr (i := 2)
  have hdI : ((d : Int) == 32) = false := by simp; omega
  have TS := Touch.setCell (S := fun k => k = b) (Touch.refl _ w.drew) (p := ⟨b, 2, none⟩) (fun _ => rfl) (.int .i64 ((d + 1 : Nat) : Int))
  have KN := hid (fun w' (hp : Ps w' b s t (d + 1)) => need_any b s ⟨#[123]⟩ t (d + 1) w' hp hs (by omega) (by decide))
  rw [show needE s (⟨#[123]⟩ : ByteArray).data.toList t = .ok (t + 1) from by
    show needE s [123] t = _
    rw [needE, if_pos (by rw [h0]; rfl), needE]] at KN
  unfold NeedR at KN
  have HN1 := hid (show noBlank (lk s (t + 1)) from by
    rcases hi with ⟨_, e, _⟩ | e
    · rw [e]; unfold noBlank; decide
    · obtain ⟨k, o, rest, u, e, _, it, _⟩ := items_cons e
      rw [it.h1]; unfold noBlank; decide)
  have KB := hid (fun w' (hp : Ps w' b s (t + 1) (d + 1)) => blanks_none b s (t + 1) (d + 1) w' hp hs (by omega) HN1.out)
  have KT := hid (fun w' (hp : Ps w' b s (t + 1) (d + 1)) => take_any b s (t + 1) (d + 1) 125 w' hp hs (by omega) (by decide))
  have HH := hid h
  have HT := hid ht
  have HTW := hid ht
  have HB2 := hid hb2
  have HLO := hid hlo
  obtain ⟨BR, hBR⟩ : ∃ BR : ByteArray, BR = ⟨#[123, 125]⟩ := ⟨_, rfl⟩
  have s1 : ∀ w, (Instr.slice 9 (.string BR) none (some (.int .i64 1)) none).run Tryd.prog w = .ok (.string ⟨#[123]⟩) w := fun w => by rw [hBR]; rfl
  have s2 : ∀ w, (Instr.slice 9 (.string BR) (some (.int .i64 1)) none none).run Tryd.prog w = .ok (.string ⟨#[125]⟩) w := fun w => by rw [hBR]; rfl
  have ixc : ∀ w, (Instr.index 9 (.string ⟨#[125]⟩) (.int .i64 0)).run Tryd.prog w = .ok (.int .u8 125) w := fun w => rfl
  rw [← hBR]
  clear h ht hb2 hBR hlo
  go_enter Tryd.func89, Tryd.ntmps89
  go_wp2_with fail
  go_quiet (fail)
  have TQ := (Touch.refl (fun _ => False) w).drewN nq
  have H1 := hid (HH.out.still TQ)
  have T1 := hid (TQ.mono (S' := fun k => k = b ∨ k = q ∨ lo ≤ k) (fun _ _ e => e.elim))
  have B1 := hid (HT.out.new TQ)
  clear HH TQ HT c2 f2 TS
  generalize w.drewN nq = w1 at *
  have c2 := H1.out.ps.c2
  have f2 := H1.out.ps.fr (i := 2)
  go_upto_region 4 with fail
  have TS := Touch.setCell (S := fun k => k = b) (Touch.refl _ w1) (p := ⟨b, 2, none⟩) (fun _ => rfl) (.int .i64 ((d : Int) + 1))
  have H2 := hid (H1.out.goesd (d' := d + 1) (by have := H1.out.ps.setd (d + 1); rw [Int.natCast_add] at this; exact this) TS)
  have T2 := hid (Touch.trans T1.out TS (fun _ _ e => .inl e))
  have B2 := hid (B1.out.kept TS (fun e => by have := HB2.out; omega) (fun e => by have := HB2.out; omega))
  clear TS H1 T1 B1 c2 f2
  generalize w1.setCell ⟨b, 2, none⟩ (.int .i64 ((d : Int) + 1)) = w2 at *
  go_wp2_with fail
  refine (KN.out _ H2.out.ps).mono ?_
  rintro e w3 ⟨rfl, hp, tt⟩
  have H3 := hid (H2.out.goes hp tt)
  have T3 := hid (T2.out.trans tt (fun _ _ e => .inl e))
  have B3 := hid (B2.out.kept tt (fun e => by have := HB2.out; omega) (fun e => by have := HB2.out; omega))
  clear hp tt KN H2 T2 B2
  go_wp2_with fail
  refine (KB.out _ H3.out.ps).mono ?_
  rintro e w4 ⟨rfl, hp, tt⟩
  have H4 := hid (H3.out.goes hp tt)
  have T4 := hid (T3.out.trans tt (fun _ _ e => .inl e))
  have B4 := hid (B3.out.kept tt (fun e => by have := HB2.out; omega) (fun e => by have := HB2.out; omega))
  clear hp tt KB H3 T3 B3
  rcases hi with ⟨hl0, he, hft⟩ | hit
  · rw [show ((125 : Nat) : Int) = 125 from rfl, decide_eq_true he, if_pos he] at KT
    go_wp2_with fail
    refine (KT.out _ H4.out.ps).mono ?_
    rintro e w5 ⟨rfl, hp, tt⟩
    have H5 := hid (H4.out.goes hp tt)
    have T5 := hid (T4.out.trans tt (fun _ _ e => .inl e))
    clear hp tt KT H4 T4
    have c2 := H5.out.ps.c2
    have f2 := H5.out.ps.fr (i := 2)
    go_wp2
    go_end0
    have TS := Touch.setCell (S := fun k => k = b) (Touch.refl _ w5) (p := ⟨b, 2, none⟩) (fun _ => rfl) (.int .i64 (d : Nat))
    subst hl0
    subst hft
    exact ⟨rfl, _, _, H5.out.goesd (d' := d) (H5.out.ps.setd d) TS, Touch.trans T5.out TS (fun _ _ e => .inl e)⟩
  · have hne : lk s (t + 1) ≠ 125 := by
      obtain ⟨k, o, rest, u, e, _, it, _⟩ := items_cons hit
      rw [it.h1]
      decide
    rw [show ((125 : Nat) : Int) = 125 from rfl, decide_eq_false hne, if_neg hne] at KT
    go_wp2_with fail
    refine (KT.out _ H4.out.ps).mono ?_
    rintro e w5 ⟨rfl, hp, tt⟩
    have H5 := hid (H4.out.goes hp tt)
    have T5 := hid (T4.out.trans tt (fun _ _ e => .inl e))
    have B5 := hid (B4.out.kept tt (fun e => by have := HB2.out; omega) (fun e => by have := HB2.out; omega))
    clear hp tt KT H4 T4 B4 hne
    obtain ⟨k, o, rest, u, e, rfl, it, hleft⟩ := items_cons hit
    have KI := hid (item_of it hleft lo b bx q (d + 1) v2 v3 [] [] w5 H5.out (Nat.le_trans HLO.out T5.out.size) HB2.out B5.out hs (by decide) (by decide))
    have HLF := hid hleft
    simp only [Array.empty_append] at KI
    clear hit it hleft
    rw [List.length_cons] at hl
    go_wp2_with fail
    refine KI.out.mono ?_
    rintro e' w6 ⟨rfl, v2a, v3a, h6, t6⟩
    have H6 := hid h6
    have T6 := hid (T5.out.trans t6 (fun _ _ e => e))
    clear h6 t6 KI H5 T5 B5
    go_wp2_with fail
    go_loopg [] rest.length (fun gk wq => ∃ (dn rs : List (Bs × Bs)) (e' : Nat) (v2' v3' : Value), dn.length + rs.length = rest.length + 1 ∧ rs.length = gk ∧ Hid ((k, o) :: rest = dn ++ rs) ∧ Hid (OS wq lo b bx q s e' (d + 1) v2' v3' (bytesL (dn.map Prod.fst)) (bytesL (dn.map Prod.snd))) ∧ Hid (Left s e' rs f) ∧ Hid (Touch (fun k => k = b ∨ k = q ∨ lo ≤ k) w wq))
    case atStart => exact ⟨[(k, o)], rest, e, v2a, v3a, by simp; omega, rfl, hid rfl, H6, HLF, T6⟩
    case round =>
      obtain ⟨dn, rs, e2, v2', v3', hdl, hrg, HE, HK, HL, TK⟩ := hrel
      clear H6 HLF T6
      have he2 := (show e2 ≤ s.size from by
        rcases HL.out with ⟨_, _, x⟩ | ⟨x, _⟩
        · have := (lk_is (c := 125) x).1; omega
        · have := (lk_is (c := 44) x).1; omega)
      have KT := hid (fun w' (hp : Ps w' b s e2 (d + 1)) => take_any b s e2 (d + 1) 44 w' hp hs he2 (by decide))
      rcases HL.out with ⟨hr0, hef, h125⟩ | ⟨h44, hit⟩
      · have hne : lk s e2 ≠ 44 := by rw [h125]; decide
        rw [show ((44 : Nat) : Int) = 44 from rfl, decide_eq_false hne, if_neg hne] at KT
        have KN := hid (fun w' (hp : Ps w' b s e2 (d + 1)) => need_any b s ⟨#[125]⟩ e2 (d + 1) w' hp hs he2 (by decide))
        rw [show needE s (⟨#[125]⟩ : ByteArray).data.toList e2 = .ok (e2 + 1) from by
          show needE s [125] e2 = _
          rw [needE, if_pos (by rw [h125]; rfl), needE]] at KN
        unfold NeedR at KN
        have HR0 := hid hr0
        have HEF := hid hef
        clear hne hr0 hef h125 HL
        go_wp2_with fail
        refine (KT.out _ HK.out.ps).mono ?_
        rintro e3 w7 ⟨rfl, hp, tt⟩
        have H7 := hid (HK.out.goes hp tt)
        have T7 := hid (TK.out.trans tt (fun _ _ e => .inl e))
        clear hp tt KT HK TK
        go_wp2_with fail
        refine (KN.out _ H7.out.ps).mono ?_
        rintro e3 w8 ⟨rfl, hp, tt⟩
        have H8 := hid (H7.out.goes hp tt)
        have T8 := hid (T7.out.trans tt (fun _ _ e => .inl e))
        clear hp tt KN H7 T7
        have c2 := H8.out.ps.c2
        have f2 := H8.out.ps.fr (i := 2)
        go_wp2
        go_end0
        have TS := Touch.setCell (S := fun k => k = b) (Touch.refl _ w8) (p := ⟨b, 2, none⟩) (fun _ => rfl) (.int .i64 (d : Nat))
        have E1 := HE.out
        rw [HR0.out, List.append_nil] at E1
        rw [E1, ← HEF.out]
        exact ⟨rfl, v2', v3', H8.out.goesd (d' := d) (H8.out.ps.setd d) TS, Touch.trans T8.out TS (fun _ _ e => .inl e)⟩
      · rw [show ((44 : Nat) : Int) = 44 from rfl, decide_eq_true h44, if_pos h44] at KT
        obtain ⟨k2, o2, rs2, u2', e3, rfl, it2, hl2⟩ := items_cons hit
        have HL2 := hid hl2
        have IT2 := hid it2
        clear h44 hit HL it2 hl2
        go_wp2_with fail
        refine (KT.out _ HK.out.ps).mono ?_
        rintro e4 w7 ⟨rfl, hp, tt⟩
        have H7 := hid (HK.out.goes hp tt)
        have T7 := hid (TK.out.trans tt (fun _ _ e => .inl e))
        clear hp tt KT HK TK
        have B7 := hid (HTW.out.kept T7.out (fun e => by have := HB2.out; have := H7.out.low; omega) (fun e => by have := HB2.out; have := H7.out.low; omega))
        have KI := hid (item_of IT2.out HL2.out lo b bx q (d + 1) v2' v3' _ _ w7 H7.out (Nat.le_trans HLO.out T7.out.size) HB2.out B7.out hs (by unfold bytesL; simp; omega) (by unfold bytesL; simp; omega))
        simp only [Array.empty_append] at KI
        go_wp2_with fail
        refine KI.out.mono ?_
        rintro e4 w8 ⟨rfl, v2b, v3b, h8, t8⟩
        have H8 := hid h8
        have T8 := hid (T7.out.trans t8 (fun _ _ e => e))
        clear h8 t8 KI H7 T7 B7
        go_wp2
        go_roundg (gk - 1)
        case measure => rw [List.length_cons] at hrg; omega
        case rel =>
          rw [List.length_cons] at hrg hdl
          refine ⟨dn ++ [(k2, o2)], rs2, e3, v2b, v3b, by simp; omega, by omega, hid (by rw [HE.out]; simp), ?_, HL2, T8⟩
          have := H8
          unfold bytesL at this ⊢
          rw [List.map_append, List.map_append, List.map_append, List.map_append]
          exact this
end Go.Proofs.YtabhlhgfacpohaaDoor
