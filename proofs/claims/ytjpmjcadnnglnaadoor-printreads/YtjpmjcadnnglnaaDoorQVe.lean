/- Texts of this proof, one behind the other: what each says stands ahead of it. -/
import Derived.Test.YtjpmjcadnnglnaaDoorVd
import Derived.Test.YtjpmjcadnnglnaaDoorVk
/- A parser of JSON: row, of a list; conditions: as told. -/
namespace Go.Proofs.YtjpmjcadnnglnaaDoor
open Go.RowKit
open Go.Lib

/-- What the reading of brackets answers. -/
def RowP (w : World) (lo b bx q : Nat) (s : ByteArray) (d : Nat) (kd : Int) : JR (List (ByteArray × JV) × Nat) → Ending → World → Prop
  | .ok (l, u), e, w' => e = .returned (.tuple #[]) ∧ ∃ v2 v3 cs B, LS w' lo b bx q s u d kd v2 v3 (kyL kd l) cs (l.map Prod.snd) B ∧ Touch (fun k => k = b ∨ k = q ∨ lo ≤ k) w w'
  | .error (c, k), e, w' => e = thrown c k ∧ Touch (fun k => k = b ∨ k = q ∨ lo ≤ k) w w'
theorem kyL_more (kd : Int) (l m : List (ByteArray × JV)) : kyL kd (l ++ m) = kyL kd l ++ kyL kd m := by
  unfold kyL
  split
  · exact List.map_append
  · rfl
theorem tl_end {s : ByteArray} {one : Nat → JR (ByteArray × JV × Nat)} {f u : Nat} (h : lk s u ≠ 44) : tlF s one f u = .ok ([], u) := by
  match f with
  | 0 => rfl
  | f + 1 => rw [tlF, if_neg h]
theorem need_one (s : ByteArray) (c : UInt8) (t : Nat) : needE s [c] t = if lk s t = (c.toNat : Int) then .ok (t + 1) else .error t := by
  rw [needE]
  split
  · rw [needE]
  · rfl
/-- Brackets that stand too deep. -/
theorem row_deep (b : Nat) (s : ByteArray) (t : Nat) (br : ByteArray) (o c : ByteArray) (F : FuncId) (cap : Array Value) (w : World) (h : Ps w b s t 32)
    (s1 : ∀ w, (Instr.slice 9 (.string br) none (some (.int .i64 1)) none).run Tryd.prog w = .ok (.string o) w) (s2 : ∀ w, (Instr.slice 9 (.string br) (some (.int .i64 1)) none none).run Tryd.prog w = .ok (.string c) w) :
    Calls Tryd.prog 63 #[.pointer (some ⟨b, 0, none⟩), .string br, .func (.func F) #[] cap] w fun e w' => e = thrown 21 t ∧ Touch (fun k => k = b) w w' := by
  have c2 := h.c2
  have KW := hid (fun w' (hp : Ps w' b s t 32) => wrong_any b s t 32 21 w' hp)
  have HH := hid h
  unfold thrown at KW
  clear h
  go_enter Tryd.func63, Tryd.ntmps63
  go_wp2_with fail
  go_quiet (fail)
  have TQ := (Touch.refl (fun _ => False) w).drewN nq
  have H1 := hid (HH.out.new TQ)
  have T1 := hid TQ
  clear HH TQ c2
  generalize w.drewN nq = w1 at *
  have c2 := H1.out.c2
  go_wp2_with fail
  refine (KW.out _ H1.out).mono ?_
  rintro e w2 ⟨rfl, tt⟩
  have T2 := hid (T1.out.trans tt (fun _ _ e => e))
  clear tt KW H1 T1
  go_wp2
  exact ⟨rfl, rfl, T2.out.mono (fun _ _ e => e.elim)⟩
theorem item_five {lo b bx q : Nat} {s : ByteArray} {d : Nat} {sub : Nat → JR (JV × Nat)} (_hs : s.size ≤ 1048576) (_hb2 : 2 ≤ b) (_HF : Fwd s sub) (KV : ∀ w' t', Ps w' b s t' d → Tabs w' → t' ≤ s.size → Calls Tryd.prog 24 #[.pointer (some ⟨b, 0, none⟩)] w' fun e w'' => ValP s b d w' (sub t') e w'')
    (t : Nat) (ht : t ≤ s.size) (v2 v3 : Value) (ks : List ByteArray) (cs : List Cel) (xs : List JV) (B : Nat → Prop) (w : World) (h : LS w lo b bx q s t d 5 v2 v3 ks cs xs B) (hlo : lo ≤ w.heap.size) (htb : Tabs w) (_hn : ks.length ≤ 1048576) (hn3 : cs.length ≤ 1048576) :
    Calls Tryd.prog 64 #[.pointer (some ⟨q, 0, none⟩), .pointer (some ⟨bx, 0, none⟩)] w fun e w' => ItemP w lo b bx q s d 5 ks cs xs (oneE s 5 sub t) e w' := by
  obtain ⟨a2, c2, hv2⟩ := own_shape h.keys
  obtain ⟨a3, c3, hv3⟩ := own_shape h.kids
  subst hv2
  subst hv3
  have e : oneE s 5 sub = lstE sub := if_neg (by decide)
  rw [e]
  have := item_lst lo b bx q s t d a3 _ c3 _ ks cs xs B sub w h hlo htb hn3 (fun w' hp ht' => KV w' t hp ht' ht)
  simpa only [Array.empty_append] using this
set_option maxRecDepth 100000 in
set_option maxHeartbeats 8000000 in
theorem row_five (lo b bx q : Nat) (s : ByteArray) (t d : Nat) (v2 v3 : Value) (B : Nat → Prop) (sub : Nat → JR (JV × Nat)) (w : World) (h : LS w lo b bx q s t d 5 v2 v3 [] [] [] B) (hlo : lo ≤ w.heap.size) (hb2 : 2 ≤ b) (ht : Tabs w) (hs : s.size ≤ 1048576) (hd : d < 32) (h0 : lk s t = 91) (HF : Fwd s sub)
    (KV : ∀ w' t', Ps w' b s t' (d + 1) → Tabs w' → t' ≤ s.size → Calls Tryd.prog 24 #[.pointer (some ⟨b, 0, none⟩)] w' fun e w'' => ValP s b (d + 1) w' (sub t') e w'') :
    Calls Tryd.prog 63 #[.pointer (some ⟨b, 0, none⟩), .string ⟨#[91, 93]⟩, .func (.func 64) #[] #[.pointer (some ⟨q, 0, none⟩), .pointer (some ⟨bx, 0, none⟩)]] w fun e w' => RowP w lo b bx q s d 5 (rowE s 93 (oneE s 5 sub) t) e w' := by
  have htl := (lk_is (c := 91) h0).1
  have c2 := h.ps.c2
  have f2 := h.ps.fr (i := 2)
  have hdI : ((d : Int) == 32) = false := by simp; omega
  have HF3 := hid (one_fwd (kd := 5) HF)
  have KI := hid (fun t1 (h1 : t1 ≤ s.size) v2 v3 ks cs xs B w' (h : LS w' lo b bx q s t1 (d + 1) 5 v2 v3 ks cs xs B) (h2 : lo ≤ w'.heap.size) (h3 : Tabs w') (h4 : ks.length ≤ 1048576) (h5 : cs.length ≤ 1048576) => item_five (bx := bx) (q := q) (lo := lo) hs hb2 HF KV t1 h1 v2 v3 ks cs xs B w' h h2 h3 h4 h5)
  clear KV
  have KN := hid (fun w' (hp : Ps w' b s t (d + 1)) => need_any b s ⟨#[91]⟩ t (d + 1) w' hp hs (by omega) (by decide))
  rw [show needE s (⟨#[91]⟩ : ByteArray).data.toList t = .ok (t + 1) from by
    show needE s [91] t = _
    rw [needE, if_pos (by rw [h0]; rfl), needE]] at KN
  unfold NeedR at KN
  have KB := hid (fun w' (hp : Ps w' b s (t + 1) (d + 1)) => blanks_any b s (t + 1) (d + 1) w' hp hs (by omega))
  have hb1 := bl_ge s (t + 1)
  have hb3 := bl_le s (t + 1) htl
  have HH := hid h
  have HT := hid ht
  have HTW := hid ht
  have HB2 := hid hb2
  have HLO := hid hlo
  obtain ⟨BR, hBR⟩ : ∃ BR : ByteArray, BR = ⟨#[91, 93]⟩ := ⟨_, rfl⟩
  have s1 : ∀ w, (Instr.slice 9 (.string BR) none (some (.int .i64 1)) none).run Tryd.prog w = .ok (.string ⟨#[91]⟩) w := fun w => by rw [hBR]; rfl
  have s2 : ∀ w, (Instr.slice 9 (.string BR) (some (.int .i64 1)) none none).run Tryd.prog w = .ok (.string ⟨#[93]⟩) w := fun w => by rw [hBR]; rfl
  have ixc : ∀ w, (Instr.index 9 (.string ⟨#[93]⟩) (.int .i64 0)).run Tryd.prog w = .ok (.int .u8 93) w := fun w => rfl
  rw [← hBR]
  obtain ⟨X, hX⟩ : ∃ X, X = rowE s 93 (oneE s 5 sub) t := ⟨_, rfl⟩
  have HX := hid hX.symm
  rw [← hX]
  unfold rowE at HX
  generalize ht1 : bl s (t + 1) = t1 at *
  clear ht1
  generalize oneE s 5 sub = one at *
  clear h ht hb2 hBR hlo hX HF
  go_enter Tryd.func63, Tryd.ntmps63
  go_wp2_with fail
  go_quiet (fail)
  have TQ := (Touch.refl (fun _ => False) w).drewN nq
  have H1 := hid (HH.out.still TQ)
  have T1 := hid (TQ.mono (S' := fun k => k = b ∨ k = q ∨ lo ≤ k) (fun _ _ e => e.elim))
  have B1 := hid (HT.out.new TQ)
  clear HH TQ HT c2 f2
  generalize w.drewN nq = w1 at *
  have c2 := H1.out.ps.c2
  have f2 := H1.out.ps.fr (i := 2)
  go_upto_region 4 with fail
  have TS := Touch.setCell (S := fun k => k = b) (Touch.refl _ w1) (p := ⟨b, 2, none⟩) (fun _ => rfl) (.int .i64 ((d : Int) + 1))
  have H2 := hid (H1.out.goes (t' := t) (d' := d + 1) (by have := H1.out.ps.setd2 (d + 1); rw [Int.natCast_add] at this; exact this) TS)
  have T2 := hid (Touch.trans T1.out TS (fun _ _ e => .inl e))
  have B2 := hid (B1.out.kept TS (fun e => by have := HB2.out; omega) (fun e => by have := HB2.out; omega))
  clear TS H1 T1 B1 c2 f2
  generalize w1.setCell ⟨b, 2, none⟩ (.int .i64 ((d : Int) + 1)) = w2 at *
  go_wp2_with fail
  refine (KN.out _ H2.out.ps).mono ?_
  rintro e w3 ⟨rfl, hp, tt⟩
  have H3 := hid (H2.out.goes hp tt)
  have T3 := hid (T2.out.trans tt (fun _ _ e => .inl e))
  have B3 := hid (B2.out.kept tt (fun e => by have := HB2.out; omega) (fun e => by have := HB2.out; omega))
  clear hp tt KN H2 T2 B2
  go_wp2_with fail
  refine (KB.out _ H3.out.ps).mono ?_
  rintro e w4 ⟨rfl, hp, tt⟩
  have H4 := hid (H3.out.goes hp tt)
  have T4 := hid (T3.out.trans tt (fun _ _ e => .inl e))
  have B4 := hid (B3.out.kept tt (fun e => by have := HB2.out; omega) (fun e => by have := HB2.out; omega))
  clear hp tt KB H3 T3 B3
  have KT := hid (fun w' (hp : Ps w' b s t1 (d + 1)) => take_any b s t1 (d + 1) 93 w' hp hs hb3 (by decide))
  by_cases he : lk s t1 = 93
  · rw [show ((93 : Nat) : Int) = 93 from rfl, decide_eq_true he, if_pos he] at KT
    rw [if_pos he] at HX
    go_wp2_with fail
    refine (KT.out _ H4.out.ps).mono ?_
    rintro e w5 ⟨rfl, hp, tt⟩
    have H5 := hid (H4.out.goes hp tt)
    have T5 := hid (T4.out.trans tt (fun _ _ e => .inl e))
    clear hp tt KT H4 T4
    have c2 := H5.out.ps.c2
    have f2 := H5.out.ps.fr (i := 2)
    go_wp2
    go_end0
    have TS := Touch.setCell (S := fun k => k = b) (Touch.refl _ w5) (p := ⟨b, 2, none⟩) (fun _ => rfl) (.int .i64 (d : Nat))
    rw [← HX.out]
    exact ⟨rfl, _, _, _, _, H5.out.goes (t' := t1 + 1) (d' := d) (H5.out.ps.setd2 d) TS, Touch.trans T5.out TS (fun _ _ e => .inl e)⟩
  · rw [show ((93 : Nat) : Int) = 93 from rfl, decide_eq_false he, if_neg he] at KT
    rw [if_neg he] at HX
    go_wp2_with fail
    refine (KT.out _ H4.out.ps).mono ?_
    rintro e w5 ⟨rfl, hp, tt⟩
    have H5 := hid (H4.out.goes hp tt)
    have T5 := hid (T4.out.trans tt (fun _ _ e => .inl e))
    have B5 := hid (B4.out.kept tt (fun e => by have := HB2.out; omega) (fun e => by have := HB2.out; omega))
    clear hp tt KT H4 T4 B4 he
    have KI1 := hid (KI.out t1 hb3 v2 v3 [] [] [] B w5 H5.out (Nat.le_trans HLO.out T5.out.size) B5.out (by decide) (by decide))
    cases hE : one t1 with
    | error e0 =>
      obtain ⟨ec, ek⟩ := e0
      rw [hE] at KI1 HX
      unfold ItemP thrown at KI1
      clear hE
      go_wp2_with fail
      refine KI1.out.mono ?_
      rintro e w6 ⟨rfl, tt⟩
      have T6 := hid (T5.out.trans tt (fun _ _ e => e))
      clear tt KI1 KI H5 T5 B5
      go_wp2
      refine ⟨rfl, ?_⟩
      rw [← HX.out]
      exact ⟨rfl, T6.out⟩
    | ok p0 =>
    obtain ⟨k0, x0, u0⟩ := p0
    rw [hE] at KI1 HX
    have hu0 := HF3.out t1 k0 x0 u0 hb3 hE
    unfold ItemP at KI1
    clear hE
    go_wp2_with fail
    refine KI1.out.mono ?_
    rintro e w6 ⟨rfl, v2a, v3a, ca, Ba, h6, t6⟩
    have H6 := hid h6
    have T6 := hid (T5.out.trans t6 (fun _ _ e => e))
    clear h6 t6 KI1 H5 T5 B5
    go_wp2_with fail
    go_loopg [] (s.size - u0) (fun gk wq => ∃ (dn : List (ByteArray × JV)) (u f : Nat) (v2' v3' : Value) (cs : List Cel) (B' : Nat → Prop), u + gk = s.size ∧ dn.length ≤ u ∧ s.size ≤ u + f ∧ Hid (LS wq lo b bx q s u (d + 1) 5 v2' v3' (kyL 5 dn) cs (dn.map Prod.snd) B') ∧ Hid (endE s 93 (pre dn (tlF s one f u)) = X) ∧ Hid (Touch (fun k => k = b ∨ k = q ∨ lo ≤ k) w wq))
    case atStart => exact ⟨[(k0, x0)], u0, s.size, v2a, v3a, _, Ba, by omega, by simp; omega, by omega, H6, HX, T6⟩
    case round =>
      obtain ⟨dn, u, f, v2', v3', cs, B', hug, hdn, hfu, HK, HXK, TK⟩ := hrel
      clear H6 T6 HX
      have hus : u ≤ s.size := by omega
      have KT := hid (fun w' (hp : Ps w' b s u (d + 1)) => take_any b s u (d + 1) 44 w' hp hs hus (by decide))
      by_cases h44 : lk s u = 44
      · have hul := (lk_is (c := 44) h44).1
        obtain ⟨f', rfl⟩ : ∃ f', f = f' + 1 := ⟨f - 1, by omega⟩
        rw [tlF, if_pos h44] at HXK
        rw [show ((44 : Nat) : Int) = 44 from rfl, decide_eq_true h44, if_pos h44] at KT
        clear h44
        go_wp2_with fail
        refine (KT.out _ HK.out.ps).mono ?_
        rintro e4 w7 ⟨rfl, hp, tt⟩
        have H7 := hid (HK.out.goes hp tt)
        have T7 := hid (TK.out.trans tt (fun _ _ e => .inl e))
        clear hp tt KT HK TK
        have B7 := hid (HTW.out.kept T7.out (fun e => by have := HB2.out; have := H7.out.low; omega) (fun e => by have := HB2.out; have := H7.out.low; omega))
        have KI1 := hid (KI.out (u + 1) (by omega) v2' v3' _ _ _ B' w7 H7.out (Nat.le_trans HLO.out T7.out.size) B7.out (by unfold kyL; split; simp; omega; simp) (by rw [H7.out.len]; simp; omega))
        cases hE : one (u + 1) with
        | error e0 =>
          obtain ⟨ec, ek⟩ := e0
          rw [hE] at KI1 HXK
          unfold ItemP thrown at KI1
          clear hE
          go_wp2_with fail
          refine KI1.out.mono ?_
          rintro e w8 ⟨rfl, tt⟩
          have T8 := hid (T7.out.trans tt (fun _ _ e => e))
          clear tt KI1 KI H7 T7 B7
          go_wp2
          refine ⟨rfl, ?_⟩
          rw [← HXK.out]
          exact ⟨rfl, T8.out⟩
        | ok p0 =>
        obtain ⟨k2, x2, u2⟩ := p0
        have hu2 := HF3.out (u + 1) k2 x2 u2 (by omega) hE
        rw [hE] at KI1 HXK
        unfold ItemP at KI1
        clear hE
        go_wp2_with fail
        refine KI1.out.mono ?_
        rintro e w8 ⟨rfl, v2b, v3b, cb, Bb, h8, t8⟩
        have H8 := hid h8
        have T8 := hid (T7.out.trans t8 (fun _ _ e => e))
        clear h8 t8 KI1 H7 T7 B7
        go_wp2
        go_roundg (s.size - u2)
        case measure => omega
        case rel =>
          refine ⟨dn ++ [(k2, x2)], u2, f', v2b, v3b, cs ++ [cb], Bb, by omega, by simp; omega, by omega, ?_, hid (by rw [← HXK.out]; exact congrArg _ (pre_pre _ _ _).symm), T8⟩
          rw [kyL_more, List.map_append]
          exact H8
      · rw [show ((44 : Nat) : Int) = 44 from rfl, decide_eq_false h44, if_neg h44] at KT
        rw [tl_end h44] at HXK
        have KN := hid (fun w' (hp : Ps w' b s u (d + 1)) => need_any b s ⟨#[93]⟩ u (d + 1) w' hp hs hus (by decide))
        rw [show needE s (⟨#[93]⟩ : ByteArray).data.toList u = if lk s u = 93 then .ok (u + 1) else .error u from need_one s 93 u] at KN
        have HXK2 := hid (show (if lk s u = 93 then Except.ok (dn, u + 1) else Except.error (20, u)) = X from by have := HXK.out; rw [← this]; show _ = endE s 93 (.ok (dn ++ [], u)); rw [List.append_nil]; rfl)
        clear HXK
        by_cases hc : lk s u = 93
        · rw [if_pos hc] at KN HXK2
          unfold NeedR at KN
          clear h44 hc
          go_wp2_with fail
          refine (KT.out _ HK.out.ps).mono ?_
          rintro e3 w7 ⟨rfl, hp, tt⟩
          have H7 := hid (HK.out.goes hp tt)
          have T7 := hid (TK.out.trans tt (fun _ _ e => .inl e))
          clear hp tt KT HK TK KI
          go_wp2_with fail
          refine (KN.out _ H7.out.ps).mono ?_
          rintro e3 w8 ⟨rfl, hp, tt⟩
          have H8 := hid (H7.out.goes hp tt)
          have T8 := hid (T7.out.trans tt (fun _ _ e => .inl e))
          clear hp tt KN H7 T7
          have c2 := H8.out.ps.c2
          have f2 := H8.out.ps.fr (i := 2)
          go_wp2
          go_end0
          have TS := Touch.setCell (S := fun k => k = b) (Touch.refl _ w8) (p := ⟨b, 2, none⟩) (fun _ => rfl) (.int .i64 (d : Nat))
          rw [← HXK2.out]
          exact ⟨rfl, v2', v3', _, _, H8.out.goes (t' := u + 1) (d' := d) (H8.out.ps.setd2 d) TS, Touch.trans T8.out TS (fun _ _ e => .inl e)⟩
        · rw [if_neg hc] at KN HXK2
          unfold NeedR thrown at KN
          clear h44 hc
          go_wp2_with fail
          refine (KT.out _ HK.out.ps).mono ?_
          rintro e3 w7 ⟨rfl, hp, tt⟩
          have H7 := hid (HK.out.goes hp tt)
          have T7 := hid (TK.out.trans tt (fun _ _ e => .inl e))
          clear hp tt KT HK TK KI
          go_wp2_with fail
          refine (KN.out _ H7.out.ps).mono ?_
          rintro e3 w8 ⟨rfl, hp, tt⟩
          have T8 := hid (T7.out.trans tt (fun _ _ e => .inl e))
          clear hp tt KN H7 T7
          go_wp2
          refine ⟨rfl, ?_⟩
          rw [← HXK2.out]
          exact ⟨rfl, T8.out⟩
end Go.Proofs.YtjpmjcadnnglnaaDoor

/- A parser of JSON: row, of an object; conditions: as told. -/
namespace Go.Proofs.YtjpmjcadnnglnaaDoor
open Go.RowKit
open Go.Lib

theorem item_six {lo b bx q : Nat} {s : ByteArray} {d : Nat} {sub : Nat → JR (JV × Nat)} (hs : s.size ≤ 1048576) (hb2 : 2 ≤ b) (_HF : Fwd s sub) (KV : ∀ w' t', Ps w' b s t' d → Tabs w' → t' ≤ s.size → Calls Tryd.prog 24 #[.pointer (some ⟨b, 0, none⟩)] w' fun e w'' => ValP s b d w' (sub t') e w'')
    (t : Nat) (ht : t ≤ s.size) (v2 v3 : Value) (ks : List ByteArray) (cs : List Cel) (xs : List JV) (B : Nat → Prop) (w : World) (h : LS w lo b bx q s t d 6 v2 v3 ks cs xs B) (hlo : lo ≤ w.heap.size) (htb : Tabs w) (hn : ks.length ≤ 1048576) (hn3 : cs.length ≤ 1048576) :
    Calls Tryd.prog 65 #[.pointer (some ⟨bx, 0, none⟩), .pointer (some ⟨q, 0, none⟩)] w fun e w' => ItemP w lo b bx q s d 6 ks cs xs (oneE s 6 sub t) e w' := by
  obtain ⟨a2, c2, hv2⟩ := own_shape h.keys
  obtain ⟨a3, c3, hv3⟩ := own_shape h.kids
  subst hv2
  subst hv3
  have e : oneE s 6 sub = keyE s sub := if_pos rfl
  rw [e]
  have := item_obj lo b bx q s t d a2 _ c2 a3 _ c3 ks cs xs B sub w h hlo hb2 htb hs ht hn hn3 KV
  simpa only [Array.empty_append] using this
set_option maxRecDepth 100000 in
set_option maxHeartbeats 8000000 in
theorem row_six (lo b bx q : Nat) (s : ByteArray) (t d : Nat) (v2 v3 : Value) (B : Nat → Prop) (sub : Nat → JR (JV × Nat)) (w : World) (h : LS w lo b bx q s t d 6 v2 v3 [] [] [] B) (hlo : lo ≤ w.heap.size) (hb2 : 2 ≤ b) (ht : Tabs w) (hs : s.size ≤ 1048576) (hd : d < 32) (h0 : lk s t = 123) (HF : Fwd s sub)
    (KV : ∀ w' t', Ps w' b s t' (d + 1) → Tabs w' → t' ≤ s.size → Calls Tryd.prog 24 #[.pointer (some ⟨b, 0, none⟩)] w' fun e w'' => ValP s b (d + 1) w' (sub t') e w'') :
    Calls Tryd.prog 63 #[.pointer (some ⟨b, 0, none⟩), .string ⟨#[123, 125]⟩, .func (.func 65) #[] #[.pointer (some ⟨bx, 0, none⟩), .pointer (some ⟨q, 0, none⟩)]] w fun e w' => RowP w lo b bx q s d 6 (rowE s 125 (oneE s 6 sub) t) e w' := by
  have htl := (lk_is (c := 123) h0).1
  have c2 := h.ps.c2
  have f2 := h.ps.fr (i := 2)
  have hdI : ((d : Int) == 32) = false := by simp; omega
  have HF3 := hid (one_fwd (kd := 6) HF)
  have KI := hid (fun t1 (h1 : t1 ≤ s.size) v2 v3 ks cs xs B w' (h : LS w' lo b bx q s t1 (d + 1) 6 v2 v3 ks cs xs B) (h2 : lo ≤ w'.heap.size) (h3 : Tabs w') (h4 : ks.length ≤ 1048576) (h5 : cs.length ≤ 1048576) => item_six (bx := bx) (q := q) (lo := lo) hs hb2 HF KV t1 h1 v2 v3 ks cs xs B w' h h2 h3 h4 h5)
  clear KV
  have KN := hid (fun w' (hp : Ps w' b s t (d + 1)) => need_any b s ⟨#[123]⟩ t (d + 1) w' hp hs (by omega) (by decide))
  rw [show needE s (⟨#[123]⟩ : ByteArray).data.toList t = .ok (t + 1) from by
    show needE s [123] t = _
    rw [needE, if_pos (by rw [h0]; rfl), needE]] at KN
  unfold NeedR at KN
  have KB := hid (fun w' (hp : Ps w' b s (t + 1) (d + 1)) => blanks_any b s (t + 1) (d + 1) w' hp hs (by omega))
  have hb1 := bl_ge s (t + 1)
  have hb3 := bl_le s (t + 1) htl
  have HH := hid h
  have HT := hid ht
  have HTW := hid ht
  have HB2 := hid hb2
  have HLO := hid hlo
  obtain ⟨BR, hBR⟩ : ∃ BR : ByteArray, BR = ⟨#[123, 125]⟩ := ⟨_, rfl⟩
  have s1 : ∀ w, (Instr.slice 9 (.string BR) none (some (.int .i64 1)) none).run Tryd.prog w = .ok (.string ⟨#[123]⟩) w := fun w => by rw [hBR]; rfl
  have s2 : ∀ w, (Instr.slice 9 (.string BR) (some (.int .i64 1)) none none).run Tryd.prog w = .ok (.string ⟨#[125]⟩) w := fun w => by rw [hBR]; rfl
  have ixc : ∀ w, (Instr.index 9 (.string ⟨#[125]⟩) (.int .i64 0)).run Tryd.prog w = .ok (.int .u8 125) w := fun w => rfl
  rw [← hBR]
  obtain ⟨X, hX⟩ : ∃ X, X = rowE s 125 (oneE s 6 sub) t := ⟨_, rfl⟩
  have HX := hid hX.symm
  rw [← hX]
  unfold rowE at HX
  generalize ht1 : bl s (t + 1) = t1 at *
  clear ht1
  generalize oneE s 6 sub = one at *
  clear h ht hb2 hBR hlo hX HF
  go_enter Tryd.func63, Tryd.ntmps63
  go_wp2_with fail
  go_quiet (fail)
  have TQ := (Touch.refl (fun _ => False) w).drewN nq
  have H1 := hid (HH.out.still TQ)
  have T1 := hid (TQ.mono (S' := fun k => k = b ∨ k = q ∨ lo ≤ k) (fun _ _ e => e.elim))
  have B1 := hid (HT.out.new TQ)
  clear HH TQ HT c2 f2
  generalize w.drewN nq = w1 at *
  have c2 := H1.out.ps.c2
  have f2 := H1.out.ps.fr (i := 2)
  go_upto_region 4 with fail
  have TS := Touch.setCell (S := fun k => k = b) (Touch.refl _ w1) (p := ⟨b, 2, none⟩) (fun _ => rfl) (.int .i64 ((d : Int) + 1))
  have H2 := hid (H1.out.goes (t' := t) (d' := d + 1) (by have := H1.out.ps.setd2 (d + 1); rw [Int.natCast_add] at this; exact this) TS)
  have T2 := hid (Touch.trans T1.out TS (fun _ _ e => .inl e))
  have B2 := hid (B1.out.kept TS (fun e => by have := HB2.out; omega) (fun e => by have := HB2.out; omega))
  clear TS H1 T1 B1 c2 f2
  generalize w1.setCell ⟨b, 2, none⟩ (.int .i64 ((d : Int) + 1)) = w2 at *
  go_wp2_with fail
  refine (KN.out _ H2.out.ps).mono ?_
  rintro e w3 ⟨rfl, hp, tt⟩
  have H3 := hid (H2.out.goes hp tt)
  have T3 := hid (T2.out.trans tt (fun _ _ e => .inl e))
  have B3 := hid (B2.out.kept tt (fun e => by have := HB2.out; omega) (fun e => by have := HB2.out; omega))
  clear hp tt KN H2 T2 B2
  go_wp2_with fail
  refine (KB.out _ H3.out.ps).mono ?_
  rintro e w4 ⟨rfl, hp, tt⟩
  have H4 := hid (H3.out.goes hp tt)
  have T4 := hid (T3.out.trans tt (fun _ _ e => .inl e))
  have B4 := hid (B3.out.kept tt (fun e => by have := HB2.out; omega) (fun e => by have := HB2.out; omega))
  clear hp tt KB H3 T3 B3
  have KT := hid (fun w' (hp : Ps w' b s t1 (d + 1)) => take_any b s t1 (d + 1) 125 w' hp hs hb3 (by decide))
  by_cases he : lk s t1 = 125
  · rw [show ((125 : Nat) : Int) = 125 from rfl, decide_eq_true he, if_pos he] at KT
    rw [if_pos he] at HX
    go_wp2_with fail
    refine (KT.out _ H4.out.ps).mono ?_
    rintro e w5 ⟨rfl, hp, tt⟩
    have H5 := hid (H4.out.goes hp tt)
    have T5 := hid (T4.out.trans tt (fun _ _ e => .inl e))
    clear hp tt KT H4 T4
    have c2 := H5.out.ps.c2
    have f2 := H5.out.ps.fr (i := 2)
    go_wp2
    go_end0
    have TS := Touch.setCell (S := fun k => k = b) (Touch.refl _ w5) (p := ⟨b, 2, none⟩) (fun _ => rfl) (.int .i64 (d : Nat))
    rw [← HX.out]
    exact ⟨rfl, _, _, _, _, H5.out.goes (t' := t1 + 1) (d' := d) (H5.out.ps.setd2 d) TS, Touch.trans T5.out TS (fun _ _ e => .inl e)⟩
  · rw [show ((125 : Nat) : Int) = 125 from rfl, decide_eq_false he, if_neg he] at KT
    rw [if_neg he] at HX
    go_wp2_with fail
    refine (KT.out _ H4.out.ps).mono ?_
    rintro e w5 ⟨rfl, hp, tt⟩
    have H5 := hid (H4.out.goes hp tt)
    have T5 := hid (T4.out.trans tt (fun _ _ e => .inl e))
    have B5 := hid (B4.out.kept tt (fun e => by have := HB2.out; omega) (fun e => by have := HB2.out; omega))
    clear hp tt KT H4 T4 B4 he
    have KI1 := hid (KI.out t1 hb3 v2 v3 [] [] [] B w5 H5.out (Nat.le_trans HLO.out T5.out.size) B5.out (by decide) (by decide))
    cases hE : one t1 with
    | error e0 =>
      obtain ⟨ec, ek⟩ := e0
      rw [hE] at KI1 HX
      unfold ItemP thrown at KI1
      clear hE
      go_wp2_with fail
      refine KI1.out.mono ?_
      rintro e w6 ⟨rfl, tt⟩
      have T6 := hid (T5.out.trans tt (fun _ _ e => e))
      clear tt KI1 KI H5 T5 B5
      go_wp2
      refine ⟨rfl, ?_⟩
      rw [← HX.out]
      exact ⟨rfl, T6.out⟩
    | ok p0 =>
    obtain ⟨k0, x0, u0⟩ := p0
    rw [hE] at KI1 HX
    have hu0 := HF3.out t1 k0 x0 u0 hb3 hE
    unfold ItemP at KI1
    clear hE
    go_wp2_with fail
    refine KI1.out.mono ?_
    rintro e w6 ⟨rfl, v2a, v3a, ca, Ba, h6, t6⟩
    have H6 := hid h6
    have T6 := hid (T5.out.trans t6 (fun _ _ e => e))
    clear h6 t6 KI1 H5 T5 B5
    go_wp2_with fail
    go_loopg [] (s.size - u0) (fun gk wq => ∃ (dn : List (ByteArray × JV)) (u f : Nat) (v2' v3' : Value) (cs : List Cel) (B' : Nat → Prop), u + gk = s.size ∧ dn.length ≤ u ∧ s.size ≤ u + f ∧ Hid (LS wq lo b bx q s u (d + 1) 6 v2' v3' (kyL 6 dn) cs (dn.map Prod.snd) B') ∧ Hid (endE s 125 (pre dn (tlF s one f u)) = X) ∧ Hid (Touch (fun k => k = b ∨ k = q ∨ lo ≤ k) w wq))
    case atStart => exact ⟨[(k0, x0)], u0, s.size, v2a, v3a, _, Ba, by omega, by simp; omega, by omega, H6, HX, T6⟩
    case round =>
      obtain ⟨dn, u, f, v2', v3', cs, B', hug, hdn, hfu, HK, HXK, TK⟩ := hrel
      clear H6 T6 HX
      have hus : u ≤ s.size := by omega
      have KT := hid (fun w' (hp : Ps w' b s u (d + 1)) => take_any b s u (d + 1) 44 w' hp hs hus (by decide))
      by_cases h44 : lk s u = 44
      · have hul := (lk_is (c := 44) h44).1
        obtain ⟨f', rfl⟩ : ∃ f', f = f' + 1 := ⟨f - 1, by omega⟩
        rw [tlF, if_pos h44] at HXK
        rw [show ((44 : Nat) : Int) = 44 from rfl, decide_eq_true h44, if_pos h44] at KT
        clear h44
        go_wp2_with fail
        refine (KT.out _ HK.out.ps).mono ?_
        rintro e4 w7 ⟨rfl, hp, tt⟩
        have H7 := hid (HK.out.goes hp tt)
        have T7 := hid (TK.out.trans tt (fun _ _ e => .inl e))
        clear hp tt KT HK TK
        have B7 := hid (HTW.out.kept T7.out (fun e => by have := HB2.out; have := H7.out.low; omega) (fun e => by have := HB2.out; have := H7.out.low; omega))
        have KI1 := hid (KI.out (u + 1) (by omega) v2' v3' _ _ _ B' w7 H7.out (Nat.le_trans HLO.out T7.out.size) B7.out (by unfold kyL; split; simp; omega; simp) (by rw [H7.out.len]; simp; omega))
        cases hE : one (u + 1) with
        | error e0 =>
          obtain ⟨ec, ek⟩ := e0
          rw [hE] at KI1 HXK
          unfold ItemP thrown at KI1
          clear hE
          go_wp2_with fail
          refine KI1.out.mono ?_
          rintro e w8 ⟨rfl, tt⟩
          have T8 := hid (T7.out.trans tt (fun _ _ e => e))
          clear tt KI1 KI H7 T7 B7
          go_wp2
          refine ⟨rfl, ?_⟩
          rw [← HXK.out]
          exact ⟨rfl, T8.out⟩
        | ok p0 =>
        obtain ⟨k2, x2, u2⟩ := p0
        have hu2 := HF3.out (u + 1) k2 x2 u2 (by omega) hE
        rw [hE] at KI1 HXK
        unfold ItemP at KI1
        clear hE
        go_wp2_with fail
        refine KI1.out.mono ?_
        rintro e w8 ⟨rfl, v2b, v3b, cb, Bb, h8, t8⟩
        have H8 := hid h8
        have T8 := hid (T7.out.trans t8 (fun _ _ e => e))
        clear h8 t8 KI1 H7 T7 B7
        go_wp2
        go_roundg (s.size - u2)
        case measure => omega
        case rel =>
          refine ⟨dn ++ [(k2, x2)], u2, f', v2b, v3b, cs ++ [cb], Bb, by omega, by simp; omega, by omega, ?_, hid (by rw [← HXK.out]; exact congrArg _ (pre_pre _ _ _).symm), T8⟩
          rw [kyL_more, List.map_append]
          exact H8
      · rw [show ((44 : Nat) : Int) = 44 from rfl, decide_eq_false h44, if_neg h44] at KT
        rw [tl_end h44] at HXK
        have KN := hid (fun w' (hp : Ps w' b s u (d + 1)) => need_any b s ⟨#[125]⟩ u (d + 1) w' hp hs hus (by decide))
        rw [show needE s (⟨#[125]⟩ : ByteArray).data.toList u = if lk s u = 125 then .ok (u + 1) else .error u from need_one s 125 u] at KN
        have HXK2 := hid (show (if lk s u = 125 then Except.ok (dn, u + 1) else Except.error (20, u)) = X from by have := HXK.out; rw [← this]; show _ = endE s 125 (.ok (dn ++ [], u)); rw [List.append_nil]; rfl)
        clear HXK
        by_cases hc : lk s u = 125
        · rw [if_pos hc] at KN HXK2
          unfold NeedR at KN
          clear h44 hc
          go_wp2_with fail
          refine (KT.out _ HK.out.ps).mono ?_
          rintro e3 w7 ⟨rfl, hp, tt⟩
          have H7 := hid (HK.out.goes hp tt)
          have T7 := hid (TK.out.trans tt (fun _ _ e => .inl e))
          clear hp tt KT HK TK KI
          go_wp2_with fail
          refine (KN.out _ H7.out.ps).mono ?_
          rintro e3 w8 ⟨rfl, hp, tt⟩
          have H8 := hid (H7.out.goes hp tt)
          have T8 := hid (T7.out.trans tt (fun _ _ e => .inl e))
          clear hp tt KN H7 T7
          have c2 := H8.out.ps.c2
          have f2 := H8.out.ps.fr (i := 2)
          go_wp2
          go_end0
          have TS := Touch.setCell (S := fun k => k = b) (Touch.refl _ w8) (p := ⟨b, 2, none⟩) (fun _ => rfl) (.int .i64 (d : Nat))
          rw [← HXK2.out]
          exact ⟨rfl, v2', v3', _, _, H8.out.goes (t' := u + 1) (d' := d) (H8.out.ps.setd2 d) TS, Touch.trans T8.out TS (fun _ _ e => .inl e)⟩
        · rw [if_neg hc] at KN HXK2
          unfold NeedR thrown at KN
          clear h44 hc
          go_wp2_with fail
          refine (KT.out _ HK.out.ps).mono ?_
          rintro e3 w7 ⟨rfl, hp, tt⟩
          have H7 := hid (HK.out.goes hp tt)
          have T7 := hid (TK.out.trans tt (fun _ _ e => .inl e))
          clear hp tt KT HK TK KI
          go_wp2_with fail
          refine (KN.out _ H7.out.ps).mono ?_
          rintro e3 w8 ⟨rfl, hp, tt⟩
          have T8 := hid (T7.out.trans tt (fun _ _ e => .inl e))
          clear hp tt KN H7 T7
          go_wp2
          refine ⟨rfl, ?_⟩
          rw [← HXK2.out]
          exact ⟨rfl, T8.out⟩
end Go.Proofs.YtjpmjcadnnglnaaDoor
