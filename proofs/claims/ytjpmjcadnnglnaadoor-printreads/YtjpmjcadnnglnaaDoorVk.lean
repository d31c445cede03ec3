/- A parser of JSON: an object's item; conditions: as told. -/
import Derived.Test.YtjpmjcadnnglnaaDoorVd
namespace Go.Proofs.YtjpmjcadnnglnaaDoor
open Go.RowKit
open Go.Lib

/-- What a key's reading answers in the midst of an object's. -/
def KeyK (w1 : World) (lo b bx q : Nat) (s : ByteArray) (d : Nat) (kd : Int) (v2 v3 : Value) (ks : List ByteArray) (cs : List Cel) (xs : List JV) (B : Nat → Prop) (r : Except Nat (Bs × Nat)) (v : Value) (w' : World) : Prop :=
  ∃ (o : ByteArray) (ob : Bs) (u : Nat), r = .ok (ob, u) ∧ o = ⟨ob.toArray⟩ ∧ v = .string o ∧ LS w' lo b bx q s u d kd v2 v3 ks cs xs B ∧ Touch (fun k => k = b) w1 w'
def KeyT (w1 : World) (b : Nat) (r : Except Nat (Bs × Nat)) (ps : List PanicEntry) (w' : World) : Prop :=
  ∃ k : Nat, r = .error k ∧ ps = [{ v := .iface 39 (.agg #[.int .i64 ((20 : Nat) : Int), .int .i64 (k : Nat)]), recovered := false }] ∧ Touch (fun k => k = b) w1 w'
theorem key_calls {w1 wB : World} {lo b bx q : Nat} {s : ByteArray} {t d : Nat} {kd : Int} {v2 v3 : Value} {ks : List ByteArray} {cs : List Cel} {xs : List JV} {B : Nat → Prop} (h : LS w1 lo b bx q s t d kd v2 v3 ks cs xs B) (ht : Tabs w1) (hb2 : 2 ≤ b) (hs : s.size ≤ 1048576) (htt : t ≤ s.size)
    (T2 : Touch (fun _ => False) w1 wB) :
    Calls Tryd.prog 57 #[.pointer (some ⟨b, 0, none⟩)] wB fun e w' => (∃ v, e = .returned v ∧ KeyK w1 lo b bx q s d kd v2 v3 ks cs xs B (quotE s t) v w') ∨ (∃ ps, e = .panicked ps ∧ KeyT w1 b (quotE s t) ps w') := by
  refine (quoted_any b s t d wB (h.ps.new T2) hb2 (ht.new T2) hs htt).mono ?_
  intro e w' hv
  match quotE s t, hv with
  | .ok (o, u), hv =>
    obtain ⟨rfl, hp, tt⟩ := hv
    have T6 := Touch.trans (S := fun k => k = b) (T2.mono (fun _ _ e => e.elim)) tt (fun _ _ e => e)
    exact .inl ⟨_, rfl, _, o, u, rfl, rfl, rfl, h.goes hp T6, T6⟩
  | .error k, hv =>
    obtain ⟨rfl, hp, tt⟩ := hv
    exact .inr ⟨_, rfl, k, rfl, rfl, Touch.trans (S := fun k => k = b) (T2.mono (fun _ _ e => e.elim)) tt (fun _ _ e => e)⟩
set_option maxRecDepth 100000 in
set_option maxHeartbeats 8000000 in
theorem item_obj (lo b bx q : Nat) (s : ByteArray) (t d : Nat) (a2 : Option Addr) (n2 c2 : Nat) (a3 : Option Addr) (n3 c3 : Nat) (ks : List ByteArray) (cs : List Cel) (xs : List JV) (B : Nat → Prop) (sub : Nat → JR (JV × Nat)) (w : World) (h : LS w lo b bx q s t d 6 (.slice a2 n2 c2) (.slice a3 n3 c3) ks cs xs B) (hlo : lo ≤ w.heap.size) (hb2 : 2 ≤ b) (ht : Tabs w) (hs : s.size ≤ 1048576) (htt : t ≤ s.size) (hn : ks.length ≤ 1048576) (hn3 : cs.length ≤ 1048576)
    (KV0 : ∀ w' t', Ps w' b s t' d → Tabs w' → t' ≤ s.size → Calls Tryd.prog 24 #[.pointer (some ⟨b, 0, none⟩)] w' fun e w'' => ValP s b d w' (sub t') e w'') :
    Calls Tryd.prog 65 (#[] ++ #[.pointer (some ⟨bx, 0, none⟩), .pointer (some ⟨q, 0, none⟩)]) w fun e w' => ItemP w lo b bx q s d 6 ks cs xs (keyE s sub t) e w' := by
  obtain ⟨i0, hi9, hz0, hz1, hz2⟩ := info_parts info9b
  obtain ⟨i6, hi26, hy0, hy1, hy2⟩ := info_parts info26b
  have hbs := bl_le s t htt
  have KB := hid (fun w' (hp : Ps w' b s t d) => blanks_any b s t d w' hp hs htt)
  have KV9 := hid KV0
  have HO := hid h
  have HT0 := hid ht
  have HTB := hid ht
  have HB2 := hid hb2
  have HQF := hid (fun o u => quot_fwd (s := s) (t := bl s t) (u := u) (o := o) hbs)
  have cbx := (show w.cell? ⟨bx, 0, none⟩ = some (.pointer (some ⟨b, 0, none⟩)) from by have := h.box; simp [World.cell?, this])
  obtain ⟨X, hX⟩ : ∃ X, X = keyE s sub t := ⟨_, rfl⟩
  have HX := hid hX.symm
  rw [← hX]
  unfold keyE at HX
  clear h ht KV0 hX hb2
  go_enter Tryd.func65, Tryd.ntmps65
  go_wp2_with fail
  refine (KB.out _ HO.out.ps).mono ?_
  rintro e w1 ⟨rfl, hp, tt⟩
  have H1 := hid (HO.out.goes hp tt)
  have T1 := hid tt
  have TB1 := hid (HTB.out.kept tt (fun e => by have := HB2.out; omega) (fun e => by have := HB2.out; omega))
  clear hp tt KB HO HTB cbx
  have ob := H1.out.obj
  have bb := H1.out.box
  have c1 : w1.cell? ⟨bx, 0, none⟩ = some (.pointer (some ⟨b, 0, none⟩)) := by simp [World.cell?, bb]
  have c2' : w1.cell? ⟨q, 2, none⟩ = some (.slice a2 n2 c2) := by simp [World.cell?, ob]
  have f2' : w1.frozen? ⟨q, 2, none⟩ = false := by simp [World.frozen?, ob]
  clear ob bb
  go_upto_region 1 with fail
  have HN2 := hid (show n2 = ks.length from by
    obtain ⟨_, _, hh⟩ := own_shape H1.out.keys
    cases hh
    rfl)
  have hen78 : ∀ args w, (callFunc 57 args).run Tryd.prog w = .ok (.enter 57 args) w := Go.Proofs.enters_of Tryd.func57 (by kernel_rfl) rfl
  have hnm : n2 ≤ 1048576 := by have := HN2.out; omega
  have HLO := hid (Nat.le_trans hlo T1.out.size)
  have KQ1 := hid (key_calls H1.out TB1.out HB2.out hs hbs (wB := w1.drew) (Touch.refl _ _).drew)
  generalize quotE s (bl s t) = RQ at *
  go_cut [9] (fun v9 wd => ∃ (o : Bs) (u : Nat) (a4 : Option Addr) (m4 c4 : Nat), RQ = .ok (o, u) ∧ v9 = .slice a4 m4 c4 ∧ LS wd lo b bx q s u d 6 (.slice a4 m4 c4) (.slice a3 n3 c3) (ks ++ [⟨o.toArray⟩]) cs xs B ∧ Touch (fun k => k = b ∨ k = q ∨ lo ≤ k) w wd)
  case first =>
   go_region_law (first
    | (refine step_call2 (by rfl) 57 _ _ (by rfl) #[.pointer (some ⟨b, 0, none⟩)] (by rfl) hen78 (KeyK w1 lo b bx q s d 6 (.slice a2 n2 c2) (.slice a3 n3 c3) ks cs xs B RQ) (KeyT w1 b RQ) KQ1.out (by
         rintro ps w' ⟨k, hr, rfl, tt⟩
         subst hr
         refine ⟨rfl, ?_⟩
         rw [← HX.out]
         exact ⟨rfl, Touch.trans (S := fun k => k = b ∨ k = q ∨ lo ≤ k) (T1.out.mono (fun _ _ e => .inl e)) tt (fun _ _ e => .inl e)⟩) ?_
       intro v w2 hr
       obtain ⟨KK, obs, uu, hRQ, hKK, rfl, ho2, t2⟩ := hr
       have c2a : w2.cell? ⟨q, 2, none⟩ = some (.slice a2 n2 c2) := (by have := ho2.obj; simp [World.cell?, this])
       have c2b : ∀ o, (w2.alloc o).cell? ⟨q, 2, none⟩ = some (.slice a2 n2 c2) := fun o => (((Touch.refl (fun _ => False) w2).alloc o).cell (p := ⟨q, 2, none⟩) (lt_of_block ho2.obj) id).trans c2a
       have OW2 := hid (show w2.ownsRow 0 9 1 (.slice a2 n2 c2) n2 (ks.map Value.string) from (by have := ho2.keys; unfold SL at this; rw [← HN2.out] at this; exact this))
       have H2 := hid ho2
       have T2 := hid t2
       have HRQ := hid hRQ
       have HKK := hid hKK
       clear ho2 t2 hRQ hKK)
    | (refine step_append_own _ (by rfl) _ _ _ (by rfl) 0 9 i0 _ 1 16 Tryd.underlying33 hi9 hz0 hz1 hz2 rfl (by decide) _ _ _ (by rfl) (OW2.out.alloc _) ⟨w2.heap.size, 0, none⟩ 1 1 [.string KK] (by rfl) (by rfl) (row_new w2 [.string KK] 9) (by intro u hu; simp at hu; subst hu; rfl) (by unfold maxLen; omega) (by omega) (Nat.zero_le _) (w2.heap.size + 1) (by simp) ?_
       intro v' w3 hown hgrow hat
       obtain ⟨a4, c4, hv4⟩ := own_shape hown
       subst hv4
       have ob3 : w3.heap[q]? = some (.cells #[.int .i64 6, .string ⟨#[]⟩, .slice a2 n2 c2, .slice a3 n3 c3] 36 (0, 0)) := (by
         refine (hgrow.block q (Nat.lt_of_lt_of_le (lt_of_block H2.out.obj) (by simp)) (fun e => by have := H2.out.new2 q e.symm; have := H2.out.low; omega)).trans ?_
         exact (((Touch.refl (fun _ => False) w2).alloc _).block q (lt_of_block H2.out.obj) id).trans H2.out.obj)
       have c3a : w3.cell? ⟨q, 2, none⟩ = some (.slice a2 n2 c2) := (by simp [World.cell?, ob3])
       have f3a : w3.frozen? ⟨q, 2, none⟩ = false := (by simp [World.frozen?, ob3])
       have OW3 := hid hown
       have GW3 := hid hgrow
       have HAT := hid hat
       clear hown hgrow hat c2a c2b OW2))
   all_goals
     obtain ⟨OS4, T4⟩ := H2.out.keyed (K := KK) (Nat.le_trans HLO.out T2.out.size) HN2.out OW3.out ⟨GW3.out.os, GW3.out.tape, GW3.out.output, GW3.out.size, GW3.out.block⟩ HAT.out
     have H4 := hid OS4
     have T4' := hid (Touch.trans (S := fun k => k = b ∨ k = q ∨ lo ≤ k) (Touch.trans (S := fun k => k = b) T1.out T2.out (fun _ _ e => e) |>.mono (fun _ _ e => .inl e)) T4 (fun _ _ e => .inr e))
     clear OS4 T4 H2 T2 OW3 GW3 HAT c3a f3a ob3
     go_wp2
     go_meet
     case rel => exact ⟨obs, uu, _, _, _, HRQ.out, rfl, by rw [← HKK.out]; exact H4.out, T4'.out⟩
  obtain ⟨o, u, a4, m4, c4, hRQ, rfl, hos, tw⟩ := hcut
  have hu := (HQF.out o u hRQ).2
  have hub := bl_le s u hu
  rw [hRQ] at HX
  have H4 := hid hos
  have T4 := hid tw
  clear hos tw KQ1 H1 T1 c1 c2' f2' hRQ HQF
  have KB2 := hid (fun w' (hp : Ps w' b s u d) => blanks_any b s u d w' hp hs hu)
  have KN := hid (fun w' (hp : Ps w' b s (bl s u) d) => need_any b s ⟨#[58]⟩ (bl s u) d w' hp hs hub (by decide))
  rw [show needE s (⟨#[58]⟩ : ByteArray).data.toList (bl s u) = needE s [58] (bl s u) from rfl] at KN
  try simp only at HX
  have HNF := hid (fun v => need_ok s [58] (bl s u) v hub)
  generalize needE s [58] (bl s u) = RN at *
  generalize hOO : (⟨o.toArray⟩ : ByteArray) = OO at *
  have TB4 := hid (HT0.out.kept T4.out (fun e => by have := HB2.out; have := H4.out.low; omega) (fun e => by have := HB2.out; have := H4.out.low; omega))
  have cb4 : wc.cell? ⟨bx, 0, none⟩ = some (.pointer (some ⟨b, 0, none⟩)) := by have := H4.out.box; simp [World.cell?, this]
  go_wp2_with fail
  refine (KB2.out _ H4.out.ps).mono ?_
  rintro e w5 ⟨rfl, hp, tt⟩
  have H5 := hid (H4.out.goes hp tt)
  have T5 := hid (T4.out.trans tt (fun _ _ e => .inl e))
  have TB5 := hid (TB4.out.kept tt (fun e => by have := HB2.out; omega) (fun e => by have := HB2.out; omega))
  clear hp tt KB2 H4 T4 TB4 cb4
  have cb5 : w5.cell? ⟨bx, 0, none⟩ = some (.pointer (some ⟨b, 0, none⟩)) := by have := H5.out.box; simp [World.cell?, this]
  match RN with
  | .error ek =>
    unfold NeedR thrown at KN
    go_wp2_with fail
    refine (KN.out _ H5.out.ps).mono ?_
    rintro e w6 ⟨rfl, hp, tt⟩
    have T6 := hid (T5.out.trans tt (fun _ _ e => .inl e))
    clear hp tt KN H5 T5 TB5 cb5
    go_wp2
    refine ⟨rfl, ?_⟩
    rw [← HX.out]
    exact ⟨rfl, T6.out⟩
  | .ok tv =>
  unfold NeedR at KN
  have htv := (HNF.out tv rfl).2
  clear HNF
  go_wp2_with fail
  refine (KN.out _ H5.out.ps).mono ?_
  rintro e w6 ⟨rfl, hp, tt⟩
  have H6 := hid (H5.out.goes hp tt)
  have T6 := hid (T5.out.trans tt (fun _ _ e => .inl e))
  have TB6 := hid (TB5.out.kept tt (fun e => by have := HB2.out; omega) (fun e => by have := HB2.out; omega))
  clear hp tt KN H5 T5 TB5 cb5
  have ob := H6.out.obj
  have bb := H6.out.box
  have c1 : w6.cell? ⟨bx, 0, none⟩ = some (.pointer (some ⟨b, 0, none⟩)) := by simp [World.cell?, bb]
  have c3' : w6.cell? ⟨q, 3, none⟩ = some (.slice a3 n3 c3) := by simp [World.cell?, ob]
  clear ob bb
  have HLO7 := hid (show lo ≤ w6.heap.size from Nat.le_trans hlo T6.out.size)
  have HA2 := hid (own_lt H6.out.keys)
  have HA3 := hid (own_lt H6.out.kids)
  have KV := hid (fun w' hp ht' => KV9.out w' tv hp ht' htv)
  clear KV9
  try simp only at HX
  go_upto_region 4 with fail
  have HN3 := hid (show n3 = cs.length from by
    obtain ⟨_, _, hh⟩ := own_shape H6.out.kids
    cases hh
    rfl)
  have hnm3 : n3 ≤ 1048576 := by have := HN3.out; omega
  have hl3 : (n3 : Int) < (n3 : Int) + 1 := by omega
  have hen32 : ∀ args w, (callFunc 24 args).run Tryd.prog w = .ok (.enter 24 args) w := Go.Proofs.enters_of Tryd.func24 (by kernel_rfl) rfl
  have KV1 := hid (val_calls H6.out TB6.out KV.out (wA := w6) (wB := w6.drew) (Touch.refl _ _) (Touch.refl _ _).drew)
  have KV2 := hid (val_calls H6.out TB6.out KV.out (wA := (w6.alloc (.cells #[.int .i64 0, .string ⟨#[]⟩, .slice none 0 0, .slice none 0 0] 36))) (wB := (w6.alloc (.cells #[.int .i64 0, .string ⟨#[]⟩, .slice none 0 0, .slice none 0 0] 36)).drew) ((Touch.refl _ _).alloc _) (Touch.refl _ _).drew)
  have c3c : ∀ o, (w6.alloc o).cell? ⟨q, 3, none⟩ = some (.slice a3 n3 c3) := fun o => (((Touch.refl (fun _ => False) w6).alloc o).cell (p := ⟨q, 3, none⟩) (lt_of_block H6.out.obj) id).trans c3'
  have c1c : ∀ o, (w6.alloc o).cell? ⟨bx, 0, none⟩ = some (.pointer (some ⟨b, 0, none⟩)) := fun o => (((Touch.refl (fun _ => False) w6).alloc o).cell (p := ⟨bx, 0, none⟩) (lt_of_block H6.out.box) id).trans c1
  generalize sub tv = RES at *
  clear KV
  go_region_law (first
    | (refine step_call2 (by rfl) 24 _ _ (by rfl) #[.pointer (some ⟨b, 0, none⟩)] (by rfl) hen32 (ValK w6 w6 lo b bx q s d 6 (.slice a4 m4 c4) (.slice a3 n3 c3) (ks ++ [OO]) cs xs B RES) (ValT w6 b RES) KV1.out (by
         rintro ps w' ⟨c, k, hr, rfl, tt⟩
         subst hr
         refine ⟨rfl, ?_⟩
         rw [← HX.out]
         exact ⟨rfl, Touch.trans T6.out tt (fun _ _ e => .inl e)⟩) ?_
       intro v w7 hr
       obtain ⟨rk, rt, ra2, rn2, rc2, ra3, rn3, rc3, B2, x, u, hR, rfl, ho7, tv, hB2, t7, t8⟩ := hr
       have c3a : w7.cell? ⟨q, 3, none⟩ = some (.slice a3 n3 c3) := (by have := ho7.obj; simp [World.cell?, this])
       have c3b : ∀ o, (w7.alloc o).cell? ⟨q, 3, none⟩ = some (.slice a3 n3 c3) := fun o => (((Touch.refl (fun _ => False) w7).alloc o).cell (p := ⟨q, 3, none⟩) (lt_of_block ho7.obj) id).trans c3a
       have OW7 := hid (show w7.ownsRow 0 36 4 (.slice a3 n3 c3) n3 (cs.flatMap Cel.cells) from (by have := ho7.kids; unfold CL at this; rw [← HN3.out] at this; exact this))
       have H7 := hid ho7
       have T7 := hid t7
       have TV7 := hid tv
       have HB7 := hid hB2
       have HR := hid hR
       clear ho7 t7 tv hB2 hR t8)
    | (refine step_call2 (by rfl) 24 _ _ (by rfl) #[.pointer (some ⟨b, 0, none⟩)] (by rfl) hen32 (ValK w6 (w6.alloc (.cells #[.int .i64 0, .string ⟨#[]⟩, .slice none 0 0, .slice none 0 0] 36)) lo b bx q s d 6 (.slice a4 m4 c4) (.slice a3 n3 c3) (ks ++ [OO]) cs xs B RES) (ValT w6 b RES) KV2.out (by
         rintro ps w' ⟨c, k, hr, rfl, tt⟩
         subst hr
         refine ⟨rfl, ?_⟩
         rw [← HX.out]
         exact ⟨rfl, Touch.trans T6.out tt (fun _ _ e => .inl e)⟩) ?_
       intro v w7 hr
       obtain ⟨rk, rt, ra2, rn2, rc2, ra3, rn3, rc3, B2, x, u, hR, rfl, ho7, tv, hB2, t7, t8⟩ := hr
       have RN7 := hid (show ∀ j u, ([.int .i64 0, .string ⟨#[]⟩, .slice none 0 0, .slice none 0 0] : List Value)[j]? = some u → w7.cell? ((⟨w6.heap.size, 0, none⟩ : Addr).add j) = some u from fun j u hj => (cell_kept t8 (p := (⟨w6.heap.size, 0, none⟩ : Addr).add j) (by have := H6.out.ps.lt; rw [add_block]; simp; omega)).trans (row_new w6 [.int .i64 0, .string ⟨#[]⟩, .slice none 0 0, .slice none 0 0] 36 j u hj))
       have c3a : w7.cell? ⟨q, 3, none⟩ = some (.slice a3 n3 c3) := (by have := ho7.obj; simp [World.cell?, this])
       have c3b : ∀ o, (w7.alloc o).cell? ⟨q, 3, none⟩ = some (.slice a3 n3 c3) := fun o => (((Touch.refl (fun _ => False) w7).alloc o).cell (p := ⟨q, 3, none⟩) (lt_of_block ho7.obj) id).trans c3a
       have OW7 := hid (show w7.ownsRow 0 36 4 (.slice a3 n3 c3) n3 (cs.flatMap Cel.cells) from (by have := ho7.kids; unfold CL at this; rw [← HN3.out] at this; exact this))
       have H7 := hid ho7
       have T7 := hid t7
       have TV7 := hid tv
       have HB7 := hid hB2
       have HR := hid hR
       clear ho7 t7 tv hB2 hR t8)
    | (refine step_append_own _ (by rfl) _ _ _ (by rfl) 0 36 i6 _ 4 72 Tryd.underlying34 hi26 hy0 hy1 hy2 rfl (by decide) _ _ _ (by rfl) OW7.out ⟨w6.heap.size, 0, none⟩ 1 1 [.int .i64 0, .string ⟨#[]⟩, .slice none 0 0, .slice none 0 0] (by rfl) (by rfl) RN7.out (by intro u hu; simp at hu; rcases hu with rfl | rfl | rfl <;> rfl) (by unfold maxLen; omega) (by omega) (Nat.zero_le _) w7.heap.size rfl ?_
       intro v' w8 hown hgrow hat
       obtain ⟨g8, c8, hv8⟩ := ownsRow_succ8 hown
       subst hv8
       have d0 : w8.cell? ⟨g8, n3 * 4, none⟩ = some (.int .i64 0) := (hown.cellAt (n3 * 4) (by omega)).trans (by have := cels_at (zs := [.int .i64 0, .string ⟨#[]⟩, .slice none 0 0, .slice none 0 0]) HN3.out 0; rw [Nat.add_zero] at this; rw [this]; rfl)
       have d1 : w8.cell? ⟨g8, n3 * 4 + 1, none⟩ = some (.string ⟨#[]⟩) := (hown.cellAt (n3 * 4 + 1) (by omega)).trans (by rw [cels_at HN3.out 1]; rfl)
       have d2 : w8.cell? ⟨g8, n3 * 4 + 2, none⟩ = some (.slice none 0 0) := (hown.cellAt (n3 * 4 + 2) (by omega)).trans (by rw [cels_at HN3.out 2]; rfl)
       have d3 : w8.cell? ⟨g8, n3 * 4 + 3, none⟩ = some (.slice none 0 0) := (hown.cellAt (n3 * 4 + 3) (by omega)).trans (by rw [cels_at HN3.out 3]; rfl)
       have z0 := hown.frozenAt (n3 * 4)
       have z1 := hown.frozenAt (n3 * 4 + 1)
       have z2 := hown.frozenAt (n3 * 4 + 2)
       have z3 := hown.frozenAt (n3 * 4 + 3)
       have GT := hid (show Touch (fun k => (Value.slice a3 n3 c3).ownBlock = some k) w7 w8 from Touch.grown (Touch.refl _ w7) hgrow (fun k e _ => e))
       have HG8 := hid (show lo ≤ g8 from (by
         rcases hat with e | e
         · exact H7.out.new3 g8 (by rw [← e]; rfl)
         · have e' : g8 = _ := Option.some.inj e
           have := HLO7.out
           have := T7.out.size
           omega))
       have HG9 := hid (show g8 < w7.heap.size → (Value.slice a3 n3 c3).ownBlock = some g8 from (by
         intro hlt
         rcases hat with e | e
         · rw [← e]
           rfl
         · have e' : g8 = _ := Option.some.inj e
           omega))
       have ob8 := hid (show w8.heap[q]? = some (.cells #[.int .i64 6, .string ⟨#[]⟩, (.slice a4 m4 c4), .slice a3 n3 c3] 36 (0, 0)) from (GT.out.block q (lt_of_block H7.out.obj) (fun e => by have := H7.out.new3 q e; have := H7.out.low; omega)).trans H7.out.obj)
       have c8a : w8.cell? ⟨q, 3, none⟩ = some (.slice a3 n3 c3) := (by have := ob8.out; simp [World.cell?, this])
       have f8a : w8.frozen? ⟨q, 3, none⟩ = false := (by have := ob8.out; simp [World.frozen?, this])
       have ne1 : ¬ g8 = q := (by have := HG8.out; have := H7.out.low; omega)
       have ne2 : ¬ q = g8 := (by have := HG8.out; have := H7.out.low; omega)
       have OW8 := hid hown
       clear hown hgrow hat c3a c3b OW7)
    | (refine step_append_own _ (by rfl) _ _ _ (by rfl) 0 36 i6 _ 4 72 Tryd.underlying34 hi26 hy0 hy1 hy2 rfl (by decide) _ _ _ (by rfl) (OW7.out.alloc _) ⟨w7.heap.size, 0, none⟩ 1 1 [.int .i64 0, .string ⟨#[]⟩, .slice none 0 0, .slice none 0 0] (by rfl) (by rfl) (row_new w7 [.int .i64 0, .string ⟨#[]⟩, .slice none 0 0, .slice none 0 0] 36) (by intro u hu; simp at hu; rcases hu with rfl | rfl | rfl <;> rfl) (by unfold maxLen; omega) (by omega) (Nat.zero_le _) (w7.heap.size + 1) (by simp) ?_
       intro v' w8 hown hgrow hat
       obtain ⟨g8, c8, hv8⟩ := ownsRow_succ8 hown
       subst hv8
       have d0 : w8.cell? ⟨g8, n3 * 4, none⟩ = some (.int .i64 0) := (hown.cellAt (n3 * 4) (by omega)).trans (by have := cels_at (zs := [.int .i64 0, .string ⟨#[]⟩, .slice none 0 0, .slice none 0 0]) HN3.out 0; rw [Nat.add_zero] at this; rw [this]; rfl)
       have d1 : w8.cell? ⟨g8, n3 * 4 + 1, none⟩ = some (.string ⟨#[]⟩) := (hown.cellAt (n3 * 4 + 1) (by omega)).trans (by rw [cels_at HN3.out 1]; rfl)
       have d2 : w8.cell? ⟨g8, n3 * 4 + 2, none⟩ = some (.slice none 0 0) := (hown.cellAt (n3 * 4 + 2) (by omega)).trans (by rw [cels_at HN3.out 2]; rfl)
       have d3 : w8.cell? ⟨g8, n3 * 4 + 3, none⟩ = some (.slice none 0 0) := (hown.cellAt (n3 * 4 + 3) (by omega)).trans (by rw [cels_at HN3.out 3]; rfl)
       have z0 := hown.frozenAt (n3 * 4)
       have z1 := hown.frozenAt (n3 * 4 + 1)
       have z2 := hown.frozenAt (n3 * 4 + 2)
       have z3 := hown.frozenAt (n3 * 4 + 3)
       have GT := hid (show Touch (fun k => (Value.slice a3 n3 c3).ownBlock = some k) w7 w8 from Touch.grown ((Touch.refl _ w7).alloc _) hgrow (fun k e _ => e))
       have HG8 := hid (show lo ≤ g8 from (by
         rcases hat with e | e
         · exact H7.out.new3 g8 (by rw [← e]; rfl)
         · have e' : g8 = _ := Option.some.inj e
           have := HLO7.out
           have := T7.out.size
           omega))
       have HG9 := hid (show g8 < w7.heap.size → (Value.slice a3 n3 c3).ownBlock = some g8 from (by
         intro hlt
         rcases hat with e | e
         · rw [← e]
           rfl
         · have e' : g8 = _ := Option.some.inj e
           omega))
       have ob8 := hid (show w8.heap[q]? = some (.cells #[.int .i64 6, .string ⟨#[]⟩, (.slice a4 m4 c4), .slice a3 n3 c3] 36 (0, 0)) from (GT.out.block q (lt_of_block H7.out.obj) (fun e => by have := H7.out.new3 q e; have := H7.out.low; omega)).trans H7.out.obj)
       have c8a : w8.cell? ⟨q, 3, none⟩ = some (.slice a3 n3 c3) := (by have := ob8.out; simp [World.cell?, this])
       have f8a : w8.frozen? ⟨q, 3, none⟩ = false := (by have := ob8.out; simp [World.frozen?, this])
       have ne1 : ¬ g8 = q := (by have := HG8.out; have := H7.out.low; omega)
       have ne2 : ¬ q = g8 := (by have := HG8.out; have := H7.out.low; omega)
       have OW8 := hid hown
       clear hown hgrow hat c3a c3b OW7))
  all_goals
    clear d0 d1 d2 d3 z0 z1 z2 z3 c8a f8a
    go_wp2
    go_end0
    try rw [set_swap ne2, set_swap ne2, set_swap ne2, set_swap ne2]
    have K9 := LS.fin (c := ⟨rk, rt, .slice ra2 rn2 rc2, .slice ra3 rn3 rc3⟩) H7.out HN3.out HG8.out HG9.out OW8.out GT.out ob8.out TV7.out (fun g e => by
      have h1 := HB7.out g e
      exact ⟨Nat.le_trans HLO7.out h1.1, h1.2, fun e2 => by have := HA2.out g e2; omega, fun e2 => by have := HA3.out g e2; omega⟩)
    rw [HR.out] at HX
    rw [← HX.out]
    exact itemP_six K9.1 (Touch.trans T6.out (Touch.trans (S := fun k => k = b ∨ k = q ∨ lo ≤ k) (T7.out.mono (fun _ _ e => .inl e)) K9.2 (fun _ _ e => .inr e)) (fun _ _ e => e))
end Go.Proofs.YtjpmjcadnnglnaaDoor
