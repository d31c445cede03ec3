/- Texts of this proof, one behind the other: what each says stands ahead of it. -/
import Derived.Test.YtffjkceedbblgaaGreatDoorM23
import Derived.Test.YtffjkceedbblgaaGreatDoorM24
import Derived.Test.YtffjkceedbblgaaGreatDoorM25
/- A block, and all blocks, of an unpacker: what they come to; condition: what is unpacked fits into memory. -/
namespace Go.Proofs.YtffjkceedbblgaaGreatDoor
open Go.RowKit Go.Lib

theorem head_place {s : ByteArray} {t e t' : Nat} (h : Inf.dyHead s t = some (e, t')) : e ≠ 0 ∧ t ≤ t' := by
  unfold Inf.dyHead at h
  split at h
  · simp only [Option.some.injEq, Prod.mk.injEq] at h; omega
  · split at h
    · simp only [Option.some.injEq, Prod.mk.injEq] at h; omega
    · split at h
      · simp only [Option.some.injEq, Prod.mk.injEq] at h; omega
      · split at h
        · simp only [Option.some.injEq, Prod.mk.injEq] at h; omega
        · split at h
          · simp only [Option.some.injEq, Prod.mk.injEq] at h; omega
          · split at h
            · simp only [Option.some.injEq, Prod.mk.injEq] at h; omega
            · simp at h
theorem head_fits {s : ByteArray} {t : Nat} (h : Inf.dyHead s t = none) : Inf.dyT s t ≤ 8 * s.size := by
  unfold Inf.dyHead at h
  unfold Inf.dyT
  split at h
  · simp at h
  · split at h
    · simp at h
    · split at h
      · simp at h
      · split at h
        · simp at h
        · split at h
          · simp at h
          · omega
theorem le_place {f : Nat → Nat} {s : ByteArray} {wanted t : Nat} {told : List Nat} {e t' : Nat} {told' : List Nat} (h : Inf.Le f 19 s wanted t told e t' told') : t ≤ 8 * s.size → t ≤ t' := by
  induction h with
  | fin => intro _; omega
  | err => intro _; omega
  | none t told h t1 n h0 => intro ht; exact (Inf.nx_fits n ht).2.1
  | cut t told h i t1 n h0 h1 => intro ht; exact (Inf.nx_fits n ht).2.1
  | many t told h i t1 n h0 h1 h2 => intro ht; have := (Inf.nx_fits n ht).2.1; omega
  | step t told h i t1 n h0 h1 h2 e t' told' r ih => intro ht; have := (Inf.nx_fits n ht).2.1; have := ih h1; omega
theorem dy_place {s : ByteArray} {t e t' : Nat} {told : List Nat} (h : Inf.Dy s t e t' told) : t ≤ t' := by
  cases h with
  | head _ _ h => exact (head_place h).2
  | lens h _ _ told r he =>
    have h1 := le_place r (head_fits h)
    unfold Inf.dyT at h1
    omega
  | done h _ _ r =>
    have h1 := le_place r (head_fits h)
    unfold Inf.dyT at h1
    omega
theorem head_end {s : ByteArray} {t e t' : Nat} (h : Inf.dyHead s t = some (e, t')) (ht : t ≤ 8 * s.size) : t' ≤ 8 * s.size := by
  unfold Inf.dyHead at h
  split at h
  · simp only [Option.some.injEq, Prod.mk.injEq] at h; omega
  · split at h
    · simp only [Option.some.injEq, Prod.mk.injEq] at h; omega
    · split at h
      · simp only [Option.some.injEq, Prod.mk.injEq] at h; omega
      · split at h
        · simp only [Option.some.injEq, Prod.mk.injEq] at h; omega
        · split at h
          · simp only [Option.some.injEq, Prod.mk.injEq] at h; omega
          · split at h
            · simp only [Option.some.injEq, Prod.mk.injEq] at h; omega
            · simp at h
theorem le_end {f : Nat → Nat} {s : ByteArray} {wanted t : Nat} {told : List Nat} {e t' : Nat} {told' : List Nat} (h : Inf.Le f 19 s wanted t told e t' told') : t ≤ 8 * s.size → t' ≤ 8 * s.size := by
  induction h with
  | fin => exact id
  | err => exact id
  | none t told h t1 n h0 => intro ht; exact (Inf.nx_fits n ht).1
  | cut t told h i t1 n h0 h1 => intro ht; exact (Inf.nx_fits n ht).1
  | many t told h i t1 n h0 h1 h2 => intro _; exact h1
  | step t told h i t1 n h0 h1 h2 e t' told' r ih => intro _; exact ih h1
theorem dy_end {s : ByteArray} {t e t' : Nat} {told : List Nat} (h : Inf.Dy s t e t' told) (ht : t ≤ 8 * s.size) : t' ≤ 8 * s.size := by
  cases h with
  | head _ _ h => exact head_end h ht
  | lens h _ _ told r he => exact le_end r (head_fits h)
  | done h _ _ r => exact le_end r (head_fits h)
theorem dy_zero {s : ByteArray} {t e t' : Nat} {told : List Nat} (h : Inf.Dy s t e t' told) (he : e = 0) : Inf.dyEnd (Inf.dyL s t) (Inf.dyD s t) told = 0 := by
  cases h with
  | head _ _ h => exact absurd he (head_place h).1
  | lens h _ _ _ r hne => exact absurd he hne
  | done h _ _ r => exact he
theorem dy_tables {s : ByteArray} {t t' : Nat} {told : List Nat} (h : Inf.Dy s t 0 t' told) : Inf.Tbl (Inf.litOf told (Inf.dyL s t)) (Inf.dyL s t) ∧ Inf.Tbl (Inf.disOf told (Inf.dyL s t) (Inf.dyD s t)) (Inf.dyD s t) := by
  have hz := dy_zero h rfl
  unfold Inf.dyEnd at hz
  have h1 := Bt.rval_lt s t 5
  have h2 := Bt.rval_lt s (t + 5) 5
  split at hz
  · omega
  · split at hz
    · omega
    · refine ⟨⟨fun i => by unfold Inf.litOf; split <;> omega, by omega, by unfold Inf.dyL; omega⟩, ⟨fun i => by unfold Inf.disOf; split <;> omega, hz, by unfold Inf.dyD; omega⟩⟩

theorem sy_place {fl : Nat → Nat} {ll : Nat} {fd : Nat → Nat} {ld : Nat} {s : ByteArray} {most t : Nat} {out : List Nat} {e t' : Nat} {o' : List Nat} (h : Inf.Sy fl ll fd ld s most t out e t' o') : t ≤ 8 * s.size → Inf.Bd s most t out → t ≤ t' := by
  induction h with
  | err => intro _ _; omega
  | fin t out t1 n => intro ht _; exact (Inf.nx_fits n ht).2.1
  | full t out i t1 n hi h => intro ht _; exact (Inf.nx_fits n ht).2.1
  | lit t out i t1 n hi h e t' out' r ih =>
    intro ht hb
    have hf := Inf.nx_fits n ht
    have hlt := hf.2.2.1 rfl
    have hbits := hb.bits
    have := ih hf.1 ⟨by rw [List.length_append]; simp; omega, by rw [List.length_append]; simp; omega, fun x hx => by
      rcases List.mem_append.1 hx with hx | hx
      · exact hb.small x hx
      · simp only [List.mem_singleton] at hx
        omega, hf.1⟩
    omega
  | agErr t out i t1 n hi e t2 out2 a he =>
    intro ht hb
    have hf := Inf.nx_fits n ht
    have := (Inf.ag_keeps a (by omega) (hb.later hf.2.1 hf.1)).2
    omega
  | ag t out i t1 n hi t2 out2 a e t' out' r ih =>
    intro ht hb
    have hf := Inf.nx_fits n ht
    have hk := Inf.ag_keeps a (by omega) (hb.later hf.2.1 hf.1)
    have := ih hk.1.fits hk.1
    omega

/-- An unpacker that goes on: what it holds now. -/
def Goes (w w' : World) (ub r : Nat) (v : Value) (out : List Nat) (most : Nat) (s : ByteArray) (t : Nat) : Prop :=
  ∃ v' tl td, Up w' ub r v' out most tl td ∧ Rd w' r s t ∧ FxOk w' ub r v' tl td ∧ Touch (fun k => k = r ∨ k = ub ∨ v.ownBlock = some k) w w' ∧ (v'.ownBlock = v.ownBlock ∨ ∃ g, v'.ownBlock = some g ∧ w.heap.size ≤ g)

theorem goes_of {w w' : World} {ub r : Nat} {v : Value} {out : List Nat} {most : Nat} {tl td : Option Addr} {s : ByteArray} {t : Nat} (hf : FxOk w ub r v tl td) (d : UpDone w w' ub r v out most tl td s t) : Goes w w' ub r v out most s t := by
  obtain ⟨v', u, rd, tc, o⟩ := d
  exact ⟨v', tl, td, u, rd, hf.done tc o, tc, o⟩

theorem Goes.trans {w w1 w2 : World} {ub r : Nat} {v : Value} {out out2 : List Nat} {most : Nat} {s : ByteArray} {t1 t2 : Nat} (h : Goes w w1 ub r v out most s t1)
    (k : ∀ v' tl td, Up w1 ub r v' out most tl td → Rd w1 r s t1 → FxOk w1 ub r v' tl td → Goes w1 w2 ub r v' out2 most s t2) : Goes w w2 ub r v out2 most s t2 := by
  obtain ⟨v1, tl1, td1, u1, r1, f1, c1, o1⟩ := h
  obtain ⟨v2, tl2, td2, u2, r2, f2, c2, o2⟩ := k v1 tl1 td1 u1 r1 f1
  refine ⟨v2, tl2, td2, u2, r2, f2, c1.trans c2 (fun i hi e => ?_), ?_⟩
  · rcases e with e | e | e
    · exact .inl e
    · exact .inr (.inl e)
    · rcases o1 with o1 | ⟨g, o1, hg⟩
      · exact .inr (.inr (o1 ▸ e))
      · rw [o1] at e
        simp at e
        omega
  · rcases o2 with o2 | ⟨g, o2, hg⟩
    · rw [o2]
      exact o1
    · exact .inr ⟨g, o2, Nat.le_trans c1.size hg⟩

theorem bk_place {s : ByteArray} {most k t : Nat} {out : List Nat} {e t' : Nat} {o : List Nat} (h : Inf.Bk s most k t out e t' o) (hb : Inf.Bd s most t out) : t ≤ t' := by
  cases h with
  | stored _ _ _ _ _ h => exact (st_keeps h hb).2
  | fixed _ _ _ _ _ h => exact sy_place h hb.fits hb
  | head _ _ _ _ told h he => exact dy_place h
  | dyn _ _ t1 told h _ _ _ r =>
    have h1 := dy_place h
    have h2 := dy_end h hb.fits
    have := sy_place r h2 (hb.later h1 h2)
    omega
  | bad => exact Nat.le_refl _

/-- What a block leaves. -/
def BkPost (R : Nat → Nat → List Nat → Prop) (ub r : Nat) (v : Value) (most : Nat) (s : ByteArray) (w : World) (e : Ending) (w' : World) : Prop :=
  ∃ er t' out', R er t' out' ∧ e = .returned (.int .i64 (er : Nat)) ∧ Inf.Bd s most t' out' ∧ Goes w w' ub r v out' most s t'

theorem Apart.of_old {w : World} {ub r : Nat} {v : Value} {lo hi : Nat} (h1 : ub < w.heap.size) (h2 : r < w.heap.size) (h3 : ∀ k, v.ownBlock = some k → k < w.heap.size) (h : w.heap.size ≤ lo) : Apart ub r v lo hi := by
  intro k a b
  refine ⟨by omega, by omega, fun e => ?_⟩
  have := h3 k e
  omega

set_option maxRecDepth 100000 in
set_option maxHeartbeats 4000000 in
theorem block_any (ub r : Nat) (v : Value) (out : List Nat) (most : Nat) (tl td : Option Addr) (s : ByteArray) (t kind : Nat) (w : World) (h : Up w ub r v out most tl td) (hr : Rd w r s t) (hf : FxOk w ub r v tl td) (hs : s.size ≤ 140737488351232) (hk : kind < 4)
    (hm1 : most ≤ 9223372036854775807) (hb : Inf.Bd s most t out) (hc : most ≤ 70368744177664 ∨ 400000 * s.size ≤ 70368744177664) :
    Calls Tryz.prog 85 #[.pointer (some ⟨ub, 0, none⟩), .int .i64 (kind : Nat)] w (BkPost (Inf.Bk s most kind t out) ub r v most s w) := by
  have hub := lt_of_block h.1
  have hrl := hr.lt
  have hvl : ∀ k, v.ownBlock = some k → k < w.heap.size := fun k e => (h.2.lt k e).2
  have hroom := hb.room hc
  have hfit := hb.fits
  have hk4 : kind = 0 ∨ kind = 1 ∨ kind = 2 ∨ kind = 3 := by omega
  have HU := hid h
  have HR := hid hr
  have HF := hid hf
  have HB := hid hb
  have HVL := hid hvl
  clear h hr hf hb hvl
  rcases hk4 with rfl | rfl | rfl | rfl
  · obtain ⟨e0, t2, out2, hst⟩ : ∃ e0 t2 out2, Inf.st s most t out = (e0, t2, out2) := ⟨_, _, _, rfl⟩
    have SA := hid (stored_any ub r v out most tl td s t w HU.out HR.out hs hfit hm1 hroom)
    rw [hst] at SA
    have HST := hid hst
    clear hst
    go_enter Tryz.func85, Tryz.ntmps85
    go_wp2_with fail
    refine SA.out.mono ?_
    rintro e w1 ⟨rfl, dn⟩
    have DN := hid (goes_of HF.out dn)
    clear dn SA
    go_wp2
    go_ret
    exact ⟨e0, t2, out2, .stored t out e0 t2 out2 HST.out, rfl, (st_keeps HST.out HB.out).1, DN.out⟩
  · have FT := hid (fixedTables_any ub r v out most tl td s t w HU.out HR.out HF.out)
    go_enter Tryz.func85, Tryz.ntmps85
    go_wp2_with fail
    refine FT.out.mono ?_
    rintro e w1 ⟨bl, bd, lo, hi, rfl, u1, r1, tbl, tbd, hhi, hap, tc1⟩
    have SY := hid (symbols_any ub r bl bd lo hi v out most (some ⟨bl, 0, none⟩) (some ⟨bd, 0, none⟩) s t Inf.fixL 288 Inf.fixD 32 w1 u1 r1 hs tbl_fixL tbl_fixD tbl tbd hap hm1 HB.out hc)
    have G1 := hid (show Goes w w1 ub r v out most s t from ⟨v, _, _, u1, r1, .inr ⟨bl, bd, lo, hi, rfl, rfl, tbl, tbd, hhi, hap⟩, tc1.mono (fun _ _ e => .inr (.inl e)), .inl rfl⟩)
    have FX := hid (show FxOk w1 ub r v (some ⟨bl, 0, none⟩) (some ⟨bd, 0, none⟩) from .inr ⟨bl, bd, lo, hi, rfl, rfl, tbl, tbd, hhi, hap⟩)
    have C1 := hid (up_cells u1).2.1
    clear u1 r1 tbl tbd hap tc1 FT hhi
    go_wp2_with fail
    refine SY.out.mono ?_
    rintro e w2 ⟨er, t', out', hsy, rfl, hbd, dn⟩
    have HSY := hid hsy
    have HBD := hid hbd
    have G2 := hid (G1.out.trans (w2 := w2) (out2 := out') (t2 := t') (fun v' tl' td' hu _ hf' => by
      have e1 := (up_cells hu).2.1
      have e2 := C1.out
      rw [e1] at e2
      simp only [Option.some.injEq] at e2
      subst e2
      exact goes_of FX.out dn))
    clear hsy hbd dn SY
    go_wp2
    go_ret
    exact ⟨er, t', out', .fixed t out er t' out' HSY.out, rfl, HBD.out, G2.out⟩
  · have DT := hid (dynamicTables_any ub r v out most tl td s t w HU.out HR.out hs hfit)
    go_enter Tryz.func85, Tryz.ntmps85
    go_wp2_with fail
    refine DT.out.mono ?_
    rintro e w1 ⟨er, t1, told, hdy, ht1, rs, hres⟩
    have HDY := hid hdy
    have RS := hid rs
    have U1 := hid (HU.out.reads HR.out rs.touch)
    have F1 := hid (HF.out.done (rs.touch.mono (fun _ _ e => .inl e)) (.inl rfl))
    clear hdy rs DT
    rcases hres with ⟨her, rfl⟩ | ⟨rfl, bl, bd, rfl, tbl, tbd⟩
    · have hne : ((er : Int) != 0) = true := by simp; omega
      have HE := hid her
      clear her
      have G1 := hid (show Goes w (w1.alloc (.cells #[.pointer none, .pointer none] 146)) ub r v out most s t1 from ⟨v, tl, td, U1.out.alloc _, RS.out.rd.alloc _, F1.out.done ((Touch.refl _ w1).alloc _) (.inl rfl), (RS.out.touch.mono (fun _ _ e => .inl e)).alloc _, .inl rfl⟩)
      go_wp2
      go_ret
      exact ⟨er, t1, out, .head t out er t1 told HDY.out HE.out, rfl, HB.out.later (dy_place HDY.out) ht1, G1.out⟩
    · have G1 := hid (show Goes w (w1.alloc (.cells #[.pointer (some ⟨bl, 0, none⟩), .pointer (some ⟨bd, 0, none⟩)] 146)) ub r v out most s t1 from ⟨v, tl, td, U1.out.alloc _, RS.out.rd.alloc _, F1.out.done ((Touch.refl _ w1).alloc _) (.inl rfl), (RS.out.touch.mono (fun _ _ e => .inl e)).alloc _, .inl rfl⟩)
      have hT := dy_tables HDY.out
      have TLk := hid (tbl.kept ((Touch.refl (fun _ => False) w1).alloc (.cells #[.pointer (some ⟨bl, 0, none⟩), .pointer (some ⟨bd, 0, none⟩)] 146)) (fun _ _ _ e => e))
      have TDk := hid (tbd.kept ((Touch.refl (fun _ => False) w1).alloc (.cells #[.pointer (some ⟨bl, 0, none⟩), .pointer (some ⟨bd, 0, none⟩)] 146)) (fun _ _ _ e => e))
      have U2 := hid (U1.out.alloc (.cells #[.pointer (some ⟨bl, 0, none⟩), .pointer (some ⟨bd, 0, none⟩)] 146))
      have F2 := hid (show FxOk (w1.alloc (.cells #[.pointer (some ⟨bl, 0, none⟩), .pointer (some ⟨bd, 0, none⟩)] 146)) ub r v tl td from F1.out.done ((Touch.refl _ w1).alloc _) (.inl rfl))
      have SY := hid (symbols_any ub r bl bd w.heap.size w1.heap.size v out most tl td s t1 (Inf.litOf told (Inf.dyL s t)) (Inf.dyL s t) (Inf.disOf told (Inf.dyL s t) (Inf.dyD s t)) (Inf.dyD s t) _ U2.out (RS.out.rd.alloc _) hs hT.1 hT.2 TLk.out TDk.out (Apart.of_old hub hrl HVL.out (Nat.le_refl _)) hm1 (HB.out.later (dy_place HDY.out) ht1) hc)
      clear hT tbl tbd
      go_wp2_with fail
      refine SY.out.mono ?_
      rintro e w2 ⟨er, t', out', hsy, rfl, hbd, dn⟩
      have HSY := hid hsy
      have HBD := hid hbd
      have G2 := hid (G1.out.trans (w2 := w2) (out2 := out') (t2 := t') (fun v' tl' td' hu _ hf' => by
        have e1 := (up_cells hu).2.1
        have e2 := (up_cells U2.out).2.1
        rw [e1] at e2
        simp only [Option.some.injEq] at e2
        subst e2
        exact goes_of F2.out dn))
      clear hsy hbd dn SY
      go_wp2
      go_ret
      exact ⟨er, t', out', .dyn t out t1 told HDY.out er t' out' HSY.out, rfl, HBD.out, G2.out⟩
  · go_enter Tryz.func85, Tryz.ntmps85
    go_wp2
    go_ret
    exact ⟨8, t, out, .bad t out, rfl, HB.out, v, tl, td, HU.out, HR.out, HF.out, Touch.refl _ _, .inl rfl⟩

set_option maxRecDepth 100000 in
set_option maxHeartbeats 4000000 in
theorem unpack_any (ub r : Nat) (v : Value) (most : Nat) (s : ByteArray) (t0 : Nat) (out0 : List Nat) (tl0 td0 : Option Addr) (w : World) (h : Up w ub r v out0 most tl0 td0) (hr : Rd w r s t0) (hf : FxOk w ub r v tl0 td0) (hs : s.size ≤ 140737488351232)
    (hm1 : most ≤ 9223372036854775807) (hb : Inf.Bd s most t0 out0) (hc : most ≤ 70368744177664 ∨ 400000 * s.size ≤ 70368744177664) :
    Calls Tryz.prog 70 #[.pointer (some ⟨ub, 0, none⟩)] w (BkPost (Inf.Un s most t0 out0) ub r v most s w) := by
  have G0 := hid (show Goes w w ub r v out0 most s t0 from ⟨v, tl0, td0, h, hr, hf, Touch.refl _ _, .inl rfl⟩)
  have HB := hid hb
  have hfit0 := hb.fits
  clear h hr hf hb
  go_enter Tryz.func70, Tryz.ntmps70
  go_wp2_with fail
  go_loopg [3] (8 * s.size + 2 - t0) (fun gk l wr => (l = .int .i64 0 ∧ ∃ (t : Nat) (out : List Nat), t + gk = 8 * s.size + 2 ∧ Goes w wr ub r v out most s t ∧ Inf.Bd s most t out ∧ (∀ e t' out', Inf.Un s most t out e t' out' → Inf.Un s most t0 out0 e t' out')) ∨
    (l = .int .i64 1 ∧ ∃ (t : Nat) (out : List Nat), Inf.Un s most t0 out0 0 t out ∧ Goes w wr ub r v out most s t ∧ Inf.Bd s most t out))
  case atStart => exact .inl ⟨rfl, t0, out0, by omega, G0.out, HB.out, fun _ _ _ h => h⟩
  case round =>
    rcases hrel with ⟨rfl, t, out, hgk, hgo, hbd, hback⟩ | ⟨rfl, t, out, hun, hgo, hbd⟩
    · have GO := hid hgo
      have BD := hid hbd
      have BK := hid hback
      have hfit := hbd.fits
      obtain ⟨v1, tl, td, u1, r1, f1, c1, o1⟩ := hgo
      have U1 := hid u1
      have R1 := hid r1
      have F1 := hid f1
      have c0 := (up_cells u1).1
      clear hbd hback u1 r1 f1 c1 o1 G0 HB
      by_cases a1 : 8 * s.size < t + 1
      · have K := hid (take_end r s t 1 wr R1.out (by omega) (by decide) hfit a1)
        go_wp2_with fail
        refine K.out.mono ?_
        rintro e w1 ⟨rfl, st⟩
        have ST := hid (st.rstep R1.out)
        clear st K
        have GN := hid (GO.out.trans (w2 := w1) (out2 := out) (t2 := t) (fun v' tl' td' hu hrd hf' => goes_of hf' (UpDone.reads hu hrd ST.out)))
        go_wp2
        go_ret
        exact ⟨3, t, out, BK.out _ _ _ (.cut1 t out a1), rfl, BD.out, GN.out⟩
      have hb1 := Bt.rval_lt s t 1
      have K := hid (take_yes r s t 1 wr R1.out (by omega) (by decide) (by omega))
      obtain ⟨last, hlast⟩ : ∃ last, last = Bt.rval s t 1 := ⟨_, rfl⟩
      rw [← hlast] at K hb1
      have HLS := hid hlast
      clear hlast
      go_wp2_with fail
      refine K.out.mono ?_
      rintro e w1 ⟨rfl, st⟩
      have ST1 := hid st
      have U2 := hid (U1.out.reads R1.out st.touch)
      have c1 := (up_cells U2.out).1
      clear st K
      by_cases a2 : 8 * s.size < t + 3
      · have K := hid (take_end r s (t + 1) 2 w1 ST1.out.rd (by omega) (by decide) (by omega) (by omega))
        go_wp2_with fail
        refine K.out.mono ?_
        rintro e w2 ⟨rfl, st⟩
        have ST := hid (ST1.out.trans (st.rstep ST1.out.rd))
        clear st K
        have GN := hid (GO.out.trans (w2 := w2) (out2 := out) (t2 := t + 1) (fun v' tl' td' hu hrd hf' => goes_of hf' (UpDone.reads hu hrd ST.out)))
        go_wp2
        go_ret
        exact ⟨3, t + 1, out, BK.out _ _ _ (.cut2 t out (by omega) a2), rfl, BD.out.later (by omega) (by omega), GN.out⟩
      have hb2 := Bt.rval_lt s (t + 1) 2
      have K := hid (take_yes r s (t + 1) 2 w1 ST1.out.rd (by omega) (by decide) (by omega))
      obtain ⟨kind, hkind⟩ : ∃ kind, kind = Bt.rval s (t + 1) 2 := ⟨_, rfl⟩
      rw [← hkind] at K hb2
      have HKD := hid hkind
      clear hkind
      go_wp2_with fail
      refine K.out.mono ?_
      rintro e w2 ⟨rfl, st⟩
      have ST2 := hid (ST1.out.trans st)
      have U3 := hid (U1.out.reads R1.out ST2.out.touch)
      have F3 := hid (F1.out.done (ST2.out.touch.mono (fun _ _ e => .inl e)) (.inl rfl))
      clear st K
      have BA := hid (block_any ub r v1 out most tl td s (t + 3) kind w2 U3.out ST2.out.rd F3.out hs (by omega) hm1 (BD.out.later (by omega) (by omega)) hc)
      go_wp2_with fail
      refine BA.out.mono ?_
      rintro e w3 ⟨er, t3, out3, hbk, rfl, hbd3, hg3⟩
      have HBK := hid (show Inf.Bk s most (Bt.rval s (t + 1) 2) (t + 3) out er t3 out3 from by rw [← HKD.out]; exact hbk)
      have HBD := hid hbd3
      have GN := hid (GO.out.trans (w2 := w3) (out2 := out3) (t2 := t3) (fun v' tl' td' hu hrd hf' => by
        have e1 := (up_cells hu).2.1
        have e2 := (up_cells U1.out).2.1
        rw [e1] at e2
        simp only [Option.some.injEq] at e2
        subst e2
        exact (show Goes wr w2 ub r v' out most s (t + 3) from ⟨v', tl, td, U3.out, ST2.out.rd, F3.out, ST2.out.touch.mono (fun _ _ e => .inl e), .inl rfl⟩).trans (fun v'' tl'' td'' hu'' _ _ => by
          have e1 := (up_cells hu'').2.1
          have e2 := (up_cells U3.out).2.1
          rw [e1] at e2
          simp only [Option.some.injEq] at e2
          subst e2
          exact hg3)))
      have hprog := bk_place hbk (BD.out.later (by omega) (by omega))
      have hf3 := hbd3.fits
      clear hbk hbd3 hg3 BA
      by_cases her : er = 0
      · subst her
        rcases (show last = 0 ∨ last = 1 by omega) with hl | hl
        · subst hl
          go_wp2
          go_roundg (8 * s.size + 2 - t3)
          case measure => omega
          case rel => exact .inl ⟨rfl, t3, out3, by omega, GN.out, HBD.out, fun e t' out' hy => BK.out e t' out' (.more t out (by omega) HLS.out.symm t3 out3 HBK.out e t' out' hy)⟩
        · subst hl
          go_wp2
          go_roundg (gk - 1)
          case measure => omega
          case rel => exact .inr ⟨rfl, t3, out3, BK.out _ _ _ (.last t out (by omega) (by rw [← HLS.out]; decide) t3 out3 HBK.out), GN.out, HBD.out⟩
      · have hne : ((er : Int) != 0) = true := by simp; omega
        have HE := hid her
        clear her
        go_wp2
        go_ret
        exact ⟨er, t3, out3, BK.out _ _ _ (.err t out (by omega) er t3 out3 HBK.out HE.out), rfl, HBD.out, GN.out⟩
    · have HUN := hid hun
      have GO := hid hgo
      have BD := hid hbd
      clear hun hgo hbd
      go_wp2
      go_ret
      exact ⟨0, t, out, HUN.out, rfl, BD.out, GO.out⟩

/-- What Unpack answers, as the relations tell it. -/
def UnRes (data : ByteArray) (fr : Int) (most : Int) (e : Ending) : Prop :=
  ((fr < 0 ∨ (data.size : Int) < fr ∨ most < 0) ∧ e = .returned (.tuple #[.string ByteArray.empty, .int .i64 0, .agg #[.int .i64 1, .int .i64 0]])) ∨
  (∃ f m : Nat, fr = f ∧ most = m ∧ f ≤ data.size ∧ ∃ er t' out', Inf.Un (data.extract f data.size) m 0 [] er t' out' ∧ t' ≤ 8 * (data.size - f) ∧
    ((er = 0 ∧ e = .returned (.tuple #[.string (strOf out'), .int .i64 (f + (t' + 7) / 8 : Nat), .agg #[.int .i64 0, .int .i64 0]])) ∨
     (er ≠ 0 ∧ e = .returned (.tuple #[.string ByteArray.empty, .int .i64 0, .agg #[.int .i64 (er : Nat), .int .i64 (f + t' / 8 : Nat)]]))))

theorem two_new {w : World} (x y : Value) (t : TypeId) : (w.alloc (.cells #[x, y] t)).heap[w.heap.size]? = some (.cells #[x, y] t (0, 0)) := by
  show (w.heap.push _)[_]? = _
  simp

set_option maxRecDepth 100000 in
set_option maxHeartbeats 4000000 in
theorem Unpack_arg (data : ByteArray) (fr most : Int) (w : World) (h : fr < 0 ∨ (data.size : Int) < fr ∨ most < 0) :
    Calls Tryz.prog 54 #[.string data, .int .i64 fr, .int .i64 most] w fun e w' => e = .returned (.tuple #[.string ByteArray.empty, .int .i64 0, .agg #[.int .i64 1, .int .i64 0]]) ∧ Touch (fun _ => False) w w' := by
  have FB := hid (two_new (w := w) (.int .i64 1) (.int .i64 0) 31)
  by_cases h1 : fr < 0
  · clear h
    go_enter Tryz.func54, Tryz.ntmps54
    go_wp2
    refine bodyPost_ret (results_ttc rfl _ _ w.heap.size 31 _ (0, 0) _ rfl FB.out Tryz.underlying31 rfl (by kernel_rfl)) rfl ?_
    exact ⟨rfl, (Touch.refl _ w).alloc _⟩
  by_cases h2 : (data.size : Int) < fr
  · clear h
    go_enter Tryz.func54, Tryz.ntmps54
    go_wp2
    refine bodyPost_ret (results_ttc rfl _ _ w.heap.size 31 _ (0, 0) _ rfl FB.out Tryz.underlying31 rfl (by kernel_rfl)) rfl ?_
    exact ⟨rfl, (Touch.refl _ w).alloc _⟩
  have h3 : most < 0 := by omega
  clear h
  go_enter Tryz.func54, Tryz.ntmps54
  go_wp2
  refine bodyPost_ret (results_ttc rfl _ _ w.heap.size 31 _ (0, 0) _ rfl FB.out Tryz.underlying31 rfl (by kernel_rfl)) rfl ?_
  exact ⟨rfl, (Touch.refl _ w).alloc _⟩

theorem Unpack_any (data : ByteArray) (fr most : Int) (w : World) (hd : data.size ≤ 140737488351232) (hm1 : most ≤ 9223372036854775807) (hc : most ≤ 70368744177664 ∨ 400000 * data.size ≤ 70368744177664) :
    Calls Tryz.prog 54 #[.string data, .int .i64 fr, .int .i64 most] w fun e w' => UnRes data fr most e ∧ Touch (fun _ => False) w w' := by
  by_cases h : fr < 0 ∨ (data.size : Int) < fr ∨ most < 0
  · refine (Unpack_arg data fr most w h).mono ?_
    rintro e w' ⟨he, tc⟩
    exact ⟨.inl ⟨h, he⟩, tc⟩
  · obtain ⟨f, rfl⟩ := Int.eq_ofNat_of_zero_le (show 0 ≤ fr by omega)
    obtain ⟨m, rfl⟩ := Int.eq_ofNat_of_zero_le (show 0 ≤ most by omega)
    have hf : f ≤ data.size := by omega
    have hsz : (data.extract f data.size).size = data.size - f := by rw [ByteArray.size_extract]; omega
    refine (Unpack_of (Inf.Un (data.extract f data.size) m 0 []) data f m w hd hf (by omega) (fun ub r w0 hu hr => ?_)).mono ?_
    · refine (unpack_any ub r _ m (data.extract f data.size) 0 [] none none w0 hu hr (.inl ⟨rfl, rfl⟩) (by omega) (by omega) ⟨by simp, by simp, by simp, by omega⟩ (by omega)).mono ?_
      rintro e w1 ⟨er, t', out', hun, he, hbd, v', tl, td, u, rd, _, tc, _⟩
      exact ⟨er, t', out', hun, he, hbd.fits, hbd.small, ⟨v', tl, td, u⟩, rd, tc.mono (fun k _ e => by
        rcases e with e | e | e
        · exact .inl e
        · exact .inr e
        · simp [Value.ownBlock] at e)⟩
    · rintro e w' ⟨⟨er, t', out', hun, ht', hres⟩, tc⟩
      exact ⟨.inr ⟨f, m, rfl, rfl, hf, er, t', out', hun, ht', hres⟩, tc⟩
end Go.Proofs.YtffjkceedbblgaaGreatDoor
