/- Texts of this proof, one behind the other: what each says stands ahead of it. -/
import Derived.Test.YtffjkceedbblgaaGreatDoorM10
import Derived.ScopeJumps
import Derived.WalkMore
import Derived.Deep.DeepCutAuto
import Derived.Deep.CutRange
import Derived.Deep.RegionWith
/- symbols of an unpacker: what it comes to; conditions: the tables are ones, what is unpacked fits into memory. -/
namespace Go.Proofs.YtffjkceedbblgaaGreatDoor
open Go.RowKit Go.Lib

theorem wp_scope_begin {P : Program} {a : Act} {w : World} {Q : Exit → Act → World → Prop} {c rest : Code} (l : Nat) (J : Act → World → Prop) (μ : Act → World → Nat) (hc : c = (Code.label l).seq rest) (hJ : J a w)
    (pass : ∀ a w, J a w → rest.wp P (Exit.jump l (fun a' w' => J a' w' ∧ μ a' w' < μ a w) Q) a w) : (Code.scope c).wp P Q a w := by
  subst hc
  refine wp_scope_jumps (rest := Code.skip.seq rest) l J μ (by simp [findLabel]) ?_ (fun a w h => wp_seq (wp_skip (pass a w h)))
  refine wp_seq (wp_label ?_)
  refine wp_mono (pass a w hJ) ?_
  intro e a' w' h
  cases e with
  | normal => exact h
  | exit id => exact h
  | goto l' => exact ⟨h.1, h.2.1⟩
  | ret => exact h
  | panic ch => exact h
  | outgrown => exact h

/-- What symbols leaves. -/
def SyPost (R : Nat → Nat → List Nat → Prop) (ub r : Nat) (v : Value) (most : Nat) (tl td : Option Addr) (s : ByteArray) (w : World) (e : Ending) (w' : World) : Prop :=
  ∃ er t' out', R er t' out' ∧ e = .returned (.int .i64 (er : Nat)) ∧ Inf.Bd s most t' out' ∧ UpDone w w' ub r v out' most tl td s t'

theorem takenOf_done {w w' : World} {ub r : Nat} {v : Value} {out : List Nat} {most : Int} {tl td : Option Addr} {s : ByteArray} {t : Nat} (h : UpDone w w' ub r v out most tl td s t) : takenOf w' r = t := by
  obtain ⟨_, _, r1, _, _⟩ := h
  exact taken_rd r1

theorem up_tb {w : World} {ub r tb : Nat} {v : Value} {out : List Nat} {most : Int} {tl td : Option Addr} {cs : Array Value} (h : Up w ub r v out most tl td) (hb : w.heap[tb]? = some (.cells cs 146 (0, 0))) : v.ownBlock ≠ some tb := by
  intro e
  rcases h.2.2 with ⟨rfl, _⟩ | ⟨g, cap, cur, rfl, _, hh, _⟩
  · simp [Value.ownBlock] at e
  · simp [Value.ownBlock] at e
    subst e
    rw [hb] at hh
    simp at hh

theorem box_kept {w w' : World} {ub r tb : Nat} {v : Value} {out out' : List Nat} {most : Int} {tl td : Option Addr} {s : ByteArray} {t : Nat} {cs : Array Value} (h : Up w ub r v out most tl td) (hb : w.heap[tb]? = some (.cells cs 146 (0, 0))) (h1 : r ≠ tb) (h2 : ub ≠ tb)
    (d : UpDone w w' ub r v out' most tl td s t) : w'.heap[tb]? = some (.cells cs 146 (0, 0)) := by
  obtain ⟨_, _, _, tc, _⟩ := d
  rw [tc.block tb (lt_of_block hb) (fun e => ?_)]
  · exact hb
  · rcases e with e | e | e
    · exact h1 e.symm
    · exact h2 e.symm
    · exact up_tb h hb e

set_option maxRecDepth 100000 in
set_option maxHeartbeats 4000000 in
theorem symbols_any (ub r bl bd lo hi : Nat) (v : Value) (out0 : List Nat) (most : Nat) (tl td : Option Addr) (s : ByteArray) (t0 : Nat) (fl : Nat → Nat) (ll : Nat) (fd : Nat → Nat) (ld : Nat) (w : World) (h : Up w ub r v out0 most tl td) (hr : Rd w r s t0) (hs : s.size ≤ 140737488351232)
    (hTl : Inf.Tbl fl ll) (hTd : Inf.Tbl fd ld) (hBl : TblIn w bl fl ll lo hi) (hBd : TblIn w bd fd ld lo hi) (hap : ∀ k, lo ≤ k → k < hi → k ≠ r ∧ k ≠ ub ∧ v.ownBlock ≠ some k)
    (hm1 : most ≤ 9223372036854775807) (hb : Inf.Bd s most t0 out0) (hc : most ≤ 70368744177664 ∨ 400000 * s.size ≤ 70368744177664) :
    Calls Tryz.prog 91 #[.pointer (some ⟨ub, 0, none⟩), .agg #[.pointer (some ⟨bl, 0, none⟩), .pointer (some ⟨bd, 0, none⟩)]] w (SyPost (Inf.Sy fl ll fd ld s most t0 out0) ub r v most tl td s w) := by
  go_enter Tryz.func91, Tryz.ntmps91
  go_wp2
  have hub := lt_of_block h.1
  have hrl := hr.lt
  obtain ⟨tb, htb⟩ : ∃ tb, tb = w.heap.size := ⟨_, rfl⟩
  have hbox : (w.alloc (.cells #[.pointer (some ⟨bl, 0, none⟩), .pointer (some ⟨bd, 0, none⟩)] 146)).heap[tb]? = some (.cells #[.pointer (some ⟨bl, 0, none⟩), .pointer (some ⟨bd, 0, none⟩)] 146 (0, 0)) := by
    rw [htb]
    show (w.heap.push _)[_]? = _
    simp
  have DA := hid (show UpDone w (w.alloc (.cells #[.pointer (some ⟨bl, 0, none⟩), .pointer (some ⟨bd, 0, none⟩)] 146)) ub r v out0 most tl td s t0 from ⟨v, h.alloc _, hr.alloc _, (Touch.refl _ w).alloc _, .inl rfl⟩)
  have hvown : ∀ k, v.ownBlock = some k → k < w.heap.size := fun k e => (h.2.lt k e).2
  rw [← htb]
  have HTB := hid htb
  have hrtb : r ≠ tb := by omega
  have hubtb : ub ≠ tb := by omega
  clear htb
  generalize w.alloc (.cells #[.pointer (some ⟨bl, 0, none⟩), .pointer (some ⟨bd, 0, none⟩)] 146) = wA at *
  refine wp_scope_begin 0 (fun a' w' => ∃ (t : Nat) (out : List Nat) (u5 u6 u7 u8 u9 u10 u11 u12 u13 u14 u15 u16 u17 u18 u19 u20 u21 u22 u23 u24 u25 u26 u27 u28 u29 u30 u31 u32 u33 u34 u35 : Value),
    a' = { tmps := ((.pointer (some ⟨ub, 0, none⟩)) :: (.agg #[.pointer (some ⟨bl, 0, none⟩), .pointer (some ⟨bd, 0, none⟩)]) :: undef :: (.pointer (some ⟨tb, 0, none⟩)) :: (.int .i64 0) :: u5 :: u6 :: u7 :: u8 :: u9 :: u10 :: u11 :: u12 :: u13 :: u14 :: u15 :: u16 :: u17 :: u18 :: u19 :: u20 :: u21 :: u22 :: u23 :: u24 :: u25 :: u26 :: u27 :: u28 :: u29 :: u30 :: u31 :: u32 :: u33 :: u34 :: u35 :: [] : List Value).toArray, defers := [] } ∧
    UpDone w w' ub r v out most tl td s t ∧ w'.heap[tb]? = some (.cells #[.pointer (some ⟨bl, 0, none⟩), .pointer (some ⟨bd, 0, none⟩)] 146 (0, 0)) ∧ Inf.Bd s most t out ∧ (∀ er t' out', Inf.Sy fl ll fd ld s most t out er t' out' → Inf.Sy fl ll fd ld s most t0 out0 er t' out'))
    (fun _ w' => 8 * s.size - takenOf w' r) rfl ?_ ?_
  · exact ⟨t0, out0, _, _, _, _, _, _, _, _, _, _, _, _, _, _, _, _, _, _, _, _, _, _, _, _, _, _, _, _, _, _, _, rfl, DA.out, hbox, hb, fun _ _ _ h => h⟩
  · rintro a' W ⟨t, out, u5, u6, u7, u8, u9, u10, u11, u12, u13, u14, u15, u16, u17, u18, u19, u20, u21, u22, u23, u24, u25, u26, u27, u28, u29, u30, u31, u32, u33, u34, u35, rfl, hdone, hbox2, hbd, hback⟩
    clear hbox DA
    have DN := hid hdone
    have BX := hid hbox2
    have BD := hid hbd
    have BK := hid hback
    have HM := hid (takenOf_done hdone)
    obtain ⟨v1, u1, r1, tc1, o1⟩ := hdone
    have U1 := hid u1
    have R1 := hid r1
    have O1 := hid o1
    have TL := hid (hBl.kept tc1 (fun k h1 h2 e => by
      obtain ⟨g1, g2, g3⟩ := hap k h1 h2
      rcases e with e | e | e
      · exact g1 e
      · exact g2 e
      · exact g3 e))
    have TD := hid (hBd.kept tc1 (fun k h1 h2 e => by
      obtain ⟨g1, g2, g3⟩ := hap k h1 h2
      rcases e with e | e | e
      · exact g1 e
      · exact g2 e
      · exact g3 e))
    have hroom := hbd.room hc
    have hfit := hbd.fits
    have d0 : W.cell? ⟨tb, 0, none⟩ = some (.pointer (some ⟨bl, 0, none⟩)) := cell_two0 hbox2
    have c0 := (up_cells u1).1
    obtain ⟨er, i, t1, hn⟩ : ∃ er i t1, Inf.nx fl ll s t = (er, i, t1) := ⟨_, _, _, rfl⟩
    have hnf := Inf.nx_fits hn hfit
    have NX := hid (fun (wx : World) (hx : TblIn wx bl fl ll lo hi) (hy : Rd wx r s t) => next_nx bl r t lo hi fl ll s wx hTl hx hy (by omega) hfit)
    rw [hn] at NX
    have HN := hid hn
    have HNF := hid hnf
    clear hn hnf hbox2 hbd hback u1 r1 tc1 o1
    go_upto_region 1 with fail
    go_cut [5, 6] (fun x y wc => x = .int .i64 (i : Nat) ∧ y = .int .i64 (er : Nat) ∧ RStep W wc r s t1)
    case first =>
      have NX1 := hid (NX.out W.drew (TL.out.kept (S := fun _ => False) (Touch.refl _ W).drew (fun _ _ _ e => e)) R1.out)
      go_region_with (go_at_call 99; refine NX1.out.mono ?_; rintro e w3 ⟨rfl, st⟩)
      all_goals
        have ST := hid st
        clear st
        go_wp2
        go_meet
        case rel => exact ⟨rfl, rfl, ST.out.rd, (Touch.refl (fun k => k = r) W).drew.trans ST.out.touch (fun _ _ e => e)⟩
    obtain ⟨rfl, rfl, st⟩ := hcut
    have D2 := hid (DN.out.trans (fun v' hu hr' => UpDone.reads hu hr' st))
    have ST := hid st
    have U2 := hid (U1.out.reads R1.out st.touch)
    have htbW : tb < W.heap.size := lt_of_block BX.out
    have BX2 := hid (show wc.heap[tb]? = some (.cells #[.pointer (some ⟨bl, 0, none⟩), .pointer (some ⟨bd, 0, none⟩)] 146 (0, 0)) by rw [st.touch.block tb htbW (fun e => hrtb e.symm)]; exact BX.out)
    have d1 : wc.cell? ⟨tb, 1, none⟩ = some (.pointer (some ⟨bd, 0, none⟩)) := cell_two1 BX2.out
    have TD2 := hid (TD.out.kept st.touch (fun k h1 h2 e => (hap k h1 h2).1 e))
    have ht1 := HNF.out.1
    have htt := HNF.out.2.1
    have BD2 := hid (BD.out.later htt ht1)
    clear st NX
    by_cases her : er = 0
    · subst her
      have hlt := HNF.out.2.2.1 rfl
      by_cases h256 : i = 256
      · have hq : ((i : Int) == 256) = true := by simp; omega
        have HI := hid h256
        clear h256
        go_wp2
        try simp only [Exit.jump]
        go_ret
        exact ⟨0, t1, out, BK.out _ _ _ (.fin t out t1 (by rw [HN.out, HI.out])), rfl, BD2.out, D2.out⟩
      · have hq : ((i : Int) == 256) = false := by simp; omega
        have HI := hid h256
        clear h256
        by_cases hlo : i < 256
        · by_cases hrm : out.length < most
          · have LY := hid (literal_yes ub r v1 out most tl td s t1 i wc U2.out ST.out.rd (by omega) (by omega) (by omega) hroom)
            go_wp2_with fail
            refine LY.out.mono ?_
            rintro e w4 ⟨rfl, dn⟩
            have D3 := hid (D2.out.trans (fun v' hu _ => by
              have e1 := (up_cells hu).2.1
              have e2 := (up_cells U2.out).2.1
              rw [e1] at e2
              simp only [Option.some.injEq] at e2
              subst e2
              exact dn))
            have BX3 := hid (box_kept U2.out BX2.out hrtb hubtb dn)
            have BD3 := hid (show Inf.Bd s most t1 (out ++ [i]) from ⟨by rw [List.length_append]; simp; omega, by rw [List.length_append]; simp; have := BD.out.bits; omega, fun x hx => by
              rcases List.mem_append.1 hx with hx | hx
              · exact BD.out.small x hx
              · simp only [List.mem_singleton] at hx
                omega, ht1⟩)
            have BK3 := hid (fun er t' out' (hy : Inf.Sy fl ll fd ld s most t1 (out ++ [i]) er t' out') => BK.out er t' out' (.lit t out i t1 HN.out hlo hrm _ _ _ hy))
            have HMM := hid (show 8 * s.size - takenOf w4 r < 8 * s.size - takenOf W r by rw [takenOf_done D3.out, HM.out]; omega)
            clear dn LY
            go_wp2
            go_step3
            exact ⟨rfl, ⟨t1, out ++ [i], _, _, _, _, _, _, _, _, _, _, _, _, _, _, _, _, _, _, _, _, _, _, _, _, _, _, _, _, _, _, _, rfl, D3.out, BX3.out, BD3.out, BK3.out⟩, HMM.out⟩
          · have LN := hid (literal_no ub r v1 out most tl td s t1 i wc U2.out ST.out.rd (by omega) (by omega) (by omega) hroom)
            go_wp2_with fail
            refine LN.out.mono ?_
            rintro e w4 ⟨rfl, dn⟩
            have D3 := hid (D2.out.trans (fun v' hu _ => by
              have e1 := (up_cells hu).2.1
              have e2 := (up_cells U2.out).2.1
              rw [e1] at e2
              simp only [Option.some.injEq] at e2
              subst e2
              exact dn))
            clear dn LN
            go_wp2
            try simp only [Exit.jump]
            go_ret
            exact ⟨2, t1, out, BK.out _ _ _ (.full t out i t1 HN.out hlo (by omega)), rfl, BD2.out, D3.out⟩
        · obtain ⟨e2, t2, out2, hag⟩ : ∃ e2 t2 out2, Inf.ag fd ld s most i t1 out = (e2, t2, out2) := ⟨_, _, _, rfl⟩
          have hk := Inf.ag_keeps hag (by have := HI.out; omega) BD2.out
          have AG := hid (again_any ub r bd lo hi v1 out most tl td s t1 i fd ld wc U2.out ST.out.rd hs ht1 hTd TD2.out (fun k h1 h2 => (hap k h1 h2).1) (by have := HI.out; omega) hm1 hroom)
          rw [hag] at AG
          have HAG := hid hag
          have HK := hid hk
          have hi256 : 256 < i := by have := HI.out; omega
          clear hag hk
          go_wp2_with fail
          refine AG.out.mono ?_
          rintro e w4 ⟨rfl, dn⟩
          have D3 := hid (D2.out.trans (fun v' hu _ => by
            have e1 := (up_cells hu).2.1
            have e2 := (up_cells U2.out).2.1
            rw [e1] at e2
            simp only [Option.some.injEq] at e2
            subst e2
            exact dn))
          have BX3 := hid (box_kept U2.out BX2.out hrtb hubtb dn)
          have BD3 := hid HK.out.1
          clear dn AG
          by_cases he2 : e2 = 0
          · subst he2
            have BK3 := hid (fun er t' out' (hy : Inf.Sy fl ll fd ld s most t2 out2 er t' out') => BK.out er t' out' (.ag t out i t1 HN.out hi256 t2 out2 HAG.out _ _ _ hy))
            have HMM := hid (show 8 * s.size - takenOf w4 r < 8 * s.size - takenOf W r by rw [takenOf_done D3.out, HM.out]; have := HK.out.2; have := HK.out.1.fits; omega)
            go_wp2
            go_step3
            exact ⟨rfl, ⟨t2, out2, _, _, _, _, _, _, _, _, _, _, _, _, _, _, _, _, _, _, _, _, _, _, _, _, _, _, _, _, _, _, _, rfl, D3.out, BX3.out, BD3.out, BK3.out⟩, HMM.out⟩
          · have hne2 : ((e2 : Int) != 0) = true := by simp; omega
            have HE2 := hid he2
            clear he2
            go_wp2
            try simp only [Exit.jump]
            go_ret
            exact ⟨e2, t2, out2, BK.out _ _ _ (.agErr t out i t1 HN.out hi256 e2 t2 out2 HAG.out HE2.out), rfl, BD3.out, D3.out⟩
    · have hne : ((er : Int) != 0) = true := by simp; omega
      have HE := hid her
      clear her
      go_wp2
      try simp only [Exit.jump]
      go_ret
      have e1 := (HNF.out.2.2.2.1 HE.out).1
      exact ⟨er, t, out, BK.out _ _ _ (.err t out er i t1 HN.out HE.out), rfl, BD.out, e1 ▸ D2.out⟩
end Go.Proofs.YtffjkceedbblgaaGreatDoor

/- stored of an unpacker in all cases: what it comes to; conditions: what is unpacked fits into memory. -/
namespace Go.Proofs.YtffjkceedbblgaaGreatDoor
open Go.RowKit Go.Lib

set_option maxRecDepth 100000 in
set_option maxHeartbeats 4000000 in
theorem stored_end1 (ub r : Nat) (v : Value) (out : List Nat) (most : Nat) (tl td : Option Addr) (s : ByteArray) (t p : Nat) (w : World) (h : Up w ub r v out most tl td) (hr : Rd w r s t) (hs : s.size ≤ 140737488351232) (ht : t ≤ 8 * s.size) (hp : (t + 7) / 8 = p) (h1 : s.size < p + 2) :
    Calls Tryz.prog 90 #[.pointer (some ⟨ub, 0, none⟩)] w fun e w' => e = .returned (.int .i64 (3 : Nat)) ∧ UpDone w w' ub r v out most tl td s t := by
  have T1 := hid (twoBytes_end ub r v out most tl td s t w h hr hs ht (by omega))
  have HU := hid h
  have HR := hid hr
  clear h hr
  go_enter Tryz.func90, Tryz.ntmps90
  go_wp2_with fail
  refine T1.out.mono ?_
  rintro e w1 ⟨rfl, rfl⟩
  go_wp2
  go_ret
  exact ⟨rfl, UpDone.refl HU.out HR.out⟩

set_option maxRecDepth 100000 in
set_option maxHeartbeats 4000000 in
theorem stored_end2 (ub r : Nat) (v : Value) (out : List Nat) (most : Nat) (tl td : Option Addr) (s : ByteArray) (t p : Nat) (w : World) (h : Up w ub r v out most tl td) (hr : Rd w r s t) (hs : s.size ≤ 140737488351232) (ht : t ≤ 8 * s.size) (hp : (t + 7) / 8 = p) (h1 : p + 2 ≤ s.size) (h2 : s.size < p + 4) :
    Calls Tryz.prog 90 #[.pointer (some ⟨ub, 0, none⟩)] w fun e w' => e = .returned (.int .i64 (3 : Nat)) ∧ UpDone w w' ub r v out most tl td s (8 * (p + 2)) := by
  have T1 := hid (twoBytes_yes ub r v out most tl td s t w h hr hs ht (by omega))
  rw [hp] at T1
  generalize Bt.byteN s p + 256 * Bt.byteN s (p + 1) = n at T1
  have HU := hid h
  have HR := hid hr
  clear h hr
  go_enter Tryz.func90, Tryz.ntmps90
  go_wp2_with fail
  refine T1.out.mono ?_
  rintro e w1 ⟨rfl, hst⟩
  have R1 := hid hst
  have U1 := hid (HU.out.reads HR.out hst.touch)
  have D1 := hid (UpDone.reads HU.out HR.out hst)
  clear hst T1
  have T2 := hid (twoBytes_end ub r v out most tl td s (8 * (p + 2)) w1 U1.out R1.out.rd hs (by omega) (by omega))
  go_wp2_with fail
  refine T2.out.mono ?_
  rintro e w2 ⟨rfl, rfl⟩
  go_wp2
  go_ret
  exact ⟨rfl, D1.out⟩

set_option maxRecDepth 100000 in
set_option maxHeartbeats 4000000 in
theorem stored_size (ub r : Nat) (v : Value) (out : List Nat) (most : Nat) (tl td : Option Addr) (s : ByteArray) (t p n m : Nat) (w : World) (h : Up w ub r v out most tl td) (hr : Rd w r s t) (hs : s.size ≤ 140737488351232) (ht : t ≤ 8 * s.size) (hp : (t + 7) / 8 = p) (h2 : p + 4 ≤ s.size)
    (hn : Bt.byteN s p + 256 * Bt.byteN s (p + 1) = n) (hn' : Bt.byteN s (p + 2) + 256 * Bt.byteN s (p + 3) = m) (hne : m ≠ 65535 - n) :
    Calls Tryz.prog 90 #[.pointer (some ⟨ub, 0, none⟩)] w fun e w' => e = .returned (.int .i64 (11 : Nat)) ∧ UpDone w w' ub r v out most tl td s (8 * (p + 4)) := by
  have hn16 : n < 65536 := by have := Bt.byteN_lt s p; have := Bt.byteN_lt s (p + 1); omega
  have T1 := hid (twoBytes_yes ub r v out most tl td s t w h hr hs ht (by omega))
  rw [hp, hn] at T1
  have HU := hid h
  have HR := hid hr
  have HN' := hid hn'
  clear h hr hn hn'
  go_enter Tryz.func90, Tryz.ntmps90
  go_wp2_with fail
  refine T1.out.mono ?_
  rintro e w1 ⟨rfl, hst⟩
  have R1 := hid hst
  have U1 := hid (HU.out.reads HR.out hst.touch)
  clear hst T1
  have T2 := hid (twoBytes_yes ub r v out most tl td s (8 * (p + 2)) w1 U1.out R1.out.rd hs (by omega) (by omega))
  rw [show (8 * (p + 2) + 7) / 8 = p + 2 by omega, show p + 2 + 1 = p + 3 by omega, HN'.out, show 8 * (p + 2 + 2) = 8 * (p + 4) by omega] at T2
  have hflip := i64_flip' n hn16
  go_wp2_with fail
  refine T2.out.mono ?_
  rintro e w2 ⟨rfl, hst⟩
  have D2 := hid (UpDone.reads HU.out HR.out (R1.out.trans hst))
  clear hst T2 U1 R1
  have hb : ((m : Int) != 65535 - (n : Int)) = true := by simp; omega
  have HNE := hid hne
  clear hne
  go_wp2
  go_ret
  exact ⟨rfl, D2.out⟩

set_option maxRecDepth 100000 in
set_option maxHeartbeats 4000000 in
theorem stored_long (ub r : Nat) (v : Value) (out : List Nat) (most : Nat) (tl td : Option Addr) (s : ByteArray) (t p n : Nat) (w : World) (h : Up w ub r v out most tl td) (hr : Rd w r s t) (hs : s.size ≤ 140737488351232) (ht : t ≤ 8 * s.size) (hp : (t + 7) / 8 = p) (h2 : p + 4 ≤ s.size)
    (hn : Bt.byteN s p + 256 * Bt.byteN s (p + 1) = n) (hn' : Bt.byteN s (p + 2) + 256 * Bt.byteN s (p + 3) = 65535 - n) (hm1 : most ≤ 9223372036854775807) (hl : out.length ≤ 70368744177664) (hroom : most < out.length + n) :
    Calls Tryz.prog 90 #[.pointer (some ⟨ub, 0, none⟩)] w fun e w' => e = .returned (.int .i64 (2 : Nat)) ∧ UpDone w w' ub r v out most tl td s (8 * (p + 4)) := by
  have hn16 : n < 65536 := by have := Bt.byteN_lt s p; have := Bt.byteN_lt s (p + 1); omega
  have T1 := hid (twoBytes_yes ub r v out most tl td s t w h hr hs ht (by omega))
  rw [hp, hn] at T1
  have HU := hid h
  have HR := hid hr
  have HN' := hid hn'
  clear h hr hn hn'
  go_enter Tryz.func90, Tryz.ntmps90
  go_wp2_with fail
  refine T1.out.mono ?_
  rintro e w1 ⟨rfl, hst⟩
  have R1 := hid hst
  have U1 := hid (HU.out.reads HR.out hst.touch)
  clear hst T1
  have T2 := hid (twoBytes_yes ub r v out most tl td s (8 * (p + 2)) w1 U1.out R1.out.rd hs (by omega) (by omega))
  rw [show (8 * (p + 2) + 7) / 8 = p + 2 by omega, show p + 2 + 1 = p + 3 by omega, HN'.out, show 8 * (p + 2 + 2) = 8 * (p + 4) by omega] at T2
  have hflip := i64_flip' n hn16
  go_wp2_with fail
  refine T2.out.mono ?_
  rintro e w2 ⟨rfl, hst⟩
  have U2 := hid (U1.out.reads R1.out.rd hst.touch)
  have R2 := hid (R1.out.trans hst)
  clear hst T2 U1 R1
  rw [show ((65535 - n : Nat) : Int) = 65535 - (n : Int) by omega]
  have HRM := hid (hasRoom_any ub r v out most tl td n w2 U2.out (by omega) (by omega) (by omega))
  have hdec : decide ((n : Int) ≤ (most : Int) - (out.length : Int)) = false := decide_eq_false (by omega)
  rw [hdec] at HRM
  clear hdec
  go_wp2_with fail
  refine HRM.out.mono ?_
  rintro e w3 ⟨rfl, hst⟩
  have D3 := hid (UpDone.reads HU.out HR.out (R2.out.trans (hst.rstep R2.out.rd)))
  clear hst HRM
  go_wp2
  go_ret
  exact ⟨rfl, D3.out⟩

set_option maxRecDepth 100000 in
set_option maxHeartbeats 4000000 in
theorem stored_cut (ub r : Nat) (v : Value) (out : List Nat) (most : Nat) (tl td : Option Addr) (s : ByteArray) (t p n : Nat) (w : World) (h : Up w ub r v out most tl td) (hr : Rd w r s t) (hs : s.size ≤ 140737488351232) (ht : t ≤ 8 * s.size) (hp : (t + 7) / 8 = p) (h2 : p + 4 ≤ s.size)
    (hn : Bt.byteN s p + 256 * Bt.byteN s (p + 1) = n) (hn' : Bt.byteN s (p + 2) + 256 * Bt.byteN s (p + 3) = 65535 - n) (hm1 : most ≤ 9223372036854775807) (hl : out.length ≤ 70368744177664) (hroom : out.length + n ≤ most) (hcut : s.size < p + 4 + n) :
    Calls Tryz.prog 90 #[.pointer (some ⟨ub, 0, none⟩)] w fun e w' => e = .returned (.int .i64 (3 : Nat)) ∧ UpDone w w' ub r v out most tl td s (8 * (p + 4)) := by
  have hn16 : n < 65536 := by have := Bt.byteN_lt s p; have := Bt.byteN_lt s (p + 1); omega
  have T1 := hid (twoBytes_yes ub r v out most tl td s t w h hr hs ht (by omega))
  rw [hp, hn] at T1
  have HU := hid h
  have HR := hid hr
  have HN' := hid hn'
  clear h hr hn hn'
  go_enter Tryz.func90, Tryz.ntmps90
  go_wp2_with fail
  refine T1.out.mono ?_
  rintro e w1 ⟨rfl, hst⟩
  have R1 := hid hst
  have U1 := hid (HU.out.reads HR.out hst.touch)
  clear hst T1
  have T2 := hid (twoBytes_yes ub r v out most tl td s (8 * (p + 2)) w1 U1.out R1.out.rd hs (by omega) (by omega))
  rw [show (8 * (p + 2) + 7) / 8 = p + 2 by omega, show p + 2 + 1 = p + 3 by omega, HN'.out, show 8 * (p + 2 + 2) = 8 * (p + 4) by omega] at T2
  have hflip := i64_flip' n hn16
  go_wp2_with fail
  refine T2.out.mono ?_
  rintro e w2 ⟨rfl, hst⟩
  have U2 := hid (U1.out.reads R1.out.rd hst.touch)
  have R2 := hid (R1.out.trans hst)
  clear hst T2 U1 R1
  rw [show ((65535 - n : Nat) : Int) = 65535 - (n : Int) by omega]
  have HRM := hid (hasRoom_any ub r v out most tl td n w2 U2.out (by omega) (by omega) (by omega))
  have hdec : decide ((n : Int) ≤ (most : Int) - (out.length : Int)) = true := decide_eq_true (by omega)
  rw [hdec] at HRM
  clear hdec
  go_wp2_with fail
  refine HRM.out.mono ?_
  rintro e w3 ⟨rfl, hst⟩
  have U3 := hid (U2.out.reads R2.out.rd (hst.touch _))
  have R3 := hid (R2.out.trans (hst.rstep R2.out.rd))
  clear hst HRM U2 R2
  have RB := hid (rbytes_end r s (8 * (p + 4)) n w3 R3.out.rd (by omega) (by omega) (by omega) (by omega))
  have c3 := (up_cells U3.out).1
  have D3 := hid (UpDone.reads HU.out HR.out R3.out)
  go_wp2_with fail
  refine RB.out.mono ?_
  rintro e w4 ⟨rfl, rfl⟩
  go_wp2
  go_ret
  exact ⟨rfl, D3.out⟩

theorem stored_any (ub r : Nat) (v : Value) (out : List Nat) (most : Nat) (tl td : Option Addr) (s : ByteArray) (t : Nat) (w : World) (h : Up w ub r v out most tl td) (hr : Rd w r s t) (hs : s.size ≤ 140737488351232) (ht : t ≤ 8 * s.size) (hm1 : most ≤ 9223372036854775807) (hl : out.length ≤ 70368744177664) :
    Calls Tryz.prog 90 #[.pointer (some ⟨ub, 0, none⟩)] w fun e w' => e = .returned (.int .i64 ((Inf.st s most t out).1 : Nat)) ∧ UpDone w w' ub r v (Inf.st s most t out).2.2 most tl td s (Inf.st s most t out).2.1 := by
  obtain ⟨p, hp⟩ : ∃ p, (t + 7) / 8 = p := ⟨_, rfl⟩
  obtain ⟨n, hn⟩ : ∃ n, Bt.byteN s p + 256 * Bt.byteN s (p + 1) = n := ⟨_, rfl⟩
  unfold Inf.st
  simp only [hp, hn]
  by_cases c1 : s.size < p + 2
  · rw [if_pos c1]
    exact stored_end1 ub r v out most tl td s t p w h hr hs ht hp c1
  rw [if_neg c1]
  by_cases c2 : s.size < p + 4
  · rw [if_pos c2]
    exact stored_end2 ub r v out most tl td s t p w h hr hs ht hp (by omega) c2
  rw [if_neg c2]
  by_cases c3 : Bt.byteN s (p + 2) + 256 * Bt.byteN s (p + 3) ≠ 65535 - n
  · rw [if_pos c3]
    exact stored_size ub r v out most tl td s t p n _ w h hr hs ht hp (by omega) hn rfl c3
  rw [if_neg c3]
  have hn' : Bt.byteN s (p + 2) + 256 * Bt.byteN s (p + 3) = 65535 - n := by omega
  by_cases c4 : most < out.length + n
  · rw [if_pos c4]
    exact stored_long ub r v out most tl td s t p n w h hr hs ht hp (by omega) hn hn' hm1 hl c4
  rw [if_neg c4]
  by_cases c5 : s.size < p + 4 + n
  · rw [if_pos c5]
    exact stored_cut ub r v out most tl td s t p n w h hr hs ht hp (by omega) hn hn' hm1 hl (by omega) c5
  rw [if_neg c5]
  exact stored_yes ub r v out most tl td s t p n w h hr hs ht hp (by omega) hn hn' (by omega) (by omega) (by omega) hl

theorem st_keeps {s : ByteArray} {most t : Nat} {out : List Nat} {e t2 : Nat} {out2 : List Nat} (h : Inf.st s most t out = (e, t2, out2)) (hb : Inf.Bd s most t out) : Inf.Bd s most t2 out2 ∧ t ≤ t2 := by
  obtain ⟨p, hp⟩ : ∃ p, (t + 7) / 8 = p := ⟨_, rfl⟩
  obtain ⟨n, hn⟩ : ∃ n, Bt.byteN s p + 256 * Bt.byteN s (p + 1) = n := ⟨_, rfl⟩
  have hf := hb.fits
  unfold Inf.st at h
  simp only [hp, hn] at h
  by_cases c1 : s.size < p + 2
  · rw [if_pos c1] at h
    simp only [Prod.mk.injEq] at h
    obtain ⟨rfl, rfl, rfl⟩ := h
    exact ⟨hb, Nat.le_refl _⟩
  rw [if_neg c1] at h
  by_cases c2 : s.size < p + 4
  · rw [if_pos c2] at h
    simp only [Prod.mk.injEq] at h
    obtain ⟨rfl, rfl, rfl⟩ := h
    exact ⟨hb.later (by omega) (by omega), by omega⟩
  rw [if_neg c2] at h
  by_cases c3 : Bt.byteN s (p + 2) + 256 * Bt.byteN s (p + 3) ≠ 65535 - n
  · rw [if_pos c3] at h
    simp only [Prod.mk.injEq] at h
    obtain ⟨rfl, rfl, rfl⟩ := h
    exact ⟨hb.later (by omega) (by omega), by omega⟩
  rw [if_neg c3] at h
  by_cases c4 : most < out.length + n
  · rw [if_pos c4] at h
    simp only [Prod.mk.injEq] at h
    obtain ⟨rfl, rfl, rfl⟩ := h
    exact ⟨hb.later (by omega) (by omega), by omega⟩
  rw [if_neg c4] at h
  by_cases c5 : s.size < p + 4 + n
  · rw [if_pos c5] at h
    simp only [Prod.mk.injEq] at h
    obtain ⟨rfl, rfl, rfl⟩ := h
    exact ⟨hb.later (by omega) (by omega), by omega⟩
  rw [if_neg c5] at h
  simp only [Prod.mk.injEq] at h
  obtain ⟨rfl, rfl, rfl⟩ := h
  have hbits := hb.bits
  refine ⟨⟨by simp; omega, by simp; omega, fun x hx => ?_, by omega⟩, by omega⟩
  rcases List.mem_append.1 hx with hx | hx
  · exact hb.small x hx
  · simp at hx
    obtain ⟨i, _, rfl⟩ := hx
    exact Bt.byteN_lt _ _
end Go.Proofs.YtffjkceedbblgaaGreatDoor
