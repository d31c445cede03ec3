/- Texts of this proof, one behind the other: what each says stands ahead of it. -/
import Derived.Test.YtohcngiiijokkaaDoorM36
import Derived.Test.YtohcngiiijokkaaDoorM21
/- The document's symbols of a block: what they come to; conditions: the lengths make tables, what is unpacked fits into memory. -/
namespace Go.Proofs.YtohcngiiijokkaaDoor
open Go.RowKit Go.Lib

/-- What the document's symbols leaves. -/
def RyPost (R : Nat → Nat → List Nat → Prop) (sb : Nat) (v : Value) (most : Nat) (S : ByteArray) (w : World) (e : Ending) (w' : World) : Prop :=
  e = .returned (.tuple #[]) ∧ ∃ er t' out', R er t' out' ∧ Inf.Bd S most t' out' ∧ SvDone w w' sb v out' S t' most er

theorem sv_base {w w3 w' : World} {sb : Nat} {v : Value} {out out' : List Nat} {S : ByteArray} {t t' most er er' : Nat} (h : Sv w sb v out S t most er) (tc : Touch (fun _ => False) w w3) (d : SvDone w3 w' sb v out' S t' most er') : SvDone w w' sb v out' S t' most er' :=
  SvDone.then (show SvDone w w3 sb v out S t most er from ⟨v, h.still tc, tc.mono (fun _ _ e => e.elim), .inl rfl⟩) (h.still tc) d

theorem SvDone.step {w w1 w2 : World} {sb : Nat} {v v1 : Value} {out out' out2 : List Nat} {S : ByteArray} {t t' t2 most er er' er2 : Nat} (h : SvDone w w1 sb v out S t most er) (u : Sv w1 sb v1 out' S t' most er') (k : SvStep w1 w2 sb v1 out2 S t2 most er2) : SvDone w w2 sb v out2 S t2 most er2 := h.then u k.done

theorem bd_lit {S : ByteArray} {most t t1 i : Nat} {out : List Nat} (h : Inf.Bd S most t out) (hlt : t < t1) (hf : t1 ≤ 8 * S.size) (hi : i < 256) (hm : out.length < most) : Inf.Bd S most t1 (out ++ [i]) :=
  ⟨by rw [List.length_append]; simp; omega, by rw [List.length_append]; simp; have := h.bits; omega, fun x hx => by
    rcases List.mem_append.1 hx with hx | hx
    · exact h.small x hx
    · simp only [List.mem_singleton] at hx
      omega, hf⟩

set_option maxRecDepth 100000 in
set_option maxHeartbeats 8000000 in
theorem rsymbols_any (sb : Nat) (v : Value) (out0 : List Nat) (S : ByteArray) (t0 most : Nat) (al ad : Option Addr) (ll cl ld cd : Nat) (fl fd : Nat → Nat) (w : World) (h : Sv w sb v out0 S t0 most 0) (hs : S.size ≤ 140737488351232)
    (hTl : Inf.Tbl fl ll) (hTd : Inf.Tbl fd ld) (hzl : ∀ i, ll ≤ i → fl i = 0) (hzd : ∀ i, ld ≤ i → fd i = 0) (hil : Ints w al ll (fun i => (fl i : Nat))) (hid' : Ints w ad ld (fun i => (fd i : Nat)))
    (hal : ∀ b o, al = some ⟨b, o, none⟩ → b ≠ sb ∧ v.ownBlock ≠ some b) (had : ∀ b o, ad = some ⟨b, o, none⟩ → b ≠ sb ∧ v.ownBlock ≠ some b)
    (hm1 : most ≤ 9223372036854775807) (hb : Inf.Bd S most t0 out0) (hc : most ≤ 70368744177664 ∨ 400000 * S.size ≤ 70368744177664) :
    Calls Tryd.prog 33 #[.pointer (some ⟨sb, 0, none⟩), .slice al ll cl, .slice ad ld cd] w (RyPost (Inf.Sy fl ll fd ld S most t0 out0) sb v most S w) := by
  have hsb := lt_of_block h.1
  have hvl : ∀ k, v.ownBlock = some k → k < w.heap.size := fun k e => (h.2.lt k e).2
  have HS := hid h
  have HIL := hid hil
  have HID := hid hid'
  have HAL := hid hal
  have HAD := hid had
  have HB := hid hb
  have HC := hid hc
  have HVL := hid hvl
  have hfit0 := hb.fits
  clear h hil hid' hal had hb hc hvl
  go_enter Tryd.func33, Tryd.ntmps33
  go_wp2_with fail
  refine (rnew_tbl al ll cl fl w hTl HIL.out).mono ?_
  rintro e w1 ⟨lc, ccl, rfl, i1, n1, tc1⟩
  have I1 := hid i1
  have N1 := hid n1
  have T1 := hid tc1
  have D1 := hid (HID.out.new tc1)
  clear i1 n1 tc1
  go_wp2_with fail
  refine (rnew_tbl ad ld cd fd w1 hTd D1.out).mono ?_
  rintro e w2 ⟨dc0, ccd0, rfl, _, _, tc2⟩
  have T2 := hid (T1.out.trans tc2 (fun _ _ e => e))
  have I2 := hid (I1.out.new tc2)
  have D2 := hid (D1.out.new tc2)
  clear tc2
  go_wp2_with fail
  refine (rnew_tbl ad ld cd fd w2 hTd D2.out).mono ?_
  rintro e w3 ⟨dc, ccd, rfl, i3, n3, tc3⟩
  have T3 := hid (T2.out.trans tc3 (fun _ _ e => e))
  have IC := hid (I2.out.new tc3)
  have IE := hid i3
  have ID := hid (D2.out.new tc3)
  have IL := hid (HIL.out.new T3.out)
  have NC := hid (show ∀ b o, lc = some ⟨b, o, none⟩ → b ≠ sb ∧ v.ownBlock ≠ some b from fun b o e => by
    have := N1.out b o e
    exact ⟨by omega, fun k => by have := HVL.out b k; omega⟩)
  have hsz2 := T2.out.size
  have NE := hid (show ∀ b o, dc = some ⟨b, o, none⟩ → b ≠ sb ∧ v.ownBlock ≠ some b from fun b o e => by
    have := n3 b o e
    exact ⟨by omega, fun k => by have := HVL.out b k; omega⟩)
  have S3 := hid (HS.out.still T3.out)
  clear i3 n3 tc3 T1 T2 I1 I2 D1 D2 N1 hsz2
  go_wp2_with fail
  go_loopg [] (8 * S.size + 1 - t0) (fun gk wr => ∃ (t : Nat) (out : List Nat), t + gk = 8 * S.size + 1 ∧ SvDone w3 wr sb v out S t most 0 ∧ Inf.Bd S most t out ∧ (∀ er t' out', Inf.Sy fl ll fd ld S most t out er t' out' → Inf.Sy fl ll fd ld S most t0 out0 er t' out'))
  case atStart => exact ⟨t0, out0, by omega, SvDone.refl S3.out, HB.out, fun _ _ _ h => h⟩
  case round =>
    obtain ⟨t, out, hgk, hdone, hbd, hback⟩ := hrel
    have DN := hid hdone
    have BD := hid hbd
    have BK := hid hback
    obtain ⟨v1, u1, c1, o1⟩ := hdone
    have U1 := hid u1
    have hfit := hbd.fits
    have hroom := hbd.room HC.out
    have ILr := hid (IL.out.done DN.out HAL.out)
    have ICr := hid (IC.out.done DN.out NC.out)
    clear hbd hback u1 c1 o1
    obtain ⟨er, i, t1, hn⟩ : ∃ er i t1, Inf.nx fl ll S t = (er, i, t1) := ⟨_, _, _, rfl⟩
    have HNF := hid (Inf.nx_fits hn hfit)
    have NX := hid (rnext_any sb v1 out S t most al lc ll cl ccl fl wr U1.out hs hfit hTl hzl ILr.out ICr.out er i t1 hn)
    have HN := hid hn
    clear hn ILr ICr
    go_wp2_with fail
    refine NX.out.mono ?_
    rintro e w4 ⟨rfl, st4⟩
    have ST4 := hid st4
    have D4 := hid (DN.out.step U1.out st4)
    clear st4 NX
    have c4 := (sv_cells ST4.out.1).2.2.2.2
    have ht1 := HNF.out.1
    have htt := HNF.out.2.1
    have BD4 := hid (BD.out.later htt ht1)
    by_cases her : er = 0
    · subst her
      have hlt := (HNF.out.2.2.1 rfl).1
      by_cases h256 : i = 256
      · have hq : ((i : Int) == 256) = true := by simp; omega
        have HI := hid h256
        clear h256
        go_wp2
        exact bodyPost_ret (results_none (fn := Tryd.f33) rfl _ Tryd.prog _) rfl ⟨rfl, 0, t1, out, BK.out _ _ _ (.fin t out t1 (by rw [HN.out, HI.out])), BD4.out, sv_base HS.out T3.out D4.out⟩
      · have hq : ((i : Int) == 256) = false := by simp; omega
        have HI := hid h256
        clear h256
        obtain ⟨_, _, c2, c3, _⟩ := sv_cells ST4.out.1
        obtain ⟨av, cv, hav⟩ := sv_shape ST4.out.1
        subst hav
        by_cases hlo : i < 256
        · go_upto_region 9 with fail
          go_cut [66] (fun x wd => x = .bool (decide (most ≤ out.length)) ∧ Touch (fun _ => False) w4 wd)
          case first =>
            have hdec : decide ((most : Int) ≤ (out.length : Int)) = decide (most ≤ out.length) := by simp
            go_quiet (fail)
            go_wp2
            go_meet
            case rel => exact ⟨by simp, (Touch.refl _ w4).drewN _⟩
          obtain ⟨rfl, tc5⟩ := hcut
          have ST5 := hid (show SvStep wr wc sb (.slice av out.length cv) out S t1 most 0 from ⟨ST4.out.1.still tc5, ST4.out.2.trans tc5 (fun _ _ e => e.elim)⟩)
          clear tc5 c2 c3 c4 ST4
          have D5 := hid (DN.out.step U1.out ST5.out)
          obtain ⟨_, _, c2, c3, c4⟩ := sv_cells ST5.out.1
          by_cases hrm : out.length < most
          · rw [show decide (most ≤ out.length) = false from decide_eq_false (by omega)]
            have f2 := sv_free ST5.out.1 2
            obtain ⟨i0, hin, hz0, hz1, hz2⟩ := info_parts Tryd.info5
            have OW := hid ST5.out.1.2
            have hsbc := lt_of_block ST5.out.1.1
            have hso := sv_own ST5.out.1
            go_wp2_with (at_builtin; refine wpList_append_own_at _ rfl _ _ 67 rfl 0 5 i0 (.int .u8 0) 1 1 Tryd.underlying67 hin hz0 hz1 hz2 rfl (by decide) _ _ _ rfl (OW.out.alloc _) ⟨wc.heap.size, 0, none⟩ 1 1 [.int .u8 (i : Nat)] rfl rfl (cell_one_new wc _ _) (by intro u hu; simp at hu; subst hu; rfl) (by unfold maxLen; omega) (by omega) (Nat.zero_le _) ?_)
            intro v' w6 hown hgrow _ hwh
            have hown' : w6.ownsRow 0 5 1 v' (out ++ [i]).length (bytesV (out ++ [i])) := by
              rw [List.length_append]
              unfold bytesV at hown ⊢
              rw [List.map_append]
              exact hown
            have hb6 : w6.heap[sb]? = some (.cells #[.string S, .int .i64 (t1 : Nat), .slice av out.length cv, .int .i64 (most : Nat), .int .i64 (0 : Nat)] 69 (0, 0)) := by
              rw [hgrow.block sb (by simp; omega) (fun e => hso e.symm), Below.heap_alloc _ _ _ hsbc]
              exact ST5.out.1.1
            have k6 : w6.cell? ⟨sb, 2, none⟩ = some (.slice av out.length cv) := by simp [World.cell?, hb6]
            have f6 : w6.frozen? ⟨sb, 2, none⟩ = false := by simp [World.frozen?, hb6]
            have D6 := hid (D5.out.then ST5.out.1 (sv_grown ST5.out.1 hgrow hown' hwh))
            have BD6 := hid (bd_lit BD.out hlt ht1 hlo hrm)
            obtain ⟨a5, c5, hv5⟩ := own_shape hown'
            subst hv5
            have HRM := hid hrm
            clear hown hown' hgrow hwh hb6 hrm
            go_wp2
            go_roundg (8 * S.size + 1 - t1)
            case measure => omega
            case rel =>
              refine ⟨t1, out ++ [i], by omega, ?_, BD6.out, fun er t' out' hy => BK.out er t' out' (.lit t out i t1 HN.out hlo HRM.out er t' out' hy)⟩
              have hf := D6.out
              rw [show (out ++ [i]).length = out.length + 1 by simp] at hf
              exact hf
          · rw [show decide (most ≤ out.length) = true from decide_eq_true (by omega)]
            have f4 := sv_free ST5.out.1 4
            have HRM := hid hrm
            clear hrm
            go_wp2
            exact bodyPost_ret (results_none (fn := Tryd.f33) rfl _ Tryd.prog _) rfl ⟨rfl, 2, t1, out, BK.out _ _ _ (.full t out i t1 HN.out hlo (by have := HRM.out; omega)), BD4.out, sv_base HS.out T3.out (D5.out.step ST5.out.1 ⟨ST5.out.1.err 2, (Touch.refl (fun k => k = sb) wc).setCell (p := ⟨sb, 4, none⟩) (fun _ => rfl) _⟩)⟩
        · have hgt : 256 < i := by have := HI.out; omega
          have f4 := sv_free ST4.out.1 4
          by_cases k1 : 285 < i
          · go_wp2_with fail
            refine (rlen_out (i : Int) _ (by omega)).mono ?_
            rintro e w5 ⟨rfl, rfl⟩
            go_wp2
            exact bodyPost_ret (results_none (fn := Tryd.f33) rfl _ Tryd.prog _) rfl ⟨rfl, 5, t1, out, BK.out _ _ _ (.agErr t out i t1 HN.out hgt 5 t1 out (ag_none k1) (by decide)), BD4.out, sv_base HS.out T3.out (D4.out.step ST4.out.1 ⟨ST4.out.1.err 5, (Touch.refl (fun k => k = sb) w5).setCell (p := ⟨sb, 4, none⟩) (fun _ => rfl) _⟩)⟩
          have hlb := lb_small i (by omega)
          go_wp2_with fail
          refine (rlen_at i _ (by omega) (by omega)).mono ?_
          rintro e w5 ⟨rfl, rfl⟩
          by_cases k2 : 8 * S.size < t1 + lb i
          · have K := hid (rtake_end sb (.slice av out.length cv) out S t1 most (lb i) w5 ST4.out.1 (by omega) ht1 k2 (by omega))
            have K2 := hid k2
            clear k2
            go_wp2_with fail
            refine K.out.mono ?_
            rintro e w6 ⟨rfl, st6⟩
            have ST6 := hid st6
            have D6 := hid (D4.out.step ST4.out.1 st6)
            clear st6 K
            have NX := hid (rnext_err sb (.slice av out.length cv) out S t1 most 3 ad dc ld cd ld ccd w6 ST6.out.1 (by decide))
            go_wp2_with fail
            refine NX.out.mono ?_
            rintro e w7 ⟨rfl, rfl⟩
            have d4 := (sv_cells ST6.out.1).2.2.2.2
            go_wp2
            exact bodyPost_ret (results_none (fn := Tryd.f33) rfl _ Tryd.prog _) rfl ⟨rfl, 3, t1, out, BK.out _ _ _ (.agErr t out i t1 HN.out hgt 3 t1 out (ag_cut k1 K2.out) (by decide)), BD4.out, sv_base HS.out T3.out D6.out⟩
          have hr13 := rval_13 S t1 (lb i) hlb
          have hln := lenN_small i (by omega) (by omega)
          have K := hid (rtake_yes sb (.slice av out.length cv) out S t1 most (lb i) w5 ST4.out.1 hs (by omega) (by omega))
          obtain ⟨r1, hr1⟩ : ∃ r1, r1 = Bt.rval S t1 (lb i) := ⟨_, rfl⟩
          rw [← hr1] at K hr13
          have HR1 := hid hr1
          obtain ⟨n, hnn⟩ : ∃ n, n = lenN i + r1 := ⟨_, rfl⟩
          have hsum : ((lenN i : Nat) : Int) + ((r1 : Nat) : Int) = ((n : Nat) : Int) := by omega
          have hnb : n ≤ 50000 := by omega
          have HNN := hid hnn
          have K1 := hid k1
          have K2 := hid k2
          have hfit6 : t1 + lb i ≤ 8 * S.size := by omega
          clear hr1 hnn k1 k2 c4 f4
          go_wp2_with fail
          refine K.out.mono ?_
          rintro e w6 ⟨rfl, st6⟩
          have ST6 := hid st6
          have D6 := hid (D4.out.step ST4.out.1 st6)
          have BD6 := hid (BD4.out.later (t' := t1 + lb i) (by omega) hfit6)
          clear st6 K D4 c2 c3
          obtain ⟨er2, d, t2, hn2⟩ : ∃ er2 d t2, Inf.nx fd ld S (t1 + lb i) = (er2, d, t2) := ⟨_, _, _, rfl⟩
          have HNF2 := hid (Inf.nx_fits hn2 hfit6)
          have NX := hid (rnext_any sb (.slice av out.length cv) out S (t1 + lb i) most ad dc ld cd ccd fd w6 ST6.out.1 hs hfit6 hTd hzd (ID.out.done D6.out HAD.out) (IE.out.done D6.out NE.out) er2 d t2 hn2)
          have HN2 := hid hn2
          clear hn2
          go_wp2_with fail
          refine NX.out.mono ?_
          rintro e w7 ⟨rfl, st7⟩
          have ST7 := hid st7
          have D7 := hid (D6.out.step ST6.out.1 st7)
          have c4 := (sv_cells st7.1).2.2.2.2
          have f4 := sv_free st7.1 4
          clear st7 NX D6
          by_cases her2 : er2 = 0
          case neg =>
            have hne : ((er2 : Int) != 0) = true := by simp; omega
            have HE := hid her2
            clear her2
            go_wp2
            have e1 := (HNF2.out.2.2.2.1 HE.out).1
            exact bodyPost_ret (results_none (fn := Tryd.f33) rfl _ Tryd.prog _) rfl ⟨rfl, er2, t1 + lb i, out, BK.out _ _ _ (.agErr t out i t1 HN.out hgt er2 (t1 + lb i) out (ag_next K1.out K2.out HN2.out HE.out) HE.out), BD6.out, sv_base HS.out T3.out (e1 ▸ D7.out)⟩
          subst her2
          have ht2 := HNF2.out.1
          have htt2 := HNF2.out.2.1
          have BD7 := hid (BD6.out.later (t' := t2) htt2 ht2)
          by_cases k4 : 29 < d
          · have K4 := hid k4
            go_wp2_with fail
            refine (rdist_out (d : Int) _ (by omega)).mono ?_
            rintro e w8 ⟨rfl, rfl⟩
            go_wp2
            exact bodyPost_ret (results_none (fn := Tryd.f33) rfl _ Tryd.prog _) rfl ⟨rfl, 5, t2, out, BK.out _ _ _ (.agErr t out i t1 HN.out hgt 5 t2 out (ag_bad K1.out K2.out HN2.out K4.out) (by decide)), BD7.out, sv_base HS.out T3.out (D7.out.step ST7.out.1 ⟨ST7.out.1.err 5, (Touch.refl (fun k => k = sb) w8).setCell (p := ⟨sb, 4, none⟩) (fun _ => rfl) _⟩)⟩
          have hdb := db_le d (by omega)
          have hdl := dl_le d (by omega)
          have hdl1 := dl_pos d
          go_wp2_with fail
          refine (rdist_in d _ (by omega)).mono ?_
          rintro e w8 ⟨rfl, rfl⟩
          have K4 := hid k4
          clear k4
          by_cases k5 : 8 * S.size < t2 + db d
          · have K := hid (rtake_end sb (.slice av out.length cv) out S t2 most (db d) w8 ST7.out.1 (by omega) ht2 k5 (by omega))
            have K5 := hid k5
            clear k5 c4 f4
            go_wp2_with fail
            refine K.out.mono ?_
            rintro e w9 ⟨rfl, st9⟩
            have D9 := hid (D7.out.step ST7.out.1 st9)
            have c4 := (sv_cells st9.1).2.2.2.2
            clear st9 K
            go_wp2
            exact bodyPost_ret (results_none (fn := Tryd.f33) rfl _ Tryd.prog _) rfl ⟨rfl, 3, t2, out, BK.out _ _ _ (.agErr t out i t1 HN.out hgt 3 t2 out (ag_cut2 K1.out K2.out HN2.out K4.out K5.out) (by decide)), BD7.out, sv_base HS.out T3.out D9.out⟩
          have hr13b := rval_13 S t2 (db d) hdb
          have K := hid (rtake_yes sb (.slice av out.length cv) out S t2 most (db d) w8 ST7.out.1 hs (by omega) (by omega))
          obtain ⟨r2, hr2⟩ : ∃ r2, r2 = Bt.rval S t2 (db d) := ⟨_, rfl⟩
          rw [← hr2] at K hr13b
          have HR2 := hid hr2
          obtain ⟨far, hff⟩ : ∃ far, far = dl d + r2 := ⟨_, rfl⟩
          have hsum2 : ((dl d : Nat) : Int) + ((r2 : Nat) : Int) = ((far : Nat) : Int) := by omega
          have hf1 : 1 ≤ far := by omega
          have hf2 : far ≤ 60000 := by omega
          have HFF := hid hff
          have K5 := hid k5
          have hfit9 : t2 + db d ≤ 8 * S.size := by omega
          clear hr2 hff k5 c4 f4
          go_wp2_with fail
          refine K.out.mono ?_
          rintro e w9 ⟨rfl, st9⟩
          have ST9 := hid st9
          have D9 := hid (D7.out.step ST7.out.1 st9)
          have BD9 := hid (BD7.out.later (t' := t2 + db d) (by omega) hfit9)
          obtain ⟨_, _, c2, c3, c4⟩ := sv_cells st9.1
          have f4 := sv_free st9.1 4
          clear st9 K D7
          by_cases k6 : out.length < far
          · have K6 := hid k6
            go_wp2
            exact bodyPost_ret (results_none (fn := Tryd.f33) rfl _ Tryd.prog _) rfl ⟨rfl, 9, t2 + db d, out, BK.out _ _ _ (.agErr t out i t1 HN.out hgt 9 (t2 + db d) out (ag_far K1.out K2.out HN2.out K4.out K5.out (by rw [← HR2.out, ← HFF.out]; exact K6.out)) (by decide)), BD9.out, sv_base HS.out T3.out (D9.out.step ST9.out.1 ⟨ST9.out.1.err 9, (Touch.refl (fun k => k = sb) w9).setCell (p := ⟨sb, 4, none⟩) (fun _ => rfl) _⟩)⟩
          go_upto_region 25 with fail
          go_cut [148] (fun x wd => x = .bool (decide (most < out.length + n)) ∧ Touch (fun _ => False) w9 wd)
          case first =>
            by_cases hlg : most < out.length + n
            · have hgt2 : (most : Int) - (out.length : Int) < (n : Int) := by omega
              have HLG := hid hlg
              clear hlg
              go_quiet (fail)
              go_wp2
              go_meet
              case rel => exact ⟨congrArg Value.bool (decide_eq_true HLG.out).symm, (Touch.refl _ w9).drewN _⟩
            · have hgt2 : (n : Int) ≤ (most : Int) - (out.length : Int) := by omega
              have HLG := hid hlg
              clear hlg
              go_quiet (fail)
              go_wp2
              go_meet
              case rel => exact ⟨congrArg Value.bool (decide_eq_decide.2 ⟨fun h => by have := HLG.out; omega, fun h => by have := HLG.out; omega⟩), (Touch.refl _ w9).drewN _⟩
          obtain ⟨rfl, tc10⟩ := hcut
          have ST10 := hid (show SvStep w9 wc sb (.slice av out.length cv) out S (t2 + db d) most 0 from ⟨ST9.out.1.still tc10, tc10.mono (fun _ _ e => e.elim)⟩)
          have D10 := hid (D9.out.step ST9.out.1 ST10.out)
          clear tc10 c2 c3 c4 f4
          have c4 := (sv_cells ST10.out.1).2.2.2.2
          have f4 := sv_free ST10.out.1 4
          by_cases k7 : most < out.length + n
          · rw [decide_eq_true k7]
            have K7 := hid k7
            have K6 := hid k6
            clear k7 k6
            go_wp2
            exact bodyPost_ret (results_none (fn := Tryd.f33) rfl _ Tryd.prog _) rfl ⟨rfl, 2, t2 + db d, out, BK.out _ _ _ (.agErr t out i t1 HN.out hgt 2 (t2 + db d) out (ag_long K1.out K2.out HN2.out K4.out K5.out (by rw [← HR2.out, ← HFF.out]; exact K6.out) (by rw [← HR1.out, ← HNN.out]; exact K7.out)) (by decide)), BD9.out, sv_base HS.out T3.out (D10.out.step ST10.out.1 ⟨ST10.out.1.err 2, (Touch.refl (fun k => k = sb) wc).setCell (p := ⟨sb, 4, none⟩) (fun _ => rfl) _⟩)⟩
          rw [decide_eq_false k7]
          have K7 := hid k7
          have K6 := hid k6
          have HLN := hid (show out.length + n ≤ most by omega)
          have HLF := hid (show far ≤ out.length by omega)
          clear k7 k6 c4 f4
          go_wp2_with fail
          go_loopg [18] n (fun gk i wr => ∃ k : Nat, k + gk = n ∧ i = .int .i64 (k : Nat) ∧ SvDone w3 wr sb v (Inf.again far k out) S (t2 + db d) most 0)
          case atStart => exact ⟨0, by omega, rfl, D10.out⟩
          case round =>
            obtain ⟨k, hk, rfl, hdone⟩ := hrel
            have DX := hid hdone
            obtain ⟨v1, u1, tc1, o1⟩ := hdone
            have UX := hid u1
            clear u1 tc1 o1
            by_cases hltk : k < n
            · have hlk := Inf.length_again far k out
              have hHLF := HLF.out
              obtain ⟨g, cap, hv1, _, hg⟩ := UX.out.2.form (by omega)
              obtain ⟨N, hN⟩ : ∃ N, N = (Inf.again far k out).length := ⟨_, rfl⟩
              subst hv1
              have hcx := own_cell UX.out.2 (N - far) (by omega)
              have c1 := (sv_cells UX.out).2.2.1
              have f1 := sv_free UX.out 2
              have hne3 := sv_own UX.out
              have hown := UX.out.2
              obtain ⟨x, hx⟩ : ∃ x, x = (Inf.again far k out).getD (N - far) 0 := ⟨_, rfl⟩
              rw [← hx] at hcx
              rw [← hN] at c1 hown
              have HX := hid hx
              have HN' := hid hN
              have hN1 : far ≤ N := by omega
              have hN2 : N ≤ 80000000000000 := by omega
              clear hx hN hlk hHLF
              have hge : ((N : Int) - (far : Int)) = ((N - far : Nat) : Int) := by omega
              obtain ⟨i0, hin, hz0, hz1, hz2⟩ := info_parts Tryd.info5
              have HGE := hid hge
              clear hge
              have hub := lt_of_block UX.out.1
              go_wp2_with fail
              obtain ⟨M, hM⟩ : ∃ M, M = N - far := ⟨_, rfl⟩
              have hwr : IntKind.i64.wrap ((N : Int) - (far : Int)) = (M : Int) := by rw [IntKind.wrap_i64]; omega
              have q1 : (0 : Int) ≤ (M : Int) := by omega
              have q2 : (M : Int) < (N : Int) := by omega
              rw [← hM] at hcx
              have HMM := hid hM
              clear hM
              have hgub : sb ≠ g := fun e => hne3 (by rw [e]; rfl)
              have hfz : ∀ o, (wr.alloc o).frozen? ⟨sb, 2, none⟩ = false := fun o => by rw [World.frozen?_of_block (w := wr) (Below.heap_alloc _ _ _ hub)]; exact f1
              have hca : ∀ o, (wr.alloc o).cell? ⟨sb, 2, none⟩ = some (.slice (some ⟨g, 0, none⟩) N cap) := fun o => by rw [World.cell?_of_block (w := wr) (Below.heap_alloc _ _ _ hub)]; exact c1
              go_region_law ((refine step_append_keep _ (by rfl) _ _ _ (by rfl) 5 i0 _ 1 Tryd.underlying67 hin hz0 hz1 hz2 rfl g N cap _ (by rfl) ((hown.alloc _).drew) ⟨wr.heap.size, 0, none⟩ 1 1 [.int .u8 (x : Nat)] (by rfl) (by rfl) (World.news_of_block (cs := #[.int .u8 (x : Nat)]) (t := 5) (fr := (0, 0)) (heap_alloc_new wr _)) (by simp [Value.oneCell']) (by omega) (by unfold maxLen; omega) (by omega) (wr.heap.size + 1) (by simp) ?_; intro g2 cap2 w2 hown2 hgrow hat hkeep; have k2 : w2.cell? ⟨sb, 2, none⟩ = some (.slice (some ⟨g, 0, none⟩) N cap) := (by rw [hgrow.cell_far _ (by simp; omega) (by simp; omega)]; simpa using hca _); have kf2 : w2.frozen? ⟨sb, 2, none⟩ = false := (by rw [hgrow.frozen_far _ (by simp; omega) (by simp; omega)]; simpa using hfz _)))
              all_goals
                rw [← HN'.out] at UX
                have FIN := hid (sv_again DX.out UX.out hgrow hown2 HN'.out hat)
                clear hown2 hgrow hat hkeep
                go_wp2
                go_roundg (gk - 1)
                case measure => omega
                case rel =>
                  refine ⟨k + 1, by omega, by go_num, ?_⟩
                  rw [Inf.again_last, ← HN'.out, ← HX.out]
                  exact FIN.out
            · obtain rfl : k = n := by omega
              go_wp2
              go_roundg (8 * S.size + 1 - (t2 + db d))
              case measure => omega
              case rel =>
                have hag := ag_ok (fd := fd) (ld := ld) (s := S) (most := most) (out := out) K1.out K2.out HN2.out K4.out K5.out (by rw [← HR2.out, ← HFF.out]; exact K6.out) (by rw [← HR1.out, ← HNN.out]; exact K7.out)
                rw [← HR2.out, ← HFF.out, ← HR1.out, ← HNN.out] at hag
                refine ⟨t2 + db d, Inf.again far k out, by omega, DX.out, (Inf.ag_keeps hag (by omega) BD4.out).1, fun er t' out' hy => BK.out er t' out' (.ag t out i t1 HN.out hgt _ _ hag er t' out' hy)⟩
    · have hne : ((er : Int) != 0) = true := by simp; omega
      have HE := hid her
      clear her
      go_wp2
      have e1 := (HNF.out.2.2.2.1 HE.out).1
      exact bodyPost_ret (results_none (fn := Tryd.f33) rfl _ Tryd.prog _) rfl ⟨rfl, er, t, out, BK.out _ _ _ (.err t out er i t1 HN.out HE.out), BD.out, sv_base HS.out T3.out (e1 ▸ D4.out)⟩
end Go.Proofs.YtohcngiiijokkaaDoor
