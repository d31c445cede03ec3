/- Texts of this proof, one behind the other: what each says stands ahead of it. -/
import Derived.Test.YtohcngiiijokkaaDoorM40
import Derived.Test.YtohcngiiijokkaaDoorM32
import Derived.Test.YtohcngiiijokkaaDoorM34
/- The document's Unpack: what it comes to; conditions: what is unpacked fits into memory. -/
namespace Go.Proofs.YtohcngiiijokkaaDoor
open Go.RowKit Go.Lib

theorem results_tmp4 {fn : Func} {t u v x : Tmp} (h : fn.results = #[.tmp t, .tmp u, .tmp v, .tmp x]) (tmps : Array Value) (P : Program) (w : World) :
    (results fn tmps).run P w = .ok (.tuple #[tmps.getD t undef, tmps.getD u undef, tmps.getD v undef, tmps.getD x undef]) w := by
  simp [results, h]

/-- What the document's Unpack answers. -/
def RuRes (data : ByteArray) (f m : Nat) (e : Ending) : Prop :=
  ∃ er t' out', Inf.Un (data.extract f data.size) m 0 [] er t' out' ∧ t' ≤ 8 * (data.size - f) ∧
    ((er = 0 ∧ e = .returned (.tuple #[.string (strOf out'), .int .i64 (f + (t' + 7) / 8 : Nat), .int .i64 0, .int .i64 0])) ∨
     (er ≠ 0 ∧ e = .returned (.tuple #[.string ByteArray.empty, .int .i64 0, .int .i64 (er : Nat), .int .i64 (f + t' / 8 : Nat)])))

set_option maxRecDepth 100000 in
theorem rUnpack_arg (data : ByteArray) (fr most : Int) (w : World) (h : fr < 0 ∨ (data.size : Int) < fr ∨ most < 0) :
    Calls Tryd.prog 22 #[.string data, .int .i64 fr, .int .i64 most] w fun e w' => e = .returned (.tuple #[.string ByteArray.empty, .int .i64 0, .int .i64 1, .int .i64 0]) ∧ w' = w := by
  by_cases h1 : fr < 0
  · clear h
    go_enter Tryd.func22, Tryd.ntmps22
    go_wp2
    (try simp only [Exit.inBlock, Exit.then])
    refine bodyPost_ret (results_tmp4 rfl _ _ _) rfl ?_
    exact ⟨rfl, rfl⟩
  by_cases h2 : (data.size : Int) < fr
  · clear h
    go_enter Tryd.func22, Tryd.ntmps22
    go_wp2
    (try simp only [Exit.inBlock, Exit.then])
    refine bodyPost_ret (results_tmp4 rfl _ _ _) rfl ?_
    exact ⟨rfl, rfl⟩
  have h3 : most < 0 := by omega
  clear h
  go_enter Tryd.func22, Tryd.ntmps22
  go_wp2
  (try simp only [Exit.inBlock, Exit.then])
  refine bodyPost_ret (results_tmp4 rfl _ _ _) rfl ?_
  exact ⟨rfl, rfl⟩

theorem ru_err {data : ByteArray} {f m er t' : Nat} {out' : List Nat} (hun : Inf.Un (data.extract f data.size) m 0 [] er t' out') (ht : t' ≤ 8 * (data.size - f)) (he : er ≠ 0) : RuRes data f m (.returned (.tuple #[.string ⟨#[]⟩, .int .i64 0, .int .i64 (er : Nat), .int .i64 ((f : Int) + (t' : Int) / 8)])) := by
  refine ⟨er, t', out', hun, ht, .inr ⟨he, ?_⟩⟩
  rw [show ((f + t' / 8 : Nat) : Int) = (f : Int) + (t' : Int) / 8 by omega]
  rfl
theorem ru_ok {data : ByteArray} {f m t' : Nat} {out' : List Nat} (hun : Inf.Un (data.extract f data.size) m 0 [] 0 t' out') (ht : t' ≤ 8 * (data.size - f)) : RuRes data f m (.returned (.tuple #[.string (strOf out'), .int .i64 ((f : Int) + ((t' : Int) + 7) / 8), .int .i64 0, .int .i64 0])) := by
  refine ⟨0, t', out', hun, ht, .inl ⟨rfl, ?_⟩⟩
  rw [show ((f + (t' + 7) / 8 : Nat) : Int) = (f : Int) + ((t' : Int) + 7) / 8 by omega]
theorem conv_row {w : World} {v : Value} {out : List Nat} (h : w.ownsRow 0 5 1 v out.length (bytesV out)) (hb : ∀ x ∈ out, x < 256) (w' : World) (hw : w'.heap = w.heap) : (convert 67 9 v).run Tryd.prog w' = .ok (.string (strOf out)) w' := by
  have hown : w'.ownsRow 0 5 1 v out.length (bytesV out) := by
    refine ⟨h.1, ?_⟩
    rcases h.2 with h0 | ⟨g, cap, cur, hv, hg, hh, rest⟩
    · exact .inl h0
    · exact .inr ⟨g, cap, cur, hv, hg, by rw [hw]; exact hh, rest⟩
  rcases hown.2 with ⟨rfl, hz⟩ | ⟨g, cap, cur, rfl, _, hh, hle, _⟩
  · have hcv := run_convert_bytes_nil (P := Tryd.prog) w' 67 5 Tryd.underlying67 Tryd.underlying5 0 0 9 Tryd.underlying9
    have e : strOf out = ByteArray.empty := by
      rw [List.eq_nil_of_length_eq_zero (l := out) hz]
      rfl
    rw [e]
    exact hcv
  · have hc : ∀ j (hj : j < (out.map UInt8.ofNat).length), w'.cell? ((⟨g, 0, none⟩ : Addr).add j) = some (.int .u8 (((out.map UInt8.ofNat)[j]).toNat : Int)) := by
      intro j hj
      simp only [List.length_map] at hj
      refine hown.cells rfl j _ ?_
      have hlt := hb _ (List.getElem_mem hj)
      simp only [bytesV, List.getElem?_map, List.getElem?_eq_getElem hj, Option.map_some, List.getElem_map]
      rw [UInt8.toNat_ofNat_of_lt' (by simpa using hlt)]
    have hcv := run_convert_bytes_back (P := Tryd.prog) w' 67 9 5 ⟨g, 0, none⟩ cap (out.map UInt8.ofNat) Tryd.underlying67 Tryd.underlying5 Tryd.underlying9 hc
    rw [List.length_map] at hcv
    exact hcv
theorem conv_sv {w : World} {sb : Nat} {v : Value} {out : List Nat} {S : ByteArray} {t most er : Nat} (h : Sv w sb v out S t most er) (hb : ∀ x ∈ out, x < 256) (w' : World) (hw : w'.heap = w.heap) : (convert 67 9 v).run Tryd.prog w' = .ok (.string (strOf out)) w' :=
  conv_row h.2 hb w' hw
theorem fixL_past (i : Nat) (h : 288 ≤ i) : Inf.fixL i = 0 := by
  unfold Inf.fixL
  rw [if_neg (by omega), if_neg (by omega), if_neg (by omega), if_neg (by omega)]
theorem fixD_past (i : Nat) (h : 32 ≤ i) : Inf.fixD i = 0 := by
  unfold Inf.fixD
  rw [if_neg (by omega)]

set_option maxRecDepth 100000 in
set_option maxHeartbeats 8000000 in
theorem rUnpack_in (data : ByteArray) (f m : Nat) (w : World) (hd : data.size ≤ 140737488351232) (hf : f ≤ data.size) (hm1 : m ≤ 9223372036854775807) (hc : m ≤ 70368744177664 ∨ 400000 * data.size ≤ 70368744177664) :
    Calls Tryd.prog 22 #[.string data, .int .i64 (f : Nat), .int .i64 (m : Nat)] w fun e w' => RuRes data f m e ∧ Touch (fun _ => False) w w' := by
  obtain ⟨S, hS⟩ : ∃ S, S = data.extract f data.size := ⟨_, rfl⟩
  have hsz : S.size = data.size - f := by rw [hS, ByteArray.size_extract]; omega
  have hs : S.size ≤ 140737488351232 := by omega
  have hc2 : m ≤ 70368744177664 ∨ 400000 * S.size ≤ 70368744177664 := by omega
  have HC := hid hc2
  have HSZ := hid hsz
  have HS := hid hS
  have hfb : f ≤ 140737488351232 := by omega
  have f0 : (0 : Int) ≤ (f : Int) := by omega
  have f1 : (f : Int) ≤ (data.size : Int) := by omega
  have f2 : ¬ (f : Int) < 0 := by omega
  have f3 : ¬ (data.size : Int) < (f : Int) := by omega
  have f4 : ¬ (m : Int) < 0 := by omega
  clear hc hc2 hsz
  go_enter Tryd.func22, Tryd.ntmps22
  go_wp2_with fail
  rw [← hS]
  obtain ⟨sb, hsb⟩ : ∃ sb, sb = w.heap.size := ⟨_, rfl⟩
  have S0 := hid (show Sv (w.alloc (.cells #[.string S, .int .i64 0, .slice none 0 0, .int .i64 (m : Nat), .int .i64 0] 69)) sb (.slice none 0 0) [] S 0 m 0 from ⟨by
    rw [hsb]
    show (w.heap.push _)[_]? = _
    simp, by simpa [bytesV] using World.ownsRow_nil _ _ _ _⟩)
  have T0 := hid ((Touch.refl (fun _ => False) w).alloc (.cells #[.string S, .int .i64 0, .slice none 0 0, .int .i64 (m : Nat), .int .i64 0] 69))
  rw [← hsb]
  have HSB := hid (show w.heap.size ≤ sb by omega)
  clear hsb hS
  generalize w.alloc (.cells #[.string S, .int .i64 0, .slice none 0 0, .int .i64 (m : Nat), .int .i64 0] 69) = W0 at *
  go_loopg [] (8 * S.size + 1) (fun gk wr => ∃ (t : Nat) (out : List Nat), t + gk = 8 * S.size + 1 ∧ SvDone W0 wr sb (.slice none 0 0) out S t m 0 ∧ Inf.Bd S m t out ∧ (∀ er t' out', Inf.Un S m t out er t' out' → Inf.Un S m 0 [] er t' out'))
  case atStart => exact ⟨0, [], by omega, SvDone.refl S0.out, ⟨by simp, by simp, by simp, by omega⟩, fun _ _ _ h => h⟩
  case round =>
    obtain ⟨t, out, hgk, hdone, hbd, hback⟩ := hrel
    have DN := hid hdone
    have BD := hid hbd
    have BK := hid hback
    obtain ⟨v1, u1, tc1, o1⟩ := hdone
    have U1 := hid u1
    have hfit := hbd.fits
    clear hbd hback u1 tc1 o1
    -- how it ends with an error
    have FINE := hid (fun (wq : World) (er t' : Nat) (out' : List Nat) (hd : SvDone W0 wq sb (.slice none 0 0) out' S t' m er) => (show Touch (fun _ => False) w wq from by
      obtain ⟨_, _, tc, _⟩ := hd
      exact T0.out.trans tc (fun i hi e => by
        have := HSB.out
        rcases e with e | e
        · omega
        · simp [Value.ownBlock] at e)))
    by_cases a1 : 8 * S.size < t + 1
    · have K := hid (rtake_end sb v1 out S t m 1 wr U1.out (by omega) hfit a1 (by decide))
      go_wp2_with fail
      refine K.out.mono ?_
      rintro e w1 ⟨rfl, st⟩
      have ST := hid st
      have D1 := hid (DN.out.step U1.out st)
      clear st K
      go_wp2_with fail
      refine (rtake_err sb v1 out S t m 3 2 w1 ST.out.1 (by decide)).mono ?_
      rintro e w2 ⟨rfl, rfl⟩
      obtain ⟨_, c1, _, _, c4⟩ := sv_cells ST.out.1
      go_wp2_with fail
      go_quiet (fail)
      go_wp2
      (try simp only [Exit.inBlock, Exit.then])
      refine bodyPost_ret (results_tmp4 rfl _ _ _) rfl ?_
      exact ⟨ru_err (HS.out ▸ BK.out _ _ _ (.cut1 t out a1)) (by have := HSZ.out; omega) (by decide), FINE.out _ _ _ _ (D1.out.step ST.out.1 ⟨ST.out.1.still ((Touch.refl _ w2).drewN _), (Touch.refl _ w2).drewN _⟩)⟩
    have hb1 := Bt.rval_lt S t 1
    have K := hid (rtake_yes sb v1 out S t m 1 wr U1.out hs (by omega) (by decide))
    obtain ⟨last, hlast⟩ : ∃ last, last = Bt.rval S t 1 := ⟨_, rfl⟩
    rw [← hlast] at K hb1
    have HLS := hid hlast
    clear hlast
    go_wp2_with fail
    refine K.out.mono ?_
    rintro e w1 ⟨rfl, st⟩
    have ST1 := hid st
    have D1 := hid (DN.out.step U1.out st)
    clear st K
    by_cases a2 : 8 * S.size < t + 3
    · have K := hid (rtake_end sb v1 out S (t + 1) m 2 w1 ST1.out.1 (by omega) (by omega) (by omega) (by decide))
      go_wp2_with fail
      refine K.out.mono ?_
      rintro e w2 ⟨rfl, st⟩
      have ST := hid st
      have D2 := hid (D1.out.step ST1.out.1 st)
      clear st K
      obtain ⟨_, c1, _, _, c4⟩ := sv_cells ST.out.1
      go_wp2_with fail
      go_quiet (fail)
      go_wp2
      (try simp only [Exit.inBlock, Exit.then])
      refine bodyPost_ret (results_tmp4 rfl _ _ _) rfl ?_
      exact ⟨ru_err (t' := t + 1) (HS.out ▸ BK.out _ _ _ (.cut2 t out (by omega) a2)) (by have := HSZ.out; omega) (by decide), FINE.out _ _ _ _ (D2.out.step ST.out.1 ⟨ST.out.1.still ((Touch.refl _ w2).drewN _), (Touch.refl _ w2).drewN _⟩)⟩
    have hb2 := Bt.rval_lt S (t + 1) 2
    have K := hid (rtake_yes sb v1 out S (t + 1) m 2 w1 ST1.out.1 hs (by omega) (by decide))
    obtain ⟨kind, hkind⟩ : ∃ kind, kind = Bt.rval S (t + 1) 2 := ⟨_, rfl⟩
    rw [← hkind] at K hb2
    have HKD := hid hkind
    clear hkind
    go_wp2_with fail
    refine K.out.mono ?_
    rintro e w2 ⟨rfl, st⟩
    have ST2 := hid (show SvStep w1 w2 sb v1 out S (t + 3) m 0 from st)
    have D2 := hid (D1.out.step ST1.out.1 ST2.out)
    have BD3 := hid (BD.out.later (t' := t + 3) (by omega) (by omega))
    have hroom := BD.out.room HC.out
    have hsb2 := lt_of_block ST2.out.1.1
    have HVL := hid (show ∀ k, v1.ownBlock = some k → k < w2.heap.size from fun k e => (ST2.out.1.2.lt k e).2)
    clear st K D1 ST1
    obtain ⟨_, _, _, _, c4⟩ := sv_cells ST2.out.1
    have f4 := sv_free ST2.out.1 4
    go_upto_if 43 with fail
    go_cut [] (fun wd => ∃ er t3 out3, Inf.Bk S m kind (t + 3) out er t3 out3 ∧ Inf.Bd S m t3 out3 ∧ SvDone W0 wd sb (.slice none 0 0) out3 S t3 m er)
    case first =>
      rcases (show kind = 0 ∨ kind = 1 ∨ kind = 2 ∨ kind = 3 by omega) with hk | hk | hk | hk
      · subst hk
        obtain ⟨e0, t2, out2, hst⟩ : ∃ e0 t2 out2, Inf.st S m (t + 3) out = (e0, t2, out2) := ⟨_, _, _, rfl⟩
        have SA := hid (rstored_any sb v1 out S (t + 3) m w2 ST2.out.1 hs (by omega) hm1 hroom)
        rw [hst] at SA
        have HST := hid hst
        clear hst
        go_wp2_with fail
        refine SA.out.mono ?_
        rintro e w3 ⟨rfl, dn⟩
        have D3 := hid (D2.out.then ST2.out.1 dn)
        clear dn SA
        go_wp2
        go_meet
        case rel => exact ⟨e0, t2, out2, .stored (t + 3) out e0 t2 out2 HST.out, (st_keeps HST.out BD3.out).1, D3.out⟩
      · subst hk
        go_wp2_with fail
        refine (rfixed_any w2).mono ?_
        rintro e w3 ⟨a, cap, a', cap', rfl, i1, i2, tc, n1, n2⟩
        have SY := hid (rsymbols_any sb v1 out S (t + 3) m a a' 288 cap 32 cap' Inf.fixL Inf.fixD w3 (ST2.out.1.still tc) hs tbl_fixL tbl_fixD fixL_past fixD_past i1 i2 (fun b o e => ⟨by have := n1 b o e; omega, fun k => by have := n1 b o e; have := HVL.out b k; omega⟩) (fun b o e => ⟨by have := n2 b o e; omega, fun k => by have := n2 b o e; have := HVL.out b k; omega⟩) hm1 BD3.out HC.out)
        have D3 := hid (D2.out.step ST2.out.1 (show SvStep w2 w3 sb v1 out S (t + 3) m 0 from ⟨ST2.out.1.still tc, tc.mono (fun _ _ e => e.elim)⟩))
        have S3 := hid (ST2.out.1.still tc)
        clear i1 i2 tc n1 n2
        go_wp2_with fail
        refine SY.out.mono ?_
        rintro e w4 ⟨rfl, er, t', out', hsy, hbd, dn⟩
        have HSY := hid hsy
        have HBD := hid hbd
        have D4 := hid (D3.out.then S3.out dn)
        clear hsy hbd dn SY
        go_wp2
        go_meet
        case rel => exact ⟨er, t', out', .fixed (t + 3) out er t' out' HSY.out, HBD.out, D4.out⟩
      · subst hk
        have TO := hid (rtold_any sb v1 out S (t + 3) m w2 ST2.out.1 hs (by omega))
        go_wp2_with fail
        refine TO.out.mono ?_
        rintro e w3 hp
        rcases hp with ⟨er, t3, hne, hdy, hf3, st3, rfl⟩ | ⟨t3, told, a, cap, hh, hle, hf3, hlen, hsm, st3, rfl, hints, hcap, hnew⟩
        · have D3 := hid (D2.out.step ST2.out.1 st3)
          have k4 := (sv_cells st3.1).2.2.2.2
          have HDY := hid hdy
          have HNE := hid hne
          have hq : ((er : Int) == 0) = false := by simp; omega
          have BD4 := hid (BD3.out.later (dy_place hdy) hf3)
          clear hdy hne st3 TO
          go_wp2
          go_meet
          case rel => exact ⟨er, t3, out, .head (t + 3) out er t3 [] HDY.out HNE.out, BD4.out, D3.out⟩
        · have HH := hid hh
          have HLE := hid hle
          have BD4 := hid (BD3.out.later (told_place hh hle) hf3)
          have ST3 := hid st3
          have HLN := hid hlen
          have HSM := hid hsm
          have HIN := hid hints
          have HNW := hid hnew
          clear hh hle st3 hsm hints hnew TO
          by_cases h256 : told.getD 256 0 = 0
          · rw [if_pos h256] at ST3
            have D3 := hid (D2.out.step ST2.out.1 ST3.out)
            have k4 := (sv_cells ST3.out.1).2.2.2.2
            have H256 := hid h256
            clear h256
            go_wp2
            go_meet
            case rel => exact ⟨5, t3, out, bk_told5 HH.out HLE.out H256.out, BD4.out, D3.out⟩
          · rw [if_neg h256] at ST3
            have D3 := hid (D2.out.step ST2.out.1 ST3.out)
            have k4 := (sv_cells ST3.out.1).2.2.2.2
            have H256 := hid h256
            clear h256
            have hL := Bt.rval_lt S (t + 3) 5
            have hD := Bt.rval_lt S (t + 3 + 5) 5
            obtain ⟨L, hLL⟩ : ∃ L, L = Inf.dyL S (t + 3) := ⟨_, rfl⟩
            obtain ⟨D, hDD⟩ : ∃ D, D = Inf.dyD S (t + 3) := ⟨_, rfl⟩
            have hL2 : 257 ≤ L ∧ L ≤ 300 := by rw [hLL]; unfold Inf.dyL; omega
            have hD2 : 1 ≤ D ∧ D ≤ 40 := by rw [hDD]; unfold Inf.dyD; omega
            rw [← hLL, ← hDD] at HLN hlen
            rw [← hLL]
            rw [hlen] at hcap
            obtain ⟨b, o, ha, _, _⟩ : ∃ b o, a = some ⟨b, o, none⟩ ∧ b < w3.heap.size ∧ ∀ i, i < told.length → w3.cell? ⟨b, o + i, none⟩ = some (.int .i64 ((told.getD i 0 : Nat) : Int)) := by
              rcases HIN.out with h | h
              · omega
              · exact h
            subst ha
            have hnw := HNW.out b o rfl
            have APX := hid (show ∀ b' o' : Nat, (b' = b) → b' ≠ sb ∧ v1.ownBlock ≠ some b' from fun b' o' e => ⟨by omega, fun k => by have := HVL.out b' k; omega⟩)
            have SY := hid (rsym_all sb v1 out S t3 m (some ⟨b, o, none⟩) (some ⟨b, o + L, none⟩) L cap D (cap - L) (Inf.litOf told L) (Inf.disOf told L D) w3.drew ST3.out.1 hs (by omega) (fun i => by unfold Inf.litOf; split <;> omega) (by omega) (fun i => by unfold Inf.disOf; split <;> omega) (fun i hi => by unfold Inf.litOf; rw [if_neg (by omega)]) (fun i hi => by unfold Inf.disOf; rw [if_neg (by omega)]) (lit_ints HSM.out HLN.out HIN.out) (dis_ints HSM.out HLN.out HIN.out) (fun b' o' e => APX.out b' o' (by simp only [Option.some.injEq, Addr.mk.injEq] at e; omega)) (fun b' o' e => APX.out b' o' (by simp only [Option.some.injEq, Addr.mk.injEq] at e; omega)) hm1 BD4.out HC.out)
            have HLL := hid hLL
            have HDD := hid hDD
            have hlenI : told.length = L + D := hlen
            rw [hlenI]
            have g1 : (0 : Int) ≤ (L : Int) := by omega
            have g2 : (L : Int) ≤ (cap : Int) := by omega
            have g3 : (L : Int) ≤ ((L + D : Nat) : Int) := by omega
            have g4 : ¬ cap = L := by omega
            clear hlen hlenI hLL hDD hL hD
            go_wp2_with fail
            go_region_with (go_at_call 33; refine SY.out.mono ?_; rintro e w4 ⟨rfl, er, t', out', hsy, hbd, dn⟩; have HSY := hid hsy; have HBD := hid hbd; have DN4 := hid dn; clear hsy hbd dn)
            all_goals
              have D4 := hid (D3.out.then ST3.out.1 (show SvDone w3 w4 sb v1 out' S t' m er from by
                obtain ⟨v', s', tc', o'⟩ := DN4.out
                exact ⟨v', s', ⟨tc'.os, tc'.tape, tc'.output, tc'.size, tc'.block⟩, o'⟩))
              go_wp2
              go_meet
              case rel =>
                refine ⟨er, t', out', bk_told HH.out HLE.out H256.out ?_, HBD.out, D4.out⟩
                rw [← HLL.out, ← HDD.out]
                exact HSY.out
      · subst hk
        go_wp2
        go_meet
        case rel => exact ⟨8, t + 3, out, .bad (t + 3) out, BD3.out, D2.out.step ST2.out.1 ⟨ST2.out.1.err 8, (Touch.refl (fun k => k = sb) w2).setCell (p := ⟨sb, 4, none⟩) (fun _ => rfl) _⟩⟩
    obtain ⟨er, t3, out3, hbk, hbd3, hd3⟩ := hcut
    have HBK := hid (show Inf.Bk S m (Bt.rval S (t + 1) 2) (t + 3) out er t3 out3 from by rw [← HKD.out]; exact hbk)
    have D3 := hid hd3
    have BDE := hid hbd3
    have hprog := bk_place hbk BD3.out
    have hf3 := hbd3.fits
    obtain ⟨v3, u3, tc3, o3⟩ := hd3
    have U3 := hid u3
    clear hbk hbd3 u3 tc3 o3 c4 f4 D2 ST2 BD3 HVL
    obtain ⟨_, c1, c2, _, c4⟩ := sv_cells U3.out
    by_cases her : er = 0
    case neg =>
      have hne : ((er : Int) != 0) = true := by simp; omega
      have HE := hid her
      have htb : t3 ≤ 1125899906842624 := by omega
      clear her
      go_wp2_with fail
      go_quiet (fail)
      go_wp2
      (try simp only [Exit.inBlock, Exit.then])
      refine bodyPost_ret (results_tmp4 rfl _ _ _) rfl ?_
      exact ⟨ru_err (HS.out ▸ BK.out _ _ _ (.err t out (by omega) er t3 out3 HBK.out HE.out)) (by have := HSZ.out; omega) HE.out, FINE.out _ _ _ _ (D3.out.step U3.out ⟨U3.out.still ((Touch.refl _ wc).drewN _), (Touch.refl _ wc).drewN _⟩)⟩
    subst her
    rcases (show last = 0 ∨ last = 1 by omega) with hl | hl
    · subst hl
      go_wp2
      go_roundg (8 * S.size + 1 - t3)
      case measure => omega
      case rel => exact ⟨t3, out3, by omega, D3.out, BDE.out, fun e t' out' hy => BK.out e t' out' (.more t out (by omega) HLS.out.symm t3 out3 HBK.out e t' out' hy)⟩
    · subst hl
      have hcv : ∀ w', w'.heap = wc.heap → (convert 67 9 v3).run Tryd.prog w' = .ok (.string (strOf out3)) w' := fun w' hw => conv_sv U3.out BDE.out.small w' hw
      have hc0 := hcv wc rfl
      have hc1 := hcv wc.drew rfl
      have hcN : ∀ n, (convert 67 9 v3).run Tryd.prog (wc.drewN n) = .ok (.string (strOf out3)) (wc.drewN n) := fun n => hcv _ rfl
      have htb : t3 ≤ 1125899906842624 := by omega
      clear hcv
      obtain ⟨av, cv, hav⟩ := sv_shape U3.out
      subst hav
      obtain ⟨SS, hSS⟩ : ∃ SS, strOf out3 = SS := ⟨_, rfl⟩
      rw [hSS] at hc0 hc1 hcN
      have HSS := hid hSS
      clear hSS
      go_wp2_with fail
      go_quiet (fail)
      go_wp2
      (try simp only [Exit.inBlock, Exit.then])
      refine bodyPost_ret (results_tmp4 rfl _ _ _) rfl ?_
      have hr := ru_ok (HS.out ▸ BK.out _ _ _ (.last t out (by omega) (by rw [← HLS.out]; decide) t3 out3 HBK.out) : Inf.Un (data.extract f data.size) m 0 [] 0 t3 out3) (by have := HSZ.out; omega)
      rw [HSS.out] at hr
      exact ⟨hr, FINE.out _ _ _ _ (D3.out.step U3.out ⟨U3.out.still ((Touch.refl _ wc).drewN _), (Touch.refl _ wc).drewN _⟩)⟩
end Go.Proofs.YtohcngiiijokkaaDoor

/- The document's part; conditions: those told. -/
namespace Go.Proofs.YtohcngiiijokkaaDoor
open Go.RowKit

theorem info45 : (Tryd.prog.info? 45).map (·.size) = some 9 := by kernel_rfl
theorem results_cttt {P : Program} {fn : Func} {p t u v : Tmp} {ty : TypeId} (h : fn.results = #[.cell p ty, .tmp t, .tmp u, .tmp v]) (tmps : Array Value) (w : World) (g : Nat) (et : TypeId) (cs : Array Value) (fr : Nat × Nat) (d : TypeDesc)
    (hp : tmps.getD p undef = .pointer (some ⟨g, 0, none⟩)) (hg : w.heap[g]? = some (.cells cs et fr))
    (hu : P.underlying ty = some d) (hd : (match d with | .struct _ | .array _ _ => true | _ => false) = true) (hi : (P.info? ty).map (·.size) = some cs.size) :
    (results fn tmps).run P w = .ok (.tuple #[.agg cs, tmps.getD t undef, tmps.getD u undef, tmps.getD v undef]) w := by
  have hp' : tmps[p]?.getD undef = .pointer (some ⟨g, 0, none⟩) := by simpa using hp
  simp [results, h, hp', asAddr, run_loadVar_row w g et ty cs fr d hg hu hd hi]
theorem rUnpack_says (data : ByteArray) (f m : Nat) (w : World) (hd : data.size ≤ 140737488351232) (hf : f ≤ data.size) (hm1 : m ≤ 9223372036854775807) (hc : m ≤ 70368744177664 ∨ 400000 * data.size ≤ 70368744177664) :
    Calls Tryd.prog 22 #[.string data, .int .i64 (f : Nat), .int .i64 (m : Nat)] w fun e w' => ∃ S N C A, e = .returned (.tuple #[.string S, .int .i64 (N : Nat), .int .i64 (C : Nat), .int .i64 (A : Nat)]) ∧ Says (data.extract f data.size) f m S N C A ∧ Touch (fun _ => False) w w' := by
  refine (rUnpack_in data f m w hd hf hm1 hc).mono ?_
  rintro e w' ⟨⟨er, t', out', hun, ht', hres⟩, tc⟩
  have hsz : (data.extract f data.size).size = data.size - f := by rw [ByteArray.size_extract]; omega
  rcases hres with ⟨h0, rfl⟩ | ⟨h0, rfl⟩
  · exact ⟨_, _, 0, 0, rfl, ⟨er, t', out', hun, by omega, .inl ⟨h0, rfl, rfl, rfl, rfl⟩⟩, tc⟩
  · exact ⟨_, 0, er, _, rfl, ⟨er, t', out', hun, by omega, .inr ⟨h0, rfl, rfl, rfl, rfl⟩⟩, tc⟩
/-- What the document's part answers. -/
def QPost (w : World) : Except Gz.Bad (Gz.Part × Nat) → Ending → World → Prop
  | .error y, e, w' => (∃ P, e = .returned (.tuple #[.agg (partC P), .int .i64 0, .int .i64 (y.1 : Nat), .int .i64 (y.2 : Nat)])) ∧ y.1 ≠ 0 ∧ Touch (fun _ => False) w w'
  | .ok x, e, w' => e = .returned (.tuple #[.agg (partC x.1), .int .i64 (x.2 : Nat), .int .i64 0, .int .i64 0]) ∧ Touch (fun _ => False) w w'
theorem two_parts (w : World) (cs ds : Array Value) : ((w.alloc (.cells cs 45)).alloc (.cells ds 45)).heap[w.heap.size]? = some (.cells cs 45 (0, 0)) ∧ ((w.alloc (.cells cs 45)).alloc (.cells ds 45)).heap[w.heap.size + 1]? = some (.cells ds 45 (0, 0)) ∧ Touch (fun _ => False) w ((w.alloc (.cells cs 45)).alloc (.cells ds 45)) := by
  have hsz : (w.alloc (.cells cs 45)).heap.size = w.heap.size + 1 := by simp
  refine ⟨?_, by rw [← hsz]; exact cells_new _ _ _, ((Touch.refl _ w).alloc _).alloc _⟩
  exact (((Touch.refl (fun _ => False) (w.alloc (.cells cs 45))).alloc (.cells ds 45)).block _ (by rw [hsz]; omega) id).trans (cells_new _ _ _)
end Go.Proofs.YtohcngiiijokkaaDoor
