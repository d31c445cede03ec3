/- Texts of this proof, one behind the other: what each says stands ahead of it. -/
import Derived.Test.YtohcngiiijokkaaDoorM34
import Derived.Deep.DeepCutAuto
import Derived.Deep.RegionHeld3
import Derived.Deep.QuietTactic
import Derived.BigQuiet
import Derived.Deep.CutRange
/- The document's stored blocks; conditions: what is unpacked fits into memory. -/
namespace Go.Proofs.YtohcngiiijokkaaDoor
open Go.RowKit Go.Lib

theorem sum_wrap (n a b : Nat) (hn : n < 65536) (ha : a < 256) (hb : b < 256) : wrap64 (wrap64 ((n : Int) + wrap64 (a : Int)) + wrap64 (256 * wrap64 (b : Int))) = ((n + a + 256 * b : Nat) : Int) := by
  rw [Go.IntWalk.wrap64_in (a : Int) (by omega), Go.IntWalk.wrap64_in (b : Int) (by omega), Go.IntWalk.wrap64_in ((n : Int) + a) (by omega), Go.IntWalk.wrap64_in (256 * (b : Int)) (by omega), Go.IntWalk.wrap64_in _ (by omega)]
  omega

theorem two_wrap (a b : Nat) (ha : a < 256) (hb : b < 256) : wrap64 (wrap64 (a : Int) + wrap64 (256 * wrap64 (b : Int))) = ((a + 256 * b : Nat) : Int) := by
  rw [Go.IntWalk.wrap64_in (a : Int) (by omega), Go.IntWalk.wrap64_in (b : Int) (by omega), Go.IntWalk.wrap64_in (256 * (b : Int)) (by omega), Go.IntWalk.wrap64_in _ (by omega)]
  omega

set_option maxRecDepth 100000 in
theorem and_zero (a b : Nat) (h : a + b = 255) : bits .and .u8 (a : Int) (b : Int) = 0 := by
  have key : ∀ x : Fin 256, bits .and .u8 (x.val : Int) ((255 - x.val : Nat) : Int) = 0 := by decide
  have := key ⟨a, by omega⟩
  rw [show b = 255 - a by omega]
  exact this

theorem comp_sum (b0 b1 b2 b3 n : Nat) (h0 : b0 < 256) (h1 : b1 < 256) (h2 : b2 < 256) (hn : b0 + 256 * b1 = n) (hs : ¬ b2 + 256 * b3 ≠ 65535 - n) : b0 + b2 = 255 ∧ b1 + b3 = 255 := by omega

/-- The bytes of a string appended, as a step of a statement whose order is open. -/
theorem step_append_string {P : Program} (w : World) {ops : Array Oper} {o : Oper} {a : Act} {K : Act → World → Prop} {Q : Exit → Act → World → Prop} {E : Prop} (hgd : o.guard = none) (sl x : Operand) (t u : TypeId)
    (ho : o.op = .call { callee := .builtin .append, args := #[sl, x], argTypes := #[t, u] })
    (e : TypeId) (i : TypeInfo) (ht : P.underlying t = some (.slice e)) (hu : P.underlying u = some .string) (hi : P.info? e = some i) (hz : i.zero = some (.int .u8 0)) (hsize : i.size = 1) (hby : i.bytes = 1)
    (v : Value) (n : Nat) (xs : List Value) (hs : a.eval sl = v) (hown : w.ownsRow 0 e 1 v n xs) (s : ByteArray) (hx : a.eval x = .string s) (h63 : n + s.size ≤ maxLen) (hbytes : n + s.size ≤ 140737488355328)
    (h : ∀ v' w', w'.ownsRow 0 e 1 v' (n + s.size) (xs ++ strCells s) → w.grownBy w' v.ownBlock → (v'.ownBlock = v.ownBlock ∨ ∃ g, v'.ownBlock = some g ∧ w.heap.size ≤ g) → K (a.put o.dst v') w') :
    if Region.wanted o (yielded ops a.tmps) = true then Oper.wp P o a w K Q else E := by
  have hw : Region.wanted o (yielded ops a.tmps) = true := by simp [Region.wanted, hgd]
  rw [if_pos hw]
  obtain ⟨v', w', hr, h2, h3, h4⟩ := run_append_string_at (P := P) w t u o.type e i ht hu hi hz hsize hby v n xs hown s h63 hbytes
  unfold Oper.wp execOp
  simp only [ho, resolve, invoke, builtin, Sem.run_bind, Sem.run_pure, Result.andThen_ok, List.map_toArray, List.map_cons, List.map_nil, hs, hx, hr]
  exact h v' w' h2 h3 h4

theorem own_sliced {w : World} {e : TypeId} {v : Value} {n : Nat} {xs : List Value} (h : w.ownsRow 0 e 1 v n xs) : ∃ a L c, v = .slice a L c := by
  rcases h.2 with ⟨rfl, _⟩ | ⟨g, cap, cur, rfl, _⟩
  · exact ⟨_, _, _, rfl⟩
  · exact ⟨_, _, _, rfl⟩

theorem sv_new_out {w w1 : World} {sb : Nat} {v v' : Value} {out out' : List Nat} {S : ByteArray} {t most er : Nat} (h : Sv w sb v out S t most er) (hg : w.grownBy w1 v.ownBlock) (hown : w1.ownsRow 0 5 1 v' out'.length (bytesV out'))
    (hwhere : v'.ownBlock = v.ownBlock ∨ ∃ g, v'.ownBlock = some g ∧ w.heap.size ≤ g) :
    Sv (w1.setCell ⟨sb, 2, none⟩ v') sb v' out' S t most er ∧ Touch (fun k => k = sb ∨ v.ownBlock = some k) w (w1.setCell ⟨sb, 2, none⟩ v') := by
  have h3 := sv_own h
  have hub := lt_of_block h.1
  have hb1 : w1.heap[sb]? = some (.cells #[.string S, .int .i64 (t : Nat), v, .int .i64 (most : Nat), .int .i64 (er : Nat)] 69 (0, 0)) := by rw [hg.block sb hub (fun e => h3 e.symm)]; exact h.1
  have hvu : v'.ownBlock ≠ some sb := by
    rcases hwhere with e | ⟨g, e, hge⟩
    · rw [e]; exact h3
    · rw [e]; intro e2; simp at e2; omega
  exact ⟨⟨block_set hb1 2 v', ownsRow_setCell_other hown hvu _⟩, ((Touch.refl _ w).grown hg (fun k e _ => .inr e)).setCell (fun _ => .inl rfl) _⟩

theorem sv_shape {w : World} {sb : Nat} {v : Value} {out : List Nat} {S : ByteArray} {t most er : Nat} (h : Sv w sb v out S t most er) : ∃ a c, v = .slice a out.length c := by
  rcases h.2.2 with ⟨rfl, h0⟩ | ⟨g, cap, cur, rfl, _⟩
  · exact ⟨none, 0, by rw [h0]⟩
  · exact ⟨_, cap, rfl⟩

set_option maxRecDepth 100000 in
set_option maxHeartbeats 4000000 in
theorem rstored_any (sb : Nat) (v : Value) (out : List Nat) (S : ByteArray) (t most : Nat) (w : World) (h : Sv w sb v out S t most 0) (hs : S.size ≤ 140737488351232) (ht : t ≤ 8 * S.size) (hm1 : most ≤ 9223372036854775807) (hl : out.length ≤ 70368744177664) :
    Calls Tryd.prog 31 #[.pointer (some ⟨sb, 0, none⟩)] w fun e w' => e = .returned (.tuple #[]) ∧ SvDone w w' sb v (Inf.st S most t out).2.2 S (Inf.st S most t out).2.1 most (Inf.st S most t out).1 := by
  obtain ⟨p, hp⟩ : ∃ p, (t + 7) / 8 = p := ⟨_, rfl⟩
  obtain ⟨n, hn⟩ : ∃ n, Bt.byteN S p + 256 * Bt.byteN S (p + 1) = n := ⟨_, rfl⟩
  obtain ⟨⟨e0, t2, out2⟩, hR⟩ : ∃ R, Inf.st S most t out = R := ⟨_, rfl⟩
  rw [hR]
  unfold Inf.st at hR
  simp only [hp, hn] at hR
  have HR := hid hR
  clear hR
  dsimp only
  have HS := hid h
  clear h
  by_cases c1 : S.size < p + 2
  · have q := HR.out
    rw [if_pos c1] at q
    cases q
    have K := hid (rbytes2_end sb v out S t most 0 2 w HS.out hs ht (by omega))
    clear hn hp
    go_enter Tryd.func31, Tryd.ntmps31
    go_wp2_with fail
    refine K.out.mono ?_
    rintro e w1 ⟨rfl, st⟩
    have ST := hid st.done
    clear st K
    go_wp2
    exact bodyPost_ret (results_none (fn := Tryd.f31) rfl _ Tryd.prog _) rfl ⟨rfl, ST.out⟩
  have K1 := hid (rbytes2_yes sb v out S t most 0 2 p w HS.out hs ht hp (by omega) (by omega))
  by_cases c2 : S.size < p + 4
  · have q := HR.out
    rw [if_neg c1, if_pos c2] at q
    cases q
    clear hn hp
    go_enter Tryd.func31, Tryd.ntmps31
    go_wp2_with fail
    refine K1.out.mono ?_
    rintro e w1 ⟨rfl, st1⟩
    have ST1 := hid st1
    clear st1 K1
    have K2 := hid (rbytes2_end sb v out S (8 * (p + 2)) most 0 2 w1 ST1.out.1 hs (by omega) (by omega))
    go_wp2_with fail
    refine K2.out.mono ?_
    rintro e w2 ⟨rfl, st⟩
    have ST := hid (ST1.out.trans st).done
    clear st K2
    go_wp2
    exact bodyPost_ret (results_none (fn := Tryd.f31) rfl _ Tryd.prog _) rfl ⟨rfl, ST.out⟩
  have hb0 := Bt.byteN_lt S p
  have hb1 := Bt.byteN_lt S (p + 1)
  have hb2 := Bt.byteN_lt S (p + 2)
  have hb3 := Bt.byteN_lt S (p + 3)
  go_enter Tryd.func31, Tryd.ntmps31
  go_wp2_with fail
  refine K1.out.mono ?_
  rintro e w1 ⟨rfl, st1⟩
  have ST1 := hid st1
  clear st1 K1
  have K2 := hid (rbytes2_yes sb v out S (8 * (p + 2)) most 0 2 (p + 2) w1 ST1.out.1 hs (by omega) (by omega) (by omega) (by omega))
  go_wp2_with fail
  refine K2.out.mono ?_
  rintro e w2 ⟨rfl, st2⟩
  have ST2 := hid (ST1.out.trans st2)
  clear st2 K2
  have c0 := (sv_cells ST2.out.1).1
  have i0 : (p : Int) < (S.size : Int) := by omega
  have i1 : (p : Int) + 1 < (S.size : Int) := by omega
  have j0 : p < S.size := by omega
  have j1 : p + 1 < S.size := by omega
  have z0 : (0 : Int) ≤ (p : Int) := by omega
  have z1 : (0 : Int) ≤ (p : Int) + 1 := by omega
  have HN := hid hn
  have HP := hid hp
  have hn16 : n < 65536 := by omega
  clear hn hp
  go_upto_region 4 with fail
  go_cut [4] (fun x wc => x = .int .i64 (n : Nat) ∧ Touch (fun _ => False) w2 wc)
  case first =>
    go_quiet (fail)
    go_wp2
    go_meet
    case rel => exact ⟨congrArg (Value.int .i64) (by rw [byte_get S p j0, byte_get S (p + 1) j1, two_wrap _ _ hb0 hb1, HN.out]), (Touch.refl _ w2).drewN _⟩
  obtain ⟨rfl, tc4⟩ := hcut
  have ST4 := hid (show SvStep w wc sb v out S (8 * (p + 2 + 2)) most 0 from ⟨ST2.out.1.still tc4, ST2.out.2.trans tc4 (fun _ _ e => e.elim)⟩)
  clear tc4 c0
  have c0 := (sv_cells ST4.out.1).1
  have i2 : (p : Int) + 2 < (S.size : Int) := by omega
  have i3 : (p : Int) + 2 + 1 < (S.size : Int) := by omega
  have j2 : p + 2 < S.size := by omega
  have j3 : p + 2 + 1 < S.size := by omega
  have z2 : (0 : Int) ≤ (p : Int) + 2 := by omega
  have z3 : (0 : Int) ≤ (p : Int) + 2 + 1 := by omega
  have i4 : (p : Int) + 3 < (S.size : Int) := by omega
  have j4 : p + 3 < S.size := by omega
  have z4 : (0 : Int) ≤ (p : Int) + 3 := by omega
  go_upto_region 5 with fail
  go_cut [84] (fun x wd => x = .bool (decide (Bt.byteN S (p + 2) + 256 * Bt.byteN S (p + 3) ≠ 65535 - n)) ∧ Touch (fun _ => False) wc wd)
  case first =>
    by_cases hsum : Bt.byteN S (p + 2) + 256 * Bt.byteN S (p + 3) ≠ 65535 - n
    · have hg : (wrap64 (wrap64 ((n : Int) + wrap64 (S[p + 2].toNat : Int)) + wrap64 (256 * wrap64 (S[p + 2 + 1].toNat : Int))) != 65535) = true := by
        rw [byte_get S (p + 2) j2, byte_get S (p + 2 + 1) j3, sum_wrap n _ _ hn16 hb2 hb3]
        rw [bne_iff_ne]
        intro e
        exact hsum (by change Bt.byteN S (p + 2) + 256 * Bt.byteN S (p + 2 + 1) = _; omega)
      have HSUM := hid hsum
      have HB := hid (And.intro hb0 (And.intro hb1 (And.intro hb2 hb3)))
      clear hsum hb0 hb1 hb2 hb3 hm1 hl i0 i1 j0 j1 z0 z1 c1 c2
      go_quiet (fail)
      go_wp2
      go_meet
      case rel => exact ⟨congrArg Value.bool (decide_eq_true HSUM.out).symm, (Touch.refl _ wc).drewN _⟩
    · have hg : (wrap64 (wrap64 ((n : Int) + wrap64 (S[p + 2].toNat : Int)) + wrap64 (256 * wrap64 (S[p + 2 + 1].toNat : Int))) != 65535) = false := by
        rw [byte_get S (p + 2) j2, byte_get S (p + 2 + 1) j3, sum_wrap n _ _ hn16 hb2 hb3]
        have h3 : Bt.byteN S (p + 3) = Bt.byteN S (p + 2 + 1) := rfl
        rw [bne_eq_false_iff_eq]
        omega
      have hcs := comp_sum _ _ _ _ n hb0 hb1 hb2 HN.out hsum
      have g2 : (bits BinOp.and IntKind.u8 (S[p].toNat : Int) (S[p + 2].toNat : Int) != 0) = false := by
        rw [byte_get S p j0, byte_get S (p + 2) j2, and_zero _ _ hcs.1]
        rfl
      have g3 : (bits BinOp.and IntKind.u8 (S[p + 1].toNat : Int) (S[p + 2 + 1].toNat : Int) != 0) = false := by
        rw [byte_get S (p + 1) j1, byte_get S (p + 2 + 1) j3, and_zero _ _ hcs.2]
        rfl
      have HSUM := hid hsum
      have HB := hid (And.intro hb0 (And.intro hb1 (And.intro hb2 hb3)))
      clear hsum hb0 hb1 hb2 hb3 hm1 hl c1 c2 hcs
      go_quiet (fail)
      go_wp2
      go_meet
      case rel => exact ⟨congrArg Value.bool (decide_eq_false HSUM.out).symm, (Touch.refl _ wc).drewN _⟩
  obtain ⟨rfl, tc5⟩ := hcut
  have ST5 := hid (show SvStep w wc sb v out S (8 * (p + 4)) most 0 from ⟨ST4.out.1.still tc5, ST4.out.2.trans tc5 (fun _ _ e => e.elim)⟩)
  clear tc5 c0 hb0 hb1 hb2 hb3 i0 i1 i2 i3 i4 j0 j1 j2 j3 j4 z0 z1 z2 z3 z4
  obtain ⟨_, _, c02, c03, c04⟩ := sv_cells ST5.out.1
  by_cases hsum : Bt.byteN S (p + 2) + 256 * Bt.byteN S (p + 3) ≠ 65535 - n
  · have q := HR.out
    rw [if_neg c1, if_neg c2, if_pos hsum] at q
    cases q
    rw [decide_eq_true hsum]
    have f4 := sv_free ST5.out.1 4
    clear hsum c02 c03
    go_wp2
    exact bodyPost_ret (results_none (fn := Tryd.f31) rfl _ Tryd.prog _) rfl ⟨rfl, SvStep.done ⟨ST5.out.1.err 11, ST5.out.2.setCell (p := ⟨sb, 4, none⟩) (fun _ => rfl) _⟩⟩
  rw [decide_eq_false hsum]
  have HSUM := hid hsum
  clear hsum
  obtain ⟨av, cv, hav⟩ := sv_shape ST5.out.1
  rw [hav] at c02
  by_cases c4 : most < out.length + n
  · have q := HR.out
    rw [if_neg c1, if_neg c2, if_neg HSUM.out, if_pos c4] at q
    cases q
    have f4 := sv_free ST5.out.1 4
    have hgt : (most : Int) - (out.length : Int) < (n : Int) := by omega
    have HAV := hid hav
    clear hav
    go_wp2_with fail
    go_quiet (fail)
    go_wp2
    exact bodyPost_ret (results_none (fn := Tryd.f31) rfl _ Tryd.prog _) rfl ⟨rfl, SvStep.done ⟨(ST5.out.1.still ((Touch.refl _ wc).drewN _)).err 2, (ST5.out.2.drewN _).setCell (p := ⟨sb, 4, none⟩) (fun _ => rfl) _⟩⟩
  have hle : (n : Int) ≤ (most : Int) - (out.length : Int) := by omega
  have HAV := hid hav
  clear hav
  by_cases c5 : S.size < p + 4 + n
  · have q := HR.out
    rw [if_neg c1, if_neg c2, if_neg HSUM.out, if_neg c4, if_pos c5] at q
    cases q
    go_wp2_with fail
    go_quiet (fail)
    have ST6 := hid (show SvStep w (wc.drewN nq) sb v out S (8 * (p + 4)) most 0 from ⟨ST5.out.1.still ((Touch.refl _ wc).drewN _), ST5.out.2.drewN _⟩)
    have K6 := hid (rbytes2_end sb v out S (8 * (p + 4)) most 0 n _ ST6.out.1 hs (by omega) (by omega))
    go_wp2_with fail
    refine K6.out.mono ?_
    rintro e w6 ⟨rfl, st6⟩
    have ST7 := hid (ST6.out.trans st6).done
    clear st6 K6
    go_wp2
    go_end0
    exact ⟨rfl, ST7.out⟩
  have q := HR.out
  rw [if_neg c1, if_neg c2, if_neg HSUM.out, if_neg c4, if_neg c5] at q
  cases q
  go_wp2_with fail
  go_quiet (fail)
  have ST6 := hid (show SvStep w (wc.drewN nq) sb v out S (8 * (p + 4)) most 0 from ⟨ST5.out.1.still ((Touch.refl _ wc).drewN _), ST5.out.2.drewN _⟩)
  have K6 := hid (rbytes2_yes sb v out S (8 * (p + 4)) most 0 n (p + 4) _ ST6.out.1 hs (by omega) (by omega) (by omega) (by omega))
  obtain ⟨c, hc⟩ : ∃ c, c = p + 4 := ⟨_, rfl⟩
  rw [← hc] at K6
  have HC := hid hc
  have Y4 := hid (show c + n ≤ S.size by omega)
  clear hc
  go_wp2_with fail
  refine K6.out.mono ?_
  rintro e w6 ⟨rfl, st6⟩
  have ST7 := hid (ST6.out.trans st6)
  clear st6 K6
  clear c1 c2 c4 c5 c02 c03 c04
  have hav := HAV.out
  clear HAV
  subst hav
  obtain ⟨k0, _, k2, _, _⟩ := sv_cells ST7.out.1
  have kf := sv_free ST7.out.1 2
  have hsb := lt_of_block ST7.out.1.1
  have hso := sv_own ST7.out.1
  obtain ⟨io, hin, hz0, hz1, hz2⟩ := info_parts Tryd.info5
  go_upto_region 11 with fail
  obtain ⟨M, hM⟩ : ∃ M, M = c + n := ⟨_, rfl⟩
  have hle2 : M ≤ S.size := by rw [hM]; exact Y4.out
  have hwr : IntKind.i64.wrap ((c : Int) + (n : Int)) = (M : Int) := by rw [IntKind.wrap_i64]; omega
  have q1 : (0 : Int) ≤ (M : Int) := by omega
  have q2 : (M : Int) ≤ (S.size : Int) := by omega
  have q3 : (c : Int) ≤ (M : Int) := by omega
  have hxs : (S.extract c M).size = n := by rw [ByteArray.size_extract]; omega
  have HXN := hid (show Bt.strNats (S.extract c M) = (List.range n).map fun i => Bt.byteN S (p + 4 + i) by rw [hM, HC.out]; exact nats_extract S (p + 4) n (by rw [← HC.out]; exact Y4.out))
  clear hM
  go_region_law ((refine step_append_string _ (by rfl) _ _ _ _ (by rfl) 5 io Tryd.underlying67 Tryd.underlying9 hin hz0 hz1 hz2 _ _ _ (by rfl) ST7.out.1.2 (S.extract c M) (by rfl) (by rw [hxs]; unfold maxLen; omega) (by rw [hxs]; omega) ?_; intro v' w7 hown hgrow hwh; obtain ⟨a5, L5, c5, rfl⟩ := own_sliced hown; have hb7 := (hgrow.block sb hsb (fun e => hso e.symm)).trans ST7.out.1.1; have q2 : w7.cell? ⟨sb, 2, none⟩ = some (.slice av out.length cv) := (by simp [World.cell?, hb7]); have qf : w7.frozen? ⟨sb, 2, none⟩ = false := (by simp [World.frozen?, hb7])))
  all_goals
    rw [strCells_eq, HXN.out, hxs] at hown
    have hown' : w7.ownsRow 0 5 1 (.slice a5 L5 c5) (out ++ (List.range n).map fun i => Bt.byteN S (p + 4 + i)).length (bytesV (out ++ (List.range n).map fun i => Bt.byteN S (p + 4 + i))) := by
      rw [List.length_append, List.length_map, List.length_range]
      unfold bytesV at hown ⊢
      rw [List.map_append]
      exact hown
    have FIN := hid (sv_new_out (ST7.out.1.still ((Touch.refl _ w6).drew)) hgrow hown' hwh)
    have HWH := hid hwh
    clear hown hown' hgrow hwh hb7
    go_wp2
    go_end0
    refine ⟨rfl, .slice a5 L5 c5, ?_, (ST7.out.2.mono (S' := fun k => k = sb ∨ (Value.slice av out.length cv).ownBlock = some k) (fun _ _ e => .inl e)).drew.trans FIN.out.2 (fun _ _ e => e), ?_⟩
    · rw [show p + 4 = c from HC.out.symm] at FIN ⊢
      exact FIN.out.1
    · rcases HWH.out with e | ⟨g, e, hge⟩
      · exact .inl e
      · exact .inr ⟨g, e, Nat.le_trans ST7.out.2.size hge⟩
end Go.Proofs.YtohcngiiijokkaaDoor

/- The document's lengths of kind 1; no condition. -/
namespace Go.Proofs.YtohcngiiijokkaaDoor
open Go.RowKit Go.Lib

def fivesUp (n : Nat) : List Nat := (List.range n).map Inf.fixD
theorem fivesUp_succ (n : Nat) : fivesUp (n + 1) = fivesUp n ++ [Inf.fixD n] := by simp [fivesUp, List.range_succ]
theorem fixD_at (n : Nat) (h : n < 32) : Inf.fixD n = 5 := by unfold Inf.fixD; rw [if_pos h]

/-- So many fives stand in a list of the call's own. -/
structure Ff (W0 wr : World) (v : Value) (n : Nat) : Prop where
  own : wr.ownsRow 0 3 1 v n (natsV (fivesUp n))
  new : ∀ g, v.ownBlock = some g → W0.heap.size ≤ g
  touch : Touch (fun _ => False) W0 wr

theorem Ff.more {W0 wr w1 : World} {v v' : Value} {n x : Nat} {o : Obj} (h : Ff W0 wr v n) (hx : Inf.fixD n = x) (hown : w1.ownsRow 0 3 1 v' (n + 1) (natsV (fivesUp n) ++ [.int .i64 (x : Nat)])) (hg : (wr.alloc o).grownBy w1 v.ownBlock) (hat : v'.ownBlock = v.ownBlock ∨ v'.ownBlock = some (wr.heap.size + 1)) : Ff W0 w1 v' (n + 1) := by
  refine ⟨?_, fun g hg' => ?_, (h.touch.alloc o).grown hg (fun k e hk => by have := h.new k e; omega)⟩
  · rw [fivesUp_succ, hx]
    unfold natsV at hown ⊢
    rw [List.map_append]
    exact hown
  · rcases hat with e | e
    · exact h.new g (by rw [← e]; exact hg')
    · rw [e] at hg'
      simp at hg'
      have := h.touch.size
      omega

theorem new_addr {w : World} {n len cap B : Nat} {a : Option Addr} {xs : List Value} (h : w.ownsRow 0 3 1 (.slice a len cap) n xs) (hn : ∀ g, (Value.slice a len cap).ownBlock = some g → B ≤ g) : ∀ b o, a = some ⟨b, o, none⟩ → B ≤ b := by
  intro b o e
  refine hn b ?_
  rcases h.2 with ⟨hv, _⟩ | ⟨g, cap', cur, hv, _⟩
  · simp only [Value.slice.injEq] at hv
    rw [e] at hv
    simp at hv
  · simp only [Value.slice.injEq] at hv
    rw [e] at hv
    simp only [Option.some.injEq, Addr.mk.injEq] at hv
    rw [e, hv.1.1]
    simp [Value.ownBlock]

set_option maxRecDepth 100000 in
set_option maxHeartbeats 4000000 in
theorem rfixed_any (w : World) : Calls Tryd.prog 32 #[] w fun e w' => ∃ a cap a' cap', e = .returned (.tuple #[.slice a 288 cap, .slice a' 32 cap']) ∧ Ints w' a 288 (fun i => (Inf.fixL i : Nat)) ∧ Ints w' a' 32 (fun i => (Inf.fixD i : Nat)) ∧ Touch (fun _ => False) w w' ∧ (∀ b o, a = some ⟨b, o, none⟩ → w.heap.size ≤ b) ∧ (∀ b o, a' = some ⟨b, o, none⟩ → w.heap.size ≤ b) := by
  obtain ⟨i0, hin, hz0, hz1, hz2⟩ := info_parts info3
  go_enter Tryd.func32, Tryd.ntmps32
  go_wp2_with fail
  go_loopg [2, 4, 5] 288 (fun gk v i x wr => ∃ k : Nat, k + gk = 288 ∧ i = .int .i64 (k : Nat) ∧ Lf w wr v k)
  case atStart => exact ⟨0, rfl, rfl, ⟨by simpa [litsTo, natsV] using World.ownsRow_nil _ _ _ _, by intro g h; simp [Value.ownBlock] at h, Touch.refl _ _⟩⟩
  case round =>
    obtain ⟨k, hk, rfl, hlf⟩ := hrel
    have L1 := hid hlf
    obtain ⟨av, cv, hav⟩ := own_shape hlf.own
    subst hav
    clear hlf
    by_cases hlt : k < 288
    · by_cases d1 : k < 144
      · have t1 : decide ((144 : Int) ≤ (k : Int)) = false := decide_eq_false (by omega)
        have t2 : decide ((256 : Int) ≤ (k : Int)) = false := decide_eq_false (by omega)
        go_wp2_with (at_builtin; refine wpList_append_own_at _ rfl _ _ 72 rfl 0 3 i0 (.int .i64 0) 1 8 Tryd.underlying72 hin hz0 hz1 hz2 rfl (by decide) _ k _ rfl (L1.out.own.alloc _) ⟨wr.heap.size, 0, none⟩ 1 1 [.int .i64 8] rfl rfl (cell_one_new wr _ _) (by intro u hu; simp at hu; subst hu; rfl) (by unfold maxLen; omega) (by omega) (Nat.zero_le _) ?_)
        intro v' w1 hown hgrow _ hat
        have L2 := hid (L1.out.more (fix_at0 k d1) hown hgrow hat)
        clear hown hgrow hat
        go_wp2
        go_roundg (gk - 1)
        case measure => omega
        case rel => exact ⟨k + 1, by omega, by go_num, L2.out⟩
      · by_cases d2 : k < 256
        · have t1 : (144 : Int) ≤ (k : Int) := by omega
          have t2 : decide ((256 : Int) ≤ (k : Int)) = false := decide_eq_false (by omega)
          have t3 : (k : Int) < 256 := by omega
          go_wp2_with (at_builtin; refine wpList_append_own_at _ rfl _ _ 72 rfl 0 3 i0 (.int .i64 0) 1 8 Tryd.underlying72 hin hz0 hz1 hz2 rfl (by decide) _ k _ rfl (L1.out.own.alloc _) ⟨wr.heap.size, 0, none⟩ 1 1 [.int .i64 9] rfl rfl (cell_one_new wr _ _) (by intro u hu; simp at hu; subst hu; rfl) (by unfold maxLen; omega) (by omega) (Nat.zero_le _) ?_)
          intro v' w1 hown hgrow _ hat
          have L2 := hid (L1.out.more (fix_at1 k (by omega) d2) hown hgrow hat)
          clear hown hgrow hat
          go_wp2
          go_roundg (gk - 1)
          case measure => omega
          case rel => exact ⟨k + 1, by omega, by go_num, L2.out⟩
        · by_cases d3 : k < 280
          · have t1 : (144 : Int) ≤ (k : Int) := by omega
            have t2 : (256 : Int) ≤ (k : Int) := by omega
            have t3 : ¬ (k : Int) < 256 := by omega
            have t4 : (k : Int) < 280 := by omega
            go_wp2_with (at_builtin; refine wpList_append_own_at _ rfl _ _ 72 rfl 0 3 i0 (.int .i64 0) 1 8 Tryd.underlying72 hin hz0 hz1 hz2 rfl (by decide) _ k _ rfl (L1.out.own.alloc _) ⟨wr.heap.size, 0, none⟩ 1 1 [.int .i64 7] rfl rfl (cell_one_new wr _ _) (by intro u hu; simp at hu; subst hu; rfl) (by unfold maxLen; omega) (by omega) (Nat.zero_le _) ?_)
            intro v' w1 hown hgrow _ hat
            have L2 := hid (L1.out.more (fix_at2 k (by omega) d3) hown hgrow hat)
            clear hown hgrow hat
            go_wp2
            go_roundg (gk - 1)
            case measure => omega
            case rel => exact ⟨k + 1, by omega, by go_num, L2.out⟩
          · have t1 : (144 : Int) ≤ (k : Int) := by omega
            have t2 : (256 : Int) ≤ (k : Int) := by omega
            have t3 : ¬ (k : Int) < 256 := by omega
            have t4 : ¬ (k : Int) < 280 := by omega
            go_wp2_with (at_builtin; refine wpList_append_own_at _ rfl _ _ 72 rfl 0 3 i0 (.int .i64 0) 1 8 Tryd.underlying72 hin hz0 hz1 hz2 rfl (by decide) _ k _ rfl (L1.out.own.alloc _) ⟨wr.heap.size, 0, none⟩ 1 1 [.int .i64 8] rfl rfl (cell_one_new wr _ _) (by intro u hu; simp at hu; subst hu; rfl) (by unfold maxLen; omega) (by omega) (Nat.zero_le _) ?_)
            intro v' w1 hown hgrow _ hat
            have L2 := hid (L1.out.more (fix_at3 k (by omega) hlt) hown hgrow hat)
            clear hown hgrow hat
            go_wp2
            go_roundg (gk - 1)
            case measure => omega
            case rel => exact ⟨k + 1, by omega, by go_num, L2.out⟩
    · obtain rfl : k = 288 := by omega
      obtain ⟨a, c, hv, hi⟩ := own_ints' (f := fun i => ((Inf.fixL i : Nat) : Int)) (n := 288) (by have := L1.out.own; rw [litsTo, natsV, List.map_map] at this; exact this)
      have HI := hid hi
      have HT := hid L1.out.touch
      cases hv
      have NW := hid (new_addr L1.out.own L1.out.new)
      clear hi L1
      generalize wr = wz at *
      go_wp2_with fail
      go_loopg [3, 6] 32 (fun gk v i wr => ∃ k : Nat, k + gk = 32 ∧ i = .int .i64 (k : Nat) ∧ Ff wz wr v k)
      case atStart => exact ⟨0, rfl, rfl, ⟨by simpa [fivesUp, natsV] using World.ownsRow_nil _ _ _ _, by intro g h; simp [Value.ownBlock] at h, Touch.refl _ _⟩⟩
      case round =>
        obtain ⟨k, hk, rfl, hlf⟩ := hrel
        have L1 := hid hlf
        obtain ⟨av', cv', hav⟩ := own_shape hlf.own
        subst hav
        clear hlf
        by_cases hlt2 : k < 32
        · go_wp2_with (at_builtin; refine wpList_append_own_at _ rfl _ _ 72 rfl 0 3 i0 (.int .i64 0) 1 8 Tryd.underlying72 hin hz0 hz1 hz2 rfl (by decide) _ k _ rfl (L1.out.own.alloc _) ⟨wr.heap.size, 0, none⟩ 1 1 [.int .i64 5] rfl rfl (cell_one_new wr _ _) (by intro u hu; simp at hu; subst hu; rfl) (by unfold maxLen; omega) (by omega) (Nat.zero_le _) ?_)
          intro v' w1 hown hgrow _ hat
          have L2 := hid (L1.out.more (fixD_at k hlt2) hown hgrow hat)
          clear hown hgrow hat
          go_wp2
          go_roundg (gk - 1)
          case measure => omega
          case rel => exact ⟨k + 1, by omega, by go_num, L2.out⟩
        · obtain rfl : k = 32 := by omega
          obtain ⟨a2, c2, hv2, hi2⟩ := own_ints' (f := fun i => ((Inf.fixD i : Nat) : Int)) (n := 32) (by have := L1.out.own; rw [fivesUp, natsV, List.map_map] at this; exact this)
          have HI2 := hid hi2
          have HT2 := hid L1.out.touch
          cases hv2
          have NW2 := hid (new_addr L1.out.own L1.out.new)
          clear hi2 L1
          go_wp2
          go_ret2
          exact ⟨_, _, _, _, rfl, HI.out.new HT2.out, HI2.out, HT.out.trans HT2.out (fun _ _ e => e), NW.out, fun b o e => Nat.le_trans HT.out.size (NW2.out b o e)⟩
end Go.Proofs.YtohcngiiijokkaaDoor
