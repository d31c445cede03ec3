/- Texts of this proof, one behind the other: what each says stands ahead of it. -/
import Derived.Test.YtohcngiiijokkaaDoorM38
/- The document's told: what it comes to; conditions: the bytes fit into memory. -/
namespace Go.Proofs.YtohcngiiijokkaaDoor
open Go.RowKit Go.Lib

/-- The lengths by which lengths are told, as far as they were taken. -/
def Sh (sb : Nat) (v : Value) (out : List Nat) (S : ByteArray) (T most bl k : Nat) (wr : World) : Prop :=
  (T + 3 * k ≤ 8 * S.size ∧ BlkI wr bl (Inf.lens3 S T k) ∧ Sv wr sb v out S (T + 3 * k) most 0) ∨
  (8 * S.size < T + 3 * k ∧ ∃ f, BlkI wr bl f ∧ Sv wr sb v out S (T + 3 * ((8 * S.size - T) / 3)) most 3)

set_option maxRecDepth 100000 in
theorem made19 (w : World) : (Instr.makeSlice 72 (.int .i64 19) (.int .i64 19)).run Tryd.prog w = .ok (.slice (some ⟨w.heap.size, 0, none⟩) 19 19) (w.alloc (.cells zer19 3)) := by
  obtain ⟨i0, hin, hz0, hz1, hz2⟩ := info_parts info3
  have := run_makeSlice (P := Tryd.prog) (w := w) 72 3 i0 (.int .i64 0) Tryd.underlying72 hin hz0 .i64 .i64 19 19 (by decide) (by decide) (by rw [hz1]; decide) (by rw [hz2]; decide) (by decide)
  rw [this]
  congr 2
  rw [hz1]
  congr 1
  apply Array.ext'
  rw [show Int.toNat 19 * 1 = 19 from rfl, show (Value.int IntKind.i64 0).cells = #[Value.int .i64 0] from rfl, toList_madeCells_one]
  rfl

theorem ordA : (#[.int .i64 16, .int .i64 17, .int .i64 18, .int .i64 0, .int .i64 8, .int .i64 7, .int .i64 9, .int .i64 6, .int .i64 10, .int .i64 5, .int .i64 11, .int .i64 4, .int .i64 12, .int .i64 3, .int .i64 13, .int .i64 2, .int .i64 14, .int .i64 1, .int .i64 15] : Array Value) = arr19 ordN := by rfl

theorem sh_start {w : World} {sb : Nat} {v : Value} {out : List Nat} {S : ByteArray} {T most : Nat} (h : Sv w sb v out S T most 0) (hT : T ≤ 8 * S.size) : Sh sb v out S T most (w.heap.size + 1) 0 ((w.alloc (.cells (arr19 ordN) 3)).alloc (.cells zer19 3)) := by
  refine .inl ⟨by omega, ?_, (h.alloc _).alloc _⟩
  refine BlkI.ext (f := fun _ => 0) ?_ (fun i _ => (lens3_zero S T i).symm)
  unfold BlkI
  show ((w.heap.push _).push _)[_]? = _
  rw [Array.getElem?_push]
  simp [zer19]

/-- What the document's told leaves. -/
def RtPost (sb : Nat) (v : Value) (out : List Nat) (S : ByteArray) (t most : Nat) (w : World) (e : Ending) (w' : World) : Prop :=
  (∃ er t', er ≠ 0 ∧ Inf.Dy S t er t' [] ∧ t' ≤ 8 * S.size ∧ SvStep w w' sb v out S t' most er ∧ e = .returned (.tuple #[.slice none 0 0, .int .i64 0])) ∨
  (∃ t' told a cap, Inf.dyHead S t = none ∧ Inf.Le (Inf.dyF S t) 19 S (Inf.dyL S t + Inf.dyD S t) (Inf.dyT S t) [] 0 t' told ∧ t' ≤ 8 * S.size ∧ told.length = Inf.dyL S t + Inf.dyD S t ∧ (∀ x ∈ told, x ≤ 15) ∧
    SvStep w w' sb v out S t' most (if told.getD 256 0 = 0 then 5 else 0) ∧ e = .returned (.tuple #[.slice a told.length cap, .int .i64 (Inf.dyL S t : Nat)]) ∧ Ints w' a told.length (fun j => ((told.getD j 0 : Nat) : Int)) ∧ told.length ≤ cap ∧ (∀ b o, a = some ⟨b, o, none⟩ → w.heap.size ≤ b))

theorem Tl.steps {W0 wr w1 : World} {sb : Nat} {v8 v : Value} {told out : List Nat} {S : ByteArray} {t t' most er er' : Nat} (h : Tl W0 wr sb v8 told) (hv : Sv wr sb v out S t most er) (st : SvStep wr w1 sb v out S t' most er') : Tl W0 w1 sb v8 told := by
  have hne := row_ne h.own hv.1 (by decide)
  exact ⟨own_stays h.own (fun g hg => st.2.block g (h.own.lt g hg).2 (fun e => hne (by rw [hg, e]))), h.new, h.touch.trans st.2 (fun _ _ e => e), h.small⟩

theorem sv_row {W0 wr w1 : World} {sb : Nat} {v8 v : Value} {told out : List Nat} {S : ByteArray} {t most er : Nat} {o : Obj} (h : Tl W0 wr sb v8 told) (hv : Sv wr sb v out S t most er) (hold : ∀ k, v.ownBlock = some k → k < W0.heap.size) (hg : (wr.alloc o).grownBy w1 v8.ownBlock) : Sv w1 sb v out S t most er := by
  have hne := row_ne h.own hv.1 (by decide)
  have hlt := lt_of_block hv.1
  refine ⟨?_, hv.2.1, ?_⟩
  · rw [hg.block sb (by simp; omega) (fun e => hne e.symm), Below.heap_alloc _ _ _ hlt]
    exact hv.1
  · rcases hv.2.2 with h0 | ⟨g, cap, cur, hv', hg', hh, rest⟩
    · exact .inl h0
    · have hgl := lt_of_block hh
      refine .inr ⟨g, cap, cur, hv', hg', ?_, rest⟩
      rw [hg.block g (by simp; omega) (fun e => ?_), Below.heap_alloc _ _ _ hgl]
      · exact hh
      · have h1 := h.new g e.symm
        have h2 := hold g (by rw [hv']; rfl)
        omega

theorem four {P : Prop} (i : Nat) (a : i = 16 → P) (b : i = 17 → P) (c : i = 18 → P) (d : i ≠ 16 ∧ i ≠ 17 ∧ i ≠ 18 → P) : P := by
  by_cases h1 : i = 16
  · exact a h1
  by_cases h2 : i = 17
  · exact b h2
  by_cases h3 : i = 18
  · exact c h3
  exact d ⟨h1, h2, h3⟩

set_option maxRecDepth 100000 in
set_option maxHeartbeats 8000000 in
theorem rtold_rest (sb : Nat) (v : Value) (out : List Nat) (S : ByteArray) (t most : Nat) (w : World) (h : Sv w sb v out S t most 0) (hs : S.size ≤ 140737488351232) (c1 : t + 14 ≤ 8 * S.size) (cl : Bt.rval S t 5 ≤ 29) (cd : Bt.rval S (t + 5) 5 ≤ 29) :
    Calls Tryd.prog 34 #[.pointer (some ⟨sb, 0, none⟩)] w (RtPost sb v out S t most w) := by
  have K1 := hid (rtake_yes sb v out S t most 5 w h hs (by omega) (by decide))
  have hsb := lt_of_block h.1
  have hvl : ∀ k, v.ownBlock = some k → k < w.heap.size := fun k e => (h.2.lt k e).2
  have HVL := hid hvl
  have hb3 := Bt.rval_lt S (t + 10) 4
  obtain ⟨x1, hx1⟩ : ∃ x1, x1 = Bt.rval S t 5 := ⟨_, rfl⟩
  rw [← hx1] at K1 cl
  have HX1 := hid hx1
  clear h hx1 hvl
  go_enter Tryd.func34, Tryd.ntmps34
  go_wp2_with fail
  refine K1.out.mono ?_
  rintro e w1 ⟨rfl, st⟩
  have ST1 := hid st
  clear st K1
  have K2 := hid (rtake_yes sb v out S (t + 5) most 5 w1 ST1.out.1 hs (by omega) (by decide))
  obtain ⟨x2, hx2⟩ : ∃ x2, x2 = Bt.rval S (t + 5) 5 := ⟨_, rfl⟩
  rw [← hx2] at K2 cd
  have HX2 := hid hx2
  clear hx2
  go_wp2_with fail
  refine K2.out.mono ?_
  rintro e w2 ⟨rfl, st⟩
  have ST2 := hid (ST1.out.trans st)
  clear st K2
  have K3 := hid (rtake_yes sb v out S (t + 10) most 4 w2 ST2.out.1 hs (by omega) (by decide))
  obtain ⟨x3, hx3⟩ : ∃ x3, x3 = Bt.rval S (t + 10) 4 := ⟨_, rfl⟩
  rw [← hx3] at K3 hb3
  have HX3 := hid hx3
  clear hx3
  go_wp2_with fail
  refine K3.out.mono ?_
  rintro e w3 ⟨rfl, st⟩
  have ST := hid (ST2.out.trans st)
  clear st K3 ST1 ST2
  have c4 := (sv_cells ST.out.1).2.2.2.2
  obtain ⟨nl, hnl⟩ : ∃ nl, nl = x1 + 257 := ⟨_, rfl⟩
  obtain ⟨nd, hnd⟩ : ∃ nd, nd = x2 + 1 := ⟨_, rfl⟩
  obtain ⟨nc, hnc⟩ : ∃ nc, nc = x3 + 4 := ⟨_, rfl⟩
  have e1 : (x1 : Int) + 257 = (nl : Int) := by omega
  have e2 : (x2 : Int) + 1 = (nd : Int) := by omega
  have e3 : (x3 : Int) + 4 = (nc : Int) := by omega
  have hnl2 : nl ≤ 286 := by omega
  have hnd2 : nd ≤ 30 := by omega
  have hnc2 : nc ≤ 19 := by omega
  have HNL := hid hnl
  have HND := hid hnd
  have HNC := hid hnc
  clear hnl hnd hnc cl cd
  have hmk := fun wq => made19 wq
  go_wp2_with fail
  rw [show Obj.cells #[.int .i64 16, .int .i64 17, .int .i64 18, .int .i64 0, .int .i64 8, .int .i64 7, .int .i64 9, .int .i64 6, .int .i64 10, .int .i64 5, .int .i64 11, .int .i64 4, .int .i64 12, .int .i64 3, .int .i64 13, .int .i64 2, .int .i64 14, .int .i64 1, .int .i64 15] 3 = Obj.cells (arr19 ordN) 3 from by rw [ordA]]
  obtain ⟨ob, hob⟩ : ∃ ob, ob = w3.heap.size := ⟨_, rfl⟩
  have hszw : w.heap.size ≤ ob := by rw [hob]; exact ST.out.2.size
  have BO := hid (show BlkI ((w3.alloc (.cells (arr19 ordN) 3)).alloc (.cells zer19 3)) ob ordN from by
    unfold BlkI
    rw [hob]
    show ((w3.heap.push _).push _)[_]? = _
    simp [Array.getElem?_push])
  have SH := hid (sh_start ST.out.1 c1)
  have TC := hid ((ST.out.2.alloc (.cells (arr19 ordN) 3)).alloc (.cells zer19 3))
  have hal1 : (w3.alloc (.cells (arr19 ordN) 3)).heap.size = w3.heap.size + 1 := by simp
  try rw [hal1]
  rw [← hob] at SH ⊢
  clear hal1 hmk
  generalize ((w3.alloc (.cells (arr19 ordN) 3)).alloc (.cells zer19 3)) = wC at *
  have hnbl : ob + 1 ≠ sb := by omega
  have hnob : ob ≠ sb := by omega
  have HVN := hid (show v.ownBlock ≠ some (ob + 1) from fun e => by have := HVL.out _ e; omega)
  have hncI : (nc : Int) ≤ 19 := by omega
  clear hob ST c4
  go_loopg [9] nc (fun gk i wr => ∃ k : Nat, k + gk = nc ∧ i = .int .i64 (k : Nat) ∧ BlkI wr ob ordN ∧ Sh sb v out S (t + 14) most (ob + 1) k wr ∧ Touch (fun k => k = sb) w wr)
  case atStart => exact ⟨0, by omega, rfl, BO.out, SH.out, TC.out⟩
  case round =>
    obtain ⟨k, hk, rfl, hbo, hsh, htc⟩ := hrel
    have BO1 := hid hbo
    have TC1 := hid htc
    clear hbo htc BO SH TC
    by_cases hlt : k < nc
    · have ho := ord_pos k (by omega)
      obtain ⟨q, hq⟩ : ∃ q, q = ordN k := ⟨_, rfl⟩
      have hq19 : q < 19 := by rw [hq]; exact ho.1
      have hqI : (q : Int) < 19 := by omega
      have hkI : (k : Int) < 19 := by omega
      have HQ := hid hq
      have d0 := BO1.out.cell k (by omega)
      rw [← hq] at d0
      clear hq ho
      have hobl := BO1.out.lt
      -- what the call does, and what the list is then
      have KEY := hid (show ∃ x : Nat, Calls Tryd.prog 30 #[.pointer (some ⟨sb, 0, none⟩), .int .i64 3] wr.drew fun e w' => e = .returned (.int .i64 (x : Nat)) ∧ Touch (fun k => k = sb) wr.drew w' ∧ w'.cell? ⟨ob, k, none⟩ = some (.int .i64 (q : Nat)) ∧ (∃ y : Nat, w'.cell? ⟨ob + 1, q, none⟩ = some (.int .i64 (y : Nat))) ∧ w'.frozen? ⟨ob + 1, q, none⟩ = false ∧ Sh sb v out S (t + 14) most (ob + 1) (k + 1) (w'.setCell ⟨ob + 1, q, none⟩ (.int .i64 (x : Nat))) from by
        have common : ∀ w' : World, Touch (fun k => k = sb) wr.drew w' → w'.cell? ⟨ob, k, none⟩ = some (.int .i64 (q : Nat)) := fun w' tc => by
          rw [tc.cell (p := ⟨ob, k, none⟩) hobl hnob]
          exact d0
        rcases hsh with ⟨hf, hb, hv⟩ | ⟨hf, f, hb, hv⟩
        · by_cases h3 : t + 14 + 3 * k + 3 ≤ 8 * S.size
          · refine ⟨Bt.rval S (t + 14 + 3 * k) 3, (rtake_yes sb v out S (t + 14 + 3 * k) most 3 wr.drew hv hs h3 (by decide)).mono ?_⟩
            rintro e w' ⟨rfl, sv, tc⟩
            have hb' : BlkI w' (ob + 1) (Inf.lens3 S (t + 14) k) := hb.same (tc.block (ob + 1) hb.lt hnbl)
            refine ⟨rfl, tc, common w' tc, ⟨_, hb'.cell q hq19⟩, hb'.free q, .inl ⟨by omega, ?_, ?_⟩⟩
            · refine (hb'.set q _).ext (fun i hi => ?_)
              rw [HQ.out]
              exact lens3_step S (t + 14) k i (by omega) hi
            · rw [show t + 14 + 3 * (k + 1) = t + 14 + 3 * k + 3 by omega]
              exact sv.other hnbl HVN.out _ _
          · refine ⟨0, (rtake_end sb v out S (t + 14 + 3 * k) most 3 wr.drew hv (by omega) hf (by omega) (by decide)).mono ?_⟩
            rintro e w' ⟨rfl, sv, tc⟩
            have hb' : BlkI w' (ob + 1) (Inf.lens3 S (t + 14) k) := hb.same (tc.block (ob + 1) hb.lt hnbl)
            refine ⟨rfl, tc, common w' tc, ⟨_, hb'.cell q hq19⟩, hb'.free q, .inr ⟨by omega, _, hb'.set q 0, ?_⟩⟩
            rw [show t + 14 + 3 * ((8 * S.size - (t + 14)) / 3) = t + 14 + 3 * k by omega]
            exact sv.other hnbl HVN.out _ _
        · refine ⟨0, (rtake_err sb v out S _ most 3 3 wr.drew hv (by decide)).mono ?_⟩
          rintro e w' ⟨rfl, rfl⟩
          exact ⟨rfl, Touch.refl _ _, d0, ⟨_, hb.cell q hq19⟩, hb.free q, .inr ⟨by omega, _, hb.set q 0, hv.other hnbl HVN.out _ _⟩⟩)
      obtain ⟨x, kx⟩ := KEY.out
      have KX := hid kx
      clear kx KEY hsh
      go_wp2_with fail
      go_region_with (go_at_call 30; refine KX.out.mono ?_; rintro e w5 ⟨rfl, tc5, p0, ⟨y, p1⟩, p2, p3⟩; have T5 := hid tc5; have P3 := hid p3; clear tc5 p3)
      all_goals
        go_wp2
        go_roundg (gk - 1)
        case measure => omega
        case rel =>
          refine ⟨k + 1, by omega, by go_num, ?_, P3.out, (TC1.out.drew.trans T5.out (fun _ _ e => e)).setCell (p := ⟨ob + 1, q, none⟩) (fun h => by simp at h; omega) _⟩
          exact (BO1.out.same (T5.out.block ob hobl hnob)).same (Below.heap_setCell _ _ _ _ (by simp))
    · obtain rfl : k = nc := by omega
      have e14 : Bt.rval S (t + 10) 4 + 4 = k := by rw [← HX3.out, ← HNC.out]
      rcases hsh with ⟨hf, hb, hv⟩ | ⟨hf, f, hb, hv⟩
      case inr =>
        have c4 := (sv_cells hv).2.2.2.2
        have HV := hid hv
        have HF := hid (head_5 (s := S) (t := t) (by omega) (by rw [← HX1.out, ← HX2.out]; have := HNL.out; have := HND.out; omega) (by rw [e14]; exact hf))
        clear hv hb hf
        go_wp2
        go_ret2
        exact .inl ⟨3, _, by decide, .head 3 _ HF.out, by omega, ⟨HV.out, TC1.out⟩, rfl⟩
      have c4 := (sv_cells hv).2.2.2.2
      have HV := hid hv
      have HBL := hid hb
      have EF := hid (show Inf.dyF S t = Inf.lens3 S (t + 14) k from by unfold Inf.dyF; rw [e14])
      have ET := hid (show Inf.dyT S t = t + 14 + 3 * k from by unfold Inf.dyT; rw [e14])
      have C3 := hid (show ¬ 8 * S.size < t + 14 + 3 * (Bt.rval S (t + 10) 4 + 4) by rw [e14]; omega)
      have C2 := hid (show ¬ (29 < Bt.rval S t 5 ∨ 29 < Bt.rval S (t + 5) 5) by rw [← HX1.out, ← HX2.out]; have := HNL.out; have := HND.out; omega)
      clear hv hb e14
      by_cases he : errOf (Inf.lens3 S (t + 14) k) 19 = 0
      case neg =>
        have NW := hid (rnew_not (some ⟨ob + 1, 0, none⟩) 19 19 (Inf.lens3 S (t + 14) k) wr (by decide) (lens3_le S (t + 14) k) HBL.out.ints he)
        have HE := hid he
        have HF := hid (head_6 (s := S) (t := t) (by omega) C2.out C3.out (by rw [EF.out]; exact he))
        have hne : (((errOf (Inf.lens3 S (t + 14) k) 19 : Nat) : Int) != 0) = true := by simp; omega
        have f4 := sv_free HV.out 4
        clear he
        go_wp2_with fail
        refine NW.out.mono ?_
        rintro e w6 ⟨rfl, rfl⟩
        go_wp2
        go_ret2
        have hd := HF.out
        rw [EF.out, ET.out] at hd
        exact .inl ⟨_, _, HE.out, .head _ _ hd, hf, ⟨HV.out.err _, TC1.out.setCell (p := ⟨sb, 4, none⟩) (fun _ => rfl) _⟩, rfl⟩
      have hT : Inf.Tbl (Inf.lens3 S (t + 14) k) 19 := ⟨lens3_le S (t + 14) k, he, by decide⟩
      have hz : ∀ i, 19 ≤ i → Inf.lens3 S (t + 14) k i = 0 := fun i hi => by
        unfold Inf.lens3
        rw [if_neg (by omega)]
      have HDN := hid (head_7 (s := S) (t := t) (by omega) C2.out C3.out (by rw [EF.out]; exact he))
      have NW := hid (rnew_tbl (some ⟨ob + 1, 0, none⟩) 19 19 (Inf.lens3 S (t + 14) k) wr hT HBL.out.ints)
      have HT := hid hT
      have HZ := hid hz
      clear he hT hz
      go_wp2_with fail
      refine NW.out.mono ?_
      rintro e w6 ⟨ca, cc, rfl, ic, nc6, tc6⟩
      have hsz1 := TC1.out.size
      have IC6 := hid ic
      have NC6 := hid (show ∀ b o, ca = some ⟨b, o, none⟩ → b ≠ sb from fun b o e => by have := nc6 b o e; omega)
      have TC6 := hid (TC1.out.trans tc6 (fun _ _ e => e.elim))
      have SV6 := hid (HV.out.still tc6)
      have IS6 := hid (HBL.out.ints.new tc6)
      have hsz6 := TC6.out.size
      have HOLD := hid (show ∀ k, v.ownBlock = some k → k < w6.heap.size from fun k e => by have := HVL.out k e; omega)
      clear ic nc6 tc6 NW HV HBL BO1 c4
      obtain ⟨F, hF⟩ : ∃ F, F = Inf.lens3 S (t + 14) k := ⟨_, rfl⟩
      rw [← hF] at EF HT HZ IC6 IS6
      obtain ⟨T, hTT⟩ : ∃ T, T = t + 14 + 3 * k := ⟨_, rfl⟩
      rw [← hTT] at ET SV6 hf
      obtain ⟨wanted, hwd⟩ : ∃ wanted, wanted = nl + nd := ⟨_, rfl⟩
      have hsw : (nl : Int) + (nd : Int) = (wanted : Int) := by omega
      have hw1 : wanted ≤ 400 := by omega
      have hw2 : 257 < wanted := by have := HNL.out; omega
      have HWD := hid hwd
      clear hF hTT hwd
      obtain ⟨i0, hin, hz0, hz1, hz2⟩ := info_parts info3
      go_wp2_with fail
      go_loopg [12] (8 * S.size + 1 - T) (fun gk v8 wx => ∃ (t' : Nat) (told : List Nat), t' + gk = 8 * S.size + 1 ∧ t' ≤ 8 * S.size ∧ told.length ≤ wanted ∧ Tl w6 wx sb v8 told ∧ Sv wx sb v out S t' most 0 ∧ (∀ er t2 told2, Inf.Le F 19 S wanted t' told er t2 told2 → Inf.Le F 19 S wanted T [] er t2 told2))
      case atStart => exact ⟨T, [], by omega, hf, Nat.zero_le _, ⟨by simpa [natsV] using World.ownsRow_nil _ _ _ _, by intro g h; simp [Value.ownBlock] at h, Touch.refl _ _, by simp⟩, SV6.out, fun _ _ _ h => h⟩
      case round =>
        obtain ⟨t', told, hgk, htt, hlen, htl, hsv, hback⟩ := hrel
        have TLx := hid htl
        have SVx := hid hsv
        have BK := hid hback
        obtain ⟨av, cv, hav, hints⟩ := htl.ints
        have IN := hid hints
        subst hav
        have ISx := hid (IS6.out.beside htl.touch (fun b o e _ k => by simp only [Option.some.injEq, Addr.mk.injEq] at e; omega))
        have ICx := hid (IC6.out.beside htl.touch (fun b o e _ k => NC6.out b o e k))
        clear htl hsv hback hints
        by_cases hlt : told.length < wanted
        case neg =>
          have hle : told.length = wanted := by omega
          have HLE := hid (show told.length = Inf.dyL S t + Inf.dyD S t from by unfold Inf.dyL Inf.dyD; rw [hle, HWD.out, HNL.out, HND.out, HX1.out, HX2.out])
          have EL := hid (show Inf.dyL S t = nl from by unfold Inf.dyL; rw [HNL.out, HX1.out])
          have LEQ := hid (show Inf.Le (Inf.dyF S t) 19 S (Inf.dyL S t + Inf.dyD S t) (Inf.dyT S t) [] 0 t' told from by
            rw [EF.out, ET.out, ← HLE.out, hle]
            exact BK.out _ _ _ (.fin t' told (by omega)))
          have HN2 := hid (show ∀ b o, av = some ⟨b, o, none⟩ → w.heap.size ≤ b from fun b o e => by
            have := TLx.out.new b (by
              rcases TLx.out.own.2 with ⟨hv, h0⟩ | ⟨g, cap, cur, hv, _⟩
              · simp only [Value.slice.injEq] at hv
                rw [e] at hv
                simp at hv
              · simp only [Value.slice.injEq] at hv
                rw [e] at hv
                simp only [Option.some.injEq, Addr.mk.injEq] at hv
                rw [e, hv.1.1]
                simp [Value.ownBlock])
            omega)
          have HCAP := hid (own_cap TLx.out.own)
          have TCX := hid (TC6.out.trans TLx.out.touch (fun _ _ e => e))
          obtain ⟨b, o, ha, hb, hcell⟩ : ∃ b o, av = some ⟨b, o, none⟩ ∧ b < wr.heap.size ∧ ∀ i, i < told.length → wr.cell? ⟨b, o + i, none⟩ = some (.int .i64 ((told.getD i 0 : Nat) : Int)) := by
            rcases IN.out with h | h
            · omega
            · exact h
          subst ha
          have d256 := hcell 256 (by omega)
          have f4 := sv_free SVx.out 4
          have c4 := (sv_cells SVx.out).2.2.2.2
          obtain ⟨z, hz⟩ : ∃ z, z = told.getD 256 0 := ⟨_, rfl⟩
          rw [← hz] at d256
          have h256 : (256 : Int) < (told.length : Int) := by omega
          have HZZ := hid hz
          clear hcell hle hz
          by_cases z0 : z = 0
          · have hq : ((z : Int) == 0) = true := by simp; omega
            have Z0 := hid z0
            clear z0
            go_wp2
            go_ret2
            refine .inr ⟨t', told, some ⟨b, o, none⟩, cv, HDN.out, LEQ.out, htt, HLE.out, TLx.out.small, ?_, by rw [EL.out]; rfl, ?_, HCAP.out, HN2.out⟩
            · rw [if_pos (by rw [← HZZ.out]; exact Z0.out)]
              exact ⟨SVx.out.err 5, TCX.out.setCell (p := ⟨sb, 4, none⟩) (fun _ => rfl) _⟩
            · exact IN.out.beside ((Touch.refl (fun k => k = sb) wr).setCell (p := ⟨sb, 4, none⟩) (fun _ => rfl) _) (fun b o e _ k => by have := HN2.out b o e; omega)
          · have hq : ((z : Int) == 0) = false := by simp; omega
            have Z0 := hid z0
            clear z0
            go_wp2
            go_ret2
            refine .inr ⟨t', told, some ⟨b, o, none⟩, cv, HDN.out, LEQ.out, htt, HLE.out, TLx.out.small, ?_, by rw [EL.out]; rfl, IN.out, HCAP.out, HN2.out⟩
            rw [if_neg (by rw [← HZZ.out]; exact Z0.out)]
            exact ⟨SVx.out, TCX.out⟩
        have LERR := hid (fun (er : Nat) (t2 : Nat) (hne : er ≠ 0) (hy : Inf.Le F 19 S wanted t' told er t2 []) => (show Inf.Dy S t er t2 [] from by
          have q := BK.out _ _ _ hy
          refine .lens HDN.out er t2 [] ?_ hne
          rw [EF.out, ET.out, show Inf.dyL S t + Inf.dyD S t = wanted from by unfold Inf.dyL Inf.dyD; rw [HWD.out, HNL.out, HND.out, HX1.out, HX2.out]]
          exact q))
        obtain ⟨er, i, t1, hn⟩ : ∃ er i t1, Inf.nx F 19 S t' = (er, i, t1) := ⟨_, _, _, rfl⟩
        have hnf := Inf.nx_fits hn htt
        have NX := hid (rnext_any sb v out S t' most (some ⟨ob + 1, 0, none⟩) ca 19 19 cc F wr SVx.out hs htt HT.out HZ.out ISx.out ICx.out er i t1 hn)
        have HN := hid hn
        clear hn
        go_wp2_with fail
        refine NX.out.mono ?_
        rintro e w7 ⟨rfl, st7⟩
        have TL7 := hid (TLx.out.steps SVx.out st7)
        have SV7 := hid st7.1
        have TC7 := hid (TC6.out.trans TL7.out.touch (fun _ _ e => e))
        have IN7 := hid (show Ints w7 av told.length (fun j => ((told.getD j 0 : Nat) : Int)) from by
          obtain ⟨a2, c2, hv2, hi2⟩ := TL7.out.ints
          simp only [Value.slice.injEq] at hv2
          obtain ⟨rfl, _, _⟩ := hv2
          exact hi2)
        have c4 := (sv_cells st7.1).2.2.2.2
        have f4 := sv_free st7.1 4
        clear st7 NX IN ISx ICx
        by_cases her : er = 0
        case neg =>
          have hne : ((er : Int) != 0) = true := by simp; omega
          have HE := hid her
          have e1 := (hnf.2.2.2.1 her).1
          have E1 := hid e1
          clear her e1
          go_wp2
          go_ret2
          exact .inl ⟨er, t', HE.out, LERR.out _ _ HE.out (.err t' told hlt er i t1 HN.out HE.out), htt, ⟨E1.out ▸ SV7.out, TC7.out⟩, rfl⟩
        subst her
        have hlt1 := hnf.2.2.1 rfl
        have ht1 := hnf.1
        have hb150 := rval_7 S t1 i
        have hv15 := valT_le hlt1.2.1 TL7.out.small
        obtain ⟨n, hnn⟩ : ∃ n, n = Inf.leastT i + Bt.rval S t1 (Inf.moreBits i) := ⟨_, rfl⟩
        obtain ⟨y, hyy⟩ : ∃ y, y = Inf.valT i told := ⟨_, rfl⟩
        rw [← hnn] at hb150
        rw [← hyy] at hv15
        have HNN := hid hnn
        have HYY := hid hyy
        have hrv := fun m (hm : m ≤ 13) => rval_13 S t1 m hm
        clear hnn hyy hnf
        refine four i (fun h16 => ?a16) (fun h17 => ?a17) (fun h18 => ?a18) (fun hot => ?aot)
        case' a16 =>
          have e16 : ((i : Int) == 16) = true := by simp; omega
          have e17 : ((i : Int) == 17) = false := by simp; omega
          have e18 : ((i : Int) == 18) = false := by simp; omega
          have HB := hid (show Inf.moreBits i = 2 from by rw [h16]; rfl)
          have HL := hid (show Inf.leastT i = 3 from by rw [h16]; rfl)
          by_cases h0 : told.length = 0
          · have H0 := hid h0
            have H16 := hid h16
            clear h16
            rw [h0]
            clear h0
            go_wp2
            go_ret2
            exact .inl ⟨5, t1, by decide, LERR.out _ _ (by decide) (.none t' told hlt t1 (by rw [HN.out, H16.out]) H0.out), ht1, ⟨SV7.out.err 5, TC7.out.setCell (p := ⟨sb, 4, none⟩) (fun _ => rfl) _⟩, rfl⟩
          have H0 := hid (show ¬ (i = 16 ∧ told.length = 0) from fun h => h0 h.2)
          have HV := hid (show told.getD (told.length - 1) 0 = y from by rw [HYY.out, h16]; rfl)
          obtain ⟨b, o, ha, hb, hcell⟩ : ∃ b o, av = some ⟨b, o, none⟩ ∧ b < w7.heap.size ∧ ∀ i, i < told.length → w7.cell? ⟨b, o + i, none⟩ = some (.int .i64 ((told.getD i 0 : Nat) : Int)) := by
            rcases IN7.out with h | h
            · exact absurd h h0
            · exact h
          subst ha
          have hlast := hcell (told.length - 1) (by omega)
          rw [HV.out] at hlast
          have hne0 : ((told.length : Int) == 0) = false := by rw [beq_eq_false_iff_ne]; omega
          have hix : (told.length : Int) - 1 = ((told.length - 1 : Nat) : Int) := by omega
          have hix2 : ((told.length - 1 : Nat) : Int) < (told.length : Int) := by omega
          clear hcell h0
          clear h16
          by_cases hcut : 8 * S.size < t1 + 2
          · have K := hid (rtake_end sb v out S t1 most 2 w7 SV7.out (by omega) ht1 hcut (by decide))
            have HC := hid hcut
            clear hcut
            go_wp2_with fail
            refine K.out.mono ?_
            rintro e w8 ⟨rfl, st8⟩
            have SV8 := hid st8.1
            have TC8 := hid (TC7.out.trans st8.2 (fun _ _ e => e))
            have d4 := (sv_cells st8.1).2.2.2.2
            clear st8 K
            go_wp2
            go_ret2
            exact .inl ⟨3, t1, by decide, LERR.out _ _ (by decide) (.cut t' told hlt i t1 HN.out H0.out (by rw [HB.out]; exact HC.out)), ht1, ⟨SV8.out, TC8.out⟩, rfl⟩
          have K := hid (rtake_yes sb v out S t1 most 2 w7 SV7.out hs (by omega) (by decide))
          have HFIT := hid (show t1 + Inf.moreBits i ≤ 8 * S.size by rw [HB.out]; omega)
          have hr13 := hrv 2 (by decide)
          obtain ⟨x, hx⟩ : ∃ x, x = Bt.rval S t1 2 := ⟨_, rfl⟩
          rw [← hx] at K hr13
          have HX := hid (show ((3 : Int) + (x : Int)) = (n : Int) by have := HNN.out; rw [HB.out, HL.out, ← hx] at this; omega)
          clear hx hcut
          go_wp2_with fail
          refine K.out.mono ?_
          rintro e w8 ⟨rfl, st8⟩
          have ST8 := hid (show SvStep w7 w8 sb v out S (t1 + Inf.moreBits i) most 0 from by rw [HB.out]; exact st8)
          have d4 := (sv_cells st8.1).2.2.2.2
          have hxn := HX.out
          clear st8 K
          go_upto_region 39 with fail
          go_cut [14, 15, 128] (fun x14 x15 x128 wd => x14 = .int .i64 (n : Nat) ∧ x15 = .int .i64 (y : Nat) ∧ x128 = .bool (decide (wanted < told.length + n)) ∧ Touch (fun _ => False) w8 wd)
          case first =>
            go_wp2
            go_meet
            case rel => exact ⟨rfl, rfl, congrArg Value.bool (decide_eq_decide.2 ⟨fun h => by omega, fun h => by omega⟩), Touch.refl _ _⟩
        case' a17 =>
          have e16 : ((i : Int) == 16) = false := by simp; omega
          have e17 : ((i : Int) == 17) = true := by simp; omega
          have e18 : ((i : Int) == 18) = false := by simp; omega
          have HB := hid (show Inf.moreBits i = 3 from by rw [h17]; rfl)
          have HL := hid (show Inf.leastT i = 3 from by rw [h17]; rfl)
          have H0 := hid (show ¬ (i = 16 ∧ told.length = 0) from fun h => by have := h.1; omega)
          have HV := hid (show 0 = y from by rw [HYY.out, h17]; rfl)
          clear h17
          by_cases hcut : 8 * S.size < t1 + 3
          · have K := hid (rtake_end sb v out S t1 most 3 w7 SV7.out (by omega) ht1 hcut (by decide))
            have HC := hid hcut
            clear hcut
            go_wp2_with fail
            refine K.out.mono ?_
            rintro e w8 ⟨rfl, st8⟩
            have SV8 := hid st8.1
            have TC8 := hid (TC7.out.trans st8.2 (fun _ _ e => e))
            have d4 := (sv_cells st8.1).2.2.2.2
            clear st8 K
            go_wp2
            go_ret2
            exact .inl ⟨3, t1, by decide, LERR.out _ _ (by decide) (.cut t' told hlt i t1 HN.out H0.out (by rw [HB.out]; exact HC.out)), ht1, ⟨SV8.out, TC8.out⟩, rfl⟩
          have K := hid (rtake_yes sb v out S t1 most 3 w7 SV7.out hs (by omega) (by decide))
          have HFIT := hid (show t1 + Inf.moreBits i ≤ 8 * S.size by rw [HB.out]; omega)
          have hr13 := hrv 3 (by decide)
          obtain ⟨x, hx⟩ : ∃ x, x = Bt.rval S t1 3 := ⟨_, rfl⟩
          rw [← hx] at K hr13
          have HX := hid (show ((3 : Int) + (x : Int)) = (n : Int) by have := HNN.out; rw [HB.out, HL.out, ← hx] at this; omega)
          clear hx hcut
          go_wp2_with fail
          refine K.out.mono ?_
          rintro e w8 ⟨rfl, st8⟩
          have ST8 := hid (show SvStep w7 w8 sb v out S (t1 + Inf.moreBits i) most 0 from by rw [HB.out]; exact st8)
          have d4 := (sv_cells st8.1).2.2.2.2
          have hxn := HX.out
          clear st8 K
          go_upto_region 39 with fail
          go_cut [14, 15, 128] (fun x14 x15 x128 wd => x14 = .int .i64 (n : Nat) ∧ x15 = .int .i64 (y : Nat) ∧ x128 = .bool (decide (wanted < told.length + n)) ∧ Touch (fun _ => False) w8 wd)
          case first =>
            go_wp2
            go_meet
            case rel => exact ⟨rfl, by rw [← HV.out]; rfl, congrArg Value.bool (decide_eq_decide.2 ⟨fun h => by omega, fun h => by omega⟩), Touch.refl _ _⟩
        case' a18 =>
          have e16 : ((i : Int) == 16) = false := by simp; omega
          have e17 : ((i : Int) == 17) = false := by simp; omega
          have e18 : ((i : Int) == 18) = true := by simp; omega
          have HB := hid (show Inf.moreBits i = 7 from by rw [h18]; rfl)
          have HL := hid (show Inf.leastT i = 11 from by rw [h18]; rfl)
          have H0 := hid (show ¬ (i = 16 ∧ told.length = 0) from fun h => by have := h.1; omega)
          have HV := hid (show 0 = y from by rw [HYY.out, h18]; rfl)
          clear h18
          by_cases hcut : 8 * S.size < t1 + 7
          · have K := hid (rtake_end sb v out S t1 most 7 w7 SV7.out (by omega) ht1 hcut (by decide))
            have HC := hid hcut
            clear hcut
            go_wp2_with fail
            refine K.out.mono ?_
            rintro e w8 ⟨rfl, st8⟩
            have SV8 := hid st8.1
            have TC8 := hid (TC7.out.trans st8.2 (fun _ _ e => e))
            have d4 := (sv_cells st8.1).2.2.2.2
            clear st8 K
            go_wp2
            go_ret2
            exact .inl ⟨3, t1, by decide, LERR.out _ _ (by decide) (.cut t' told hlt i t1 HN.out H0.out (by rw [HB.out]; exact HC.out)), ht1, ⟨SV8.out, TC8.out⟩, rfl⟩
          have K := hid (rtake_yes sb v out S t1 most 7 w7 SV7.out hs (by omega) (by decide))
          have HFIT := hid (show t1 + Inf.moreBits i ≤ 8 * S.size by rw [HB.out]; omega)
          have hr13 := hrv 7 (by decide)
          obtain ⟨x, hx⟩ : ∃ x, x = Bt.rval S t1 7 := ⟨_, rfl⟩
          rw [← hx] at K hr13
          have HX := hid (show ((11 : Int) + (x : Int)) = (n : Int) by have := HNN.out; rw [HB.out, HL.out, ← hx] at this; omega)
          clear hx hcut
          go_wp2_with fail
          refine K.out.mono ?_
          rintro e w8 ⟨rfl, st8⟩
          have ST8 := hid (show SvStep w7 w8 sb v out S (t1 + Inf.moreBits i) most 0 from by rw [HB.out]; exact st8)
          have d4 := (sv_cells st8.1).2.2.2.2
          have hxn := HX.out
          clear st8 K
          go_upto_region 39 with fail
          go_cut [14, 15, 128] (fun x14 x15 x128 wd => x14 = .int .i64 (n : Nat) ∧ x15 = .int .i64 (y : Nat) ∧ x128 = .bool (decide (wanted < told.length + n)) ∧ Touch (fun _ => False) w8 wd)
          case first =>
            go_wp2
            go_meet
            case rel => exact ⟨rfl, by rw [← HV.out]; rfl, congrArg Value.bool (decide_eq_decide.2 ⟨fun h => by omega, fun h => by omega⟩), Touch.refl _ _⟩
        case' aot =>
          have e16 : ((i : Int) == 16) = false := by simp; omega
          have e17 : ((i : Int) == 17) = false := by simp; omega
          have e18 : ((i : Int) == 18) = false := by simp; omega
          have HB := hid (show Inf.moreBits i = 0 by unfold Inf.moreBits; rw [if_neg hot.1, if_neg hot.2.1, if_neg hot.2.2])
          have HL := hid (show Inf.leastT i = 1 by unfold Inf.leastT; rw [if_neg hot.1, if_neg hot.2.1, if_neg hot.2.2])
          have HV := hid (show i = y by rw [HYY.out]; unfold Inf.valT; rw [if_neg hot.1, if_neg hot.2.1, if_neg hot.2.2])
          have H0 := hid (show ¬ (i = 16 ∧ told.length = 0) from fun h => by have := h.1; omega)
          have HX := hid (show n = 1 by rw [HNN.out, HB.out, HL.out, Bt.rval_zero])
          have HFIT := hid (show t1 + Inf.moreBits i ≤ 8 * S.size by rw [HB.out]; omega)
          have ST8 := hid (show SvStep w7 w7 sb v out S (t1 + Inf.moreBits i) most 0 from by rw [HB.out]; exact SvStep.refl SV7.out)
          have d4 := c4
          clear hot
          go_upto_region 39 with fail
          go_cut [14, 15, 128] (fun x14 x15 x128 wd => x14 = .int .i64 (n : Nat) ∧ x15 = .int .i64 (y : Nat) ∧ x128 = .bool (decide (wanted < told.length + n)) ∧ Touch (fun _ => False) w7 wd)
          case first =>
            go_wp2
            go_meet
            case rel => exact ⟨by rw [HX.out]; rfl, by rw [← HV.out], congrArg Value.bool (decide_eq_decide.2 ⟨fun h => by have := HX.out; omega, fun h => by have := HX.out; omega⟩), Touch.refl _ _⟩
        all_goals
          obtain ⟨rfl, rfl, rfl, tc9⟩ := hcut
          have ST9 := hid (show SvStep w7 wc sb v out S (t1 + Inf.moreBits i) most 0 from ⟨ST8.out.1.still tc9, ST8.out.2.trans tc9 (fun _ _ e => e.elim)⟩)
          have TL9 := hid (TL7.out.steps SV7.out ST9.out)
          have TC9 := hid (TC6.out.trans TL9.out.touch (fun _ _ e => e))
          clear tc9 c4 f4 d4
          have c4 := (sv_cells ST9.out.1).2.2.2.2
          have f4 := sv_free ST9.out.1 4
          by_cases hmany : wanted < told.length + n
          · rw [decide_eq_true hmany]
            have HMN := hid hmany
            clear hmany
            go_wp2
            go_ret2
            exact .inl ⟨5, t1 + Inf.moreBits i, by decide, LERR.out _ _ (by decide) (.many t' told hlt i t1 HN.out H0.out HFIT.out (by rw [← HNN.out]; exact HMN.out)), HFIT.out, ⟨ST9.out.1.err 5, TC9.out.setCell (p := ⟨sb, 4, none⟩) (fun _ => rfl) _⟩, rfl⟩
          rw [decide_eq_false hmany]
          have HMN := hid hmany
          clear hmany
          go_wp2_with fail
          go_loopg [12, 16] n (fun g2 v8 c wx => ∃ j : Nat, j + g2 = n ∧ c = .int .i64 (j : Nat) ∧ Tl w6 wx sb v8 (told ++ List.replicate j y) ∧ Sv wx sb v out S (t1 + Inf.moreBits i) most 0)
          case atStart => exact ⟨0, by omega, rfl, by simpa using TL9.out, ST9.out.1⟩
          case round =>
            obtain ⟨j, hj, rfl, htl3, hsv3⟩ := hrel
            have TL3 := hid htl3
            have SV3 := hid hsv3
            obtain ⟨a3, c3, hav3, _⟩ := htl3.ints
            subst hav3
            clear htl3 hsv3
            have hl3 : (told ++ List.replicate j y).length = told.length + j := by simp
            by_cases hlt3 : j < n
            · have HL3 := hid hl3
              clear hl3
              obtain ⟨M, hM⟩ : ∃ M, M = (told ++ List.replicate j y).length := ⟨_, rfl⟩
              have hMb : M ≤ 2000 := by rw [hM, HL3.out]; omega
              have OW := hid TL3.out.own
              rw [← hM] at OW ⊢
              have HM := hid hM
              clear hM
              go_wp2_with (at_builtin; refine wpList_append_own_at _ rfl _ _ 72 rfl 0 3 i0 (.int .i64 0) 1 8 Tryd.underlying72 hin hz0 hz1 hz2 rfl (by decide) _ M _ rfl (OW.out.alloc _) ⟨wr.heap.size, 0, none⟩ 1 1 [.int .i64 (y : Nat)] rfl rfl (cell_one_new wr _ _) (by intro u hu; simp at hu; subst hu; rfl) (by unfold maxLen; omega) (by omega) (Nat.zero_le _) ?_)
              intro v' wn hown hgrow _ hat
              rw [HM.out] at hown hgrow hat
              have TL4 := hid (TL3.out.more hv15 hown hgrow hat)
              have SV4 := hid (sv_row TL3.out SV3.out HOLD.out hgrow)
              clear hown hgrow hat
              go_wp2
              go_roundg (gk - 1)
              case measure => omega
              case rel => exact ⟨j + 1, by omega, by go_num, by rw [List.replicate_succ', ← List.append_assoc]; exact TL4.out, SV4.out⟩
            · obtain rfl : j = n := by omega
              have hfit9 := HFIT.out
              have hmn9 := HMN.out
              go_wp2
              go_roundg (8 * S.size + 1 - (t1 + Inf.moreBits i))
              case measure => omega
              case rel =>
                refine ⟨t1 + Inf.moreBits i, told ++ List.replicate j y, by omega, hfit9, by rw [hl3]; omega, TL3.out, SV3.out, fun er t2 told2 hy => ?_⟩
                refine BK.out er t2 told2 (.step t' told hlt i t1 HN.out H0.out hfit9 (by rw [← HNN.out]; omega) er t2 told2 ?_)
                rw [← HNN.out, ← HYY.out]
                exact hy
end Go.Proofs.YtohcngiiijokkaaDoor
