/- Texts of this proof, one behind the other: what each says stands ahead of it. -/
import Derived.Test.YtmokfheckngfiaaDoorM17
import Derived.Deep.RegionLaw
import Derived.Deep.RegionHeld3
import Derived.Deep.AppendLies
/- SplitOrder's walk; conditions: those told. -/
namespace Go.Proofs.YtmokfheckngfiaaDoor
open Go.RowKit
open Go.Lib

/-- The last text of the row ahead. -/
def lastS (l : List (Nat × Nat)) (i : Nat) : ByteArray := if h : 0 < i ∧ i ≤ l.length then strOfNums (en8 ((l[i - 1]'(by omega)).2 : Int)) else ⟨#[]⟩
theorem lastS_succ {l : List (Nat × Nat)} {i : Nat} (h : i < l.length) : lastS l (i + 1) = strOfNums (en8 ((l[i]).2 : Int)) := by
  unfold lastS
  rw [dif_pos ⟨by omega, by omega⟩]
  rfl
theorem run_leq_no {x y : ByteArray} {w : World} (h1 : Op.bytesLess x.toList y.toList = false) (h2 : (x.toList == y.toList) = false) : (binOp .leq 9 (.string x) (.string y)).run Tryd.prog w = .ok (.bool false) w := by
  simp [binOp, Op.stringOp, h1, h2]
theorem news_far {w W : World} {v : Value} {t : TypeId} {n : Nat} (tc : Touch (fun _ => False) (w.alloc (.cells #[v] t)) W) (hn : w.heap.size = n) : ∀ j u, [v][j]? = some u → W.cell? ((⟨n, 0, none⟩ : Addr).add j) = some u := by
  subst hn
  intro j u hj
  have h1 := cell_one_new w v t j u hj
  rcases j with _ | j
  · exact (tc.cell (p := ⟨w.heap.size, 0, none⟩) (by simp) id).trans h1
  · simp at hj
theorem keepT {w W : World} {q : Nat} {u v : Value} (ql : q < w.heap.size) (h0 : w.cell? ⟨q, 0, none⟩ = some u) (h1 : w.cell? ⟨q, 1, none⟩ = some v) (t : Touch (fun _ => False) w W) : W.cell? ⟨q, 0, none⟩ = some u ∧ W.cell? ⟨q, 1, none⟩ = some v ∧ q < W.heap.size :=
  ⟨(t.cell (p := ⟨q, 0, none⟩) ql id).trans h0, (t.cell (p := ⟨q, 1, none⟩) ql id).trans h1, Nat.lt_of_lt_of_le ql t.size⟩
theorem keepG {w W w4 : World} {q : Nat} {u v : Value} {row : Option Nat} (ql : q < w.heap.size) (h0 : w.cell? ⟨q, 0, none⟩ = some u) (h1 : w.cell? ⟨q, 1, none⟩ = some v) (t : Touch (fun _ => False) w W) (hg : W.grownBy w4 row) (hn : row ≠ some q) : w4.cell? ⟨q, 0, none⟩ = some u ∧ w4.cell? ⟨q, 1, none⟩ = some v ∧ q < w4.heap.size := by
  obtain ⟨a, b, c⟩ := keepT ql h0 h1 t
  exact ⟨(hg.cell_far ⟨q, 0, none⟩ c (fun e => hn e.symm)).trans a, (hg.cell_far ⟨q, 1, none⟩ c (fun e => hn e.symm)).trans b, Nat.lt_of_lt_of_le c hg.size⟩
/-- What an append leaves of the blocks that aren't the row's. -/
def Left (row : Option Nat) (W w4 : World) : Prop := ∀ n, n < W.heap.size → row ≠ some n → w4.heap[n]? = W.heap[n]?
theorem news_old {w W w4 W2 : World} {row : Option Nat} {v : Value} {t : TypeId} {n a : Nat} (h : Left row W w4) (hr : ∀ g, row = some g → g < a) (tc : Touch (fun _ => False) (w.alloc (.cells #[v] t)) W) (hn : w.heap.size = n) (ha : a ≤ n) (t2 : Touch (fun _ => False) w4 W2) (hs : W.heap.size ≤ w4.heap.size) : ∀ j u, [v][j]? = some u → W2.cell? ((⟨n, 0, none⟩ : Addr).add j) = some u := by
  subst hn
  intro j u hj
  have h1 := cell_one_new w v t j u hj
  have hlt : w.heap.size < W.heap.size := Nat.lt_of_lt_of_le (by simp) tc.size
  rcases j with _ | j
  · refine (t2.cell (p := ⟨w.heap.size, 0, none⟩) (Nat.lt_of_lt_of_le hlt hs) id).trans ?_
    refine Eq.trans (World.cell?_of_block (w := W) (h w.heap.size hlt (fun e => by have := hr _ e; omega))) ?_
    exact (tc.cell (p := ⟨w.heap.size, 0, none⟩) (by simp) id).trans h1
  · simp at hj
theorem info5 : (Tryd.prog.info? 5).map (fun i => (i.zero, i.size, i.bytes)) = some (some (.int .u8 0), 1, 1) := by kernel_rfl
attribute [local irreducible] en8 zOf fitL lastS
set_option maxRecDepth 100000 in
set_option maxHeartbeats 32000000 in
theorem splitOrder_walk (a : Option Addr) (c : Nat) (l : List S.R2) (w : World) (hbd : Bord w) (hl : S.Rg w a l) (hb : l.length ≤ 1048576) : Calls Tryd.prog 7 #[.slice a l.length c] w fun e w' => e = .returned (.bool true) ∧ Touch (fun _ => False) w w' := by
  obtain ⟨i0, hi5, hz0, hz1, hz2⟩ := info_parts info5
  have HBD := hid hbd
  have HL := hid hl
  clear hbd hl
  go_enter Tryd.func7, Tryd.ntmps7
  go_wp2_with fail
  refine (speaks_yes w HBD.out).mono ?_
  rintro e w1 ⟨rfl, t1⟩
  have T1 := hid t1
  have KM := hid (S.made_any a c l w1 (HL.out.new t1) (by omega))
  clear t1
  go_wp2_with fail
  refine KM.out.mono ?_
  rintro e w2 ⟨v, v2, set, rfl, hcs, his, ow, ow2⟩
  obtain ⟨a2, c2, hv, hrs⟩ := ow.rg
  subst hv
  obtain ⟨a3, c3, hv2⟩ := own_shape ow2.own
  subst hv2
  have T2 := hid (T1.out.trans ow.touch (fun _ _ e => e))
  have KS := hid (split_all a2 c2 set w2 hrs hcs ow.cap (HBD.out.new T2.out))
  have CS := hid hcs
  have HCAP := hid ow.cap
  have RS := hid hrs
  have hsl := S.canon_len hcs
  clear hcs his ow ow2 hrs KM T1 HL
  go_wp2_with fail
  refine KS.out.mono ?_
  rintro e w3 hd
  obtain ⟨ar, ps, cr, rfl, told⟩ := split_told2 CS.out hd
  have T3 := hid (T2.out.trans told.touch (fun _ _ e => e))
  have RS3 := hid (RS.out.new told.touch)
  have RW := hid told.rows
  have hfew := told.few
  have UP := hid told.up
  have PART := hid told.part
  have ONE := hid told.one
  have SUM := hid told.sum
  clear hd told KS RS T2
  go_wp2_with fail
  go_loopg [6, 7, 8] ps.length (fun gk v6 v7 v8 wq => ∃ i : Nat, i + gk = ps.length ∧ v8 = .int .i64 (i : Nat) ∧ v7 = .int .i64 (sumP (ps.take i)) ∧ v6 = .string (lastS ps i) ∧ Touch (fun _ => False) w3 wq)
  case atStart => exact ⟨0, by omega, rfl, rfl, by unfold lastS; rfl, Touch.refl _ _⟩
  case round =>
    obtain ⟨i, hi, rfl, rfl, rfl, htc⟩ := hrel
    have TC := hid htc
    have R1 := hid (RW.out.new htc)
    have RS4 := hid (RS3.out.new htc)
    clear htc
    by_cases hlt : i < ps.length
    · have hiI : (i : Int) < (ps.length : Int) := by omega
      obtain ⟨b, o, ha, hbl, hcell⟩ : ∃ b o, ar = some ⟨b, o, none⟩ ∧ b < wr.heap.size ∧ ∀ i (h : i < (ps.map zOf).length), ∃ ai ci, wr.cell? ⟨b, o + i, none⟩ = some (.slice ai ((ps.map zOf)[i]).length ci) ∧ S.Rg wr ai (ps.map zOf)[i] := by
        rcases R1.out with h | h
        · have := congrArg List.length h
          rw [List.length_map, List.length_nil] at this
          omega
        · exact h
      subst ha
      obtain ⟨ai, ci, d0, hrg⟩ := hcell i (by rw [List.length_map]; exact hlt)
      rw [List.getElem_map] at d0 hrg
      obtain ⟨hcl, hsz, hft⟩ := PART.out ps[i] (List.getElem_mem _)
      obtain ⟨f1, f2, f3⟩ := row_facts hcl hft
      have hz4 := ONE.out (zOf ps[i]) (List.mem_map_of_mem (List.getElem_mem _))
      have HSUM := hid (sumP_step hlt)
      rw [← hsz] at HSUM
      have HLAST := hid (lastS_succ hlt)
      rw [← f3] at HLAST
      obtain ⟨k0, hk0⟩ := hcl
      have hsb := sumP_bound (ps.take i) (fun p hp => by
        obtain ⟨⟨k, hk⟩, _⟩ := PART.out p (List.mem_of_mem_take hp)
        exact ⟨hk.le, hk.top⟩)
      rw [List.length_take] at hsb
      have HLESS := hid (show 0 < i → Op.bytesLess (strOfNums ((zOf ps[i]).map Prod.fst)).toList (lastS ps i).toList = false ∧ ((strOfNums ((zOf ps[i]).map Prod.fst)).toList == (lastS ps i).toList) = false from fun h0 => by
        obtain ⟨j, rfl⟩ : ∃ j, i = j + 1 := ⟨i - 1, by omega⟩
        obtain ⟨⟨kj, hkj⟩, _⟩ := PART.out ps[j] (List.getElem_mem _)
        have hlt' := List.pairwise_iff_getElem.1 UP.out j (j + 1) (by omega) hlt (by omega)
        rw [lastS_succ (by omega), f2]
        exact str_less (en8_up hlt' (by have := hk0.top; have := hk0.le; omega) _ _ rfl rfl) (en8_in _ hkj.okt) (en8_in _ hk0.okf))
      have hsm : 0 ≤ sumP (ps.take i) ∧ sumP (ps.take i) ≤ 1241245548544 := by omega
      have F1 := hid f1
      obtain ⟨z, hz⟩ : ∃ z, z = zOf ps[i] := ⟨_, rfl⟩
      rw [← hz] at d0 hrg F1 hz4 HSUM HLAST HLESS
      obtain ⟨SP, hSP⟩ : ∃ SP, SP = sumP (ps.take i) := ⟨_, rfl⟩
      obtain ⟨LS, hLS⟩ : ∃ LS, LS = lastS ps i := ⟨_, rfl⟩
      rw [← hSP] at HSUM hsm ⊢
      rw [← hLS] at HLESS ⊢
      have RG := hid hrg
      have hz41 := hz4.1
      have hz42 := hz4.2
      clear hcell hrg f1 f2 f3 hft hsz hk0 hsb hz hSP hLS hz4 R1
      go_wp2_with fail
      generalize wr = wo at *
      obtain ⟨g1, rfl⟩ : ∃ j, gk = j + 1 := ⟨gk - 1, by omega⟩
      go_loopg [9, 10, 11, 12] z.length (fun gj v9 v10 v11 v12 wq => ∃ k : Nat, k + gj = z.length ∧ v12 = .int .i64 (k : Nat) ∧ v11 = .int .i64 (szL (z.take k) 1) ∧ B2 wo wq v9 v10 ((z.take k).map Prod.fst) ((z.take k).map Prod.snd))
      case atStart => exact ⟨0, by omega, rfl, rfl, B2.nil _⟩
      case round =>
        obtain ⟨k, hk, rfl, rfl, hbb⟩ := hrel
        have BB := hid hbb
        have d0' : wr.cell? ⟨b, o + i, none⟩ = some (.slice ai z.length ci) := (hbb.touch.cell (p := ⟨b, o + i, none⟩) hbl id).trans d0
        have RGn := hid (RG.out.new hbb.touch)
        have tl1 : ((z.take k).map Prod.fst).length = k := by rw [List.length_map, List.length_take]; omega
        have tl2 : ((z.take k).map Prod.snd).length = k := by rw [List.length_map, List.length_take]; omega
        obtain ⟨A9, c9, hv9⟩ := own_shape hbb.own1
        obtain ⟨A10, c10, hv10⟩ := own_shape hbb.own2
        subst hv9 hv10
        rw [tl1, tl2] at BB ⊢
        clear hbb
        by_cases hkz : k < z.length
        · obtain ⟨b4, o4, ha4, hb4, hcell4⟩ : ∃ b o, ai = some ⟨b, o, none⟩ ∧ b < wr.heap.size ∧ ∀ i (h : i < z.length), wr.cell? ⟨b, o + i * 2, none⟩ = some (.int .i64 (z[i]).1) ∧ wr.cell? ⟨b, o + i * 2 + 1, none⟩ = some (.int .i64 (z[i]).2) := by
            rcases RGn.out with h | h
            · rw [h] at hkz; simp at hkz
            · exact h
          subst ha4
          obtain ⟨e0, e1⟩ := hcell4 k hkz
          have hkI : (k : Int) < (z.length : Int) := by omega
          obtain ⟨hx0, hxy, hy255⟩ := F1.out z[k] (List.getElem_mem _)
          have hS1 := szL_small (z := z.take k) (fun r hr => F1.out r (List.mem_of_mem_take hr)) (by rw [List.length_take]; omega)
          have hS2 := szL_small (z := z.take (k + 1)) (fun r hr => F1.out r (List.mem_of_mem_take hr)) (by rw [List.length_take]; omega)
          have hSS := szL_step hkz 1
          have HF1 := hid (show (z.take (k + 1)).map Prod.fst = (z.take k).map Prod.fst ++ [(z[k]).1] by rw [List.take_succ_eq_append_getElem hkz, List.map_append]; rfl)
          have HF2 := hid (show (z.take (k + 1)).map Prod.snd = (z.take k).map Prod.snd ++ [(z[k]).2] by rw [List.take_succ_eq_append_getElem hkz, List.map_append]; rfl)
          obtain ⟨r, hr⟩ : ∃ r, r = z[k] := ⟨_, rfl⟩
          rw [← hr] at e0 e1 hx0 hxy hy255 hSS HF1 HF2
          obtain ⟨x, y⟩ := r
          dsimp only at e0 e1 hx0 hxy hy255 hSS HF1 HF2
          obtain ⟨S1, hS1e⟩ : ∃ S1, S1 = szL (z.take k) 1 := ⟨_, rfl⟩
          obtain ⟨S2, hS2e⟩ : ∃ S2, S2 = szL (z.take (k + 1)) 1 := ⟨_, rfl⟩
          rw [← hS1e] at hS1 hSS ⊢
          rw [← hS2e] at hS2 hSS
          have HS2E := hid hS2e
          have hwm := wrap_mul hSS.symm hS2
          obtain ⟨O1, hO1⟩ : ∃ O1, O1 = (z.take k).map Prod.fst := ⟨_, rfl⟩
          obtain ⟨O2, hO2⟩ : ∃ O2, O2 = (z.take k).map Prod.snd := ⟨_, rfl⟩
          rw [← hO1] at BB HF1 tl1
          rw [← hO2] at BB HF2 tl2
          have w8x : IntKind.u8.wrap x = x := wrap8 x (by omega)
          have w8y : IntKind.u8.wrap y = y := wrap8 y (by omega)
          clear hcell4 hr hS1e hS2e hSS hO1 hO2
          have OL1 := hid (show ∀ g, (Value.slice A9 k c9).ownBlock = some g → g < wr.heap.size from fun g e => lt_of_block (own_block5 BB.out.own1 e).choose_spec)
          have OL2 := hid (show ∀ g, (Value.slice A10 k c10).ownBlock = some g → g < wr.heap.size from fun g e => lt_of_block (own_block5 BB.out.own2 e).choose_spec)
          have NE1 := hid (show (Value.slice A9 k c9).ownBlock ≠ some wr.heap.size from fun e => Nat.lt_irrefl _ (OL1.out _ e))
          have NE2 := hid (show (Value.slice A10 k c10).ownBlock ≠ some wr.heap.size from fun e => Nat.lt_irrefl _ (OL2.out _ e))
          have TA := hid ((Touch.refl (fun _ => False) wr).alloc (.cells #[.int .i64 x, .int .i64 y] 38))
          have B6 := hid (BB.out.still TA.out)
          have BLK := hid (block_new wr #[.int .i64 x, .int .i64 y] 38)
          go_upto_region 18 with fail
          generalize (wr.alloc (.cells #[.int .i64 x, .int .i64 y] 38)) = w6 at *
          obtain ⟨q, hq⟩ : ∃ q, q = wr.heap.size := ⟨_, rfl⟩
          rw [← hq] at NE1 NE2 OL1 OL2 BLK ⊢
          clear hq
          have q0 : w6.cell? ⟨q, 0, none⟩ = some (.int .i64 x) := by simp [World.cell?, BLK.out]
          have q1 : w6.cell? ⟨q, 1, none⟩ = some (.int .i64 y) := by simp [World.cell?, BLK.out]
          have QL := hid (lt_of_block BLK.out)
          go_cut [9, 10] (fun v9 v10 wd => B2 wo wd v9 v10 (O1 ++ [x]) (O2 ++ [y]) ∧ wd.cell? ⟨q, 0, none⟩ = some (.int .i64 x) ∧ wd.cell? ⟨q, 1, none⟩ = some (.int .i64 y))
          case first =>
            first
            | (go_region_held3 (fun w' => w'.cell? ⟨q, 0, none⟩ = some (.int .i64 x) ∧ w'.cell? ⟨q, 1, none⟩ = some (.int .i64 y) ∧ q < w'.heap.size)
                (first
                 | exact ⟨q0, q1, QL.out⟩
                 | exact K5.out
                 | exact K4.out
                 | (refine keepT QL.out q0 q1 ?_; (repeat (first | exact Touch.refl _ _ | refine Touch.alloc ?_ _ | refine Touch.drew ?_ | refine Touch.drewN ?_ _)); done)
                 | (refine keepT K4.out.2.2 K4.out.1 K4.out.2.1 ?_; (repeat (first | exact Touch.refl _ _ | refine Touch.alloc ?_ _ | refine Touch.drew ?_ | refine Touch.drewN ?_ _)); done))
                (first
                 | (refine step_append_own _ (by rfl) _ _ _ (by rfl) 0 5 i0 _ 1 1 Tryd.underlying23 hi5 hz0 hz1 hz2 rfl (by decide) (.slice A9 k c9) k (encB O1) (by rfl) (B6.out.own1k tl1 (by repeat (first | exact Touch.refl _ _ | refine Touch.alloc ?_ _ | refine Touch.drew ?_ | refine Touch.drewN ?_ _))) _ 1 1 [.int .u8 x] (by rfl) (by rfl) (news_far (by repeat (first | exact Touch.refl _ _ | refine Touch.alloc ?_ _ | refine Touch.drew ?_ | refine Touch.drewN ?_ _)) (by simp)) (by intro u hu; simp at hu; subst hu; rfl) (by unfold maxLen; omega) (by omega) (Nat.zero_le _) _ rfl ?_
                    intro v4 w4 hown hgrow hat
                    have B7 := hid (B6.out.app1k tl1 (by repeat (first | exact Touch.refl _ _ | refine Touch.alloc ?_ _ | refine Touch.drew ?_ | refine Touch.drewN ?_ _)) hown hgrow hat)
                    have K4 := hid (keepG QL.out q0 q1 (by repeat (first | exact Touch.refl _ _ | refine Touch.alloc ?_ _ | refine Touch.drew ?_ | refine Touch.drewN ?_ _)) hgrow NE1.out)
                    have L4 := hid (show Left _ _ w4 from fun n hn hne => hgrow.block n hn (fun e => hne e.symm))
                    have Z4 := hid hgrow.size
                    clear hown hat hgrow)
                 | (refine step_append_own _ (by rfl) _ _ _ (by rfl) 0 5 i0 _ 1 1 Tryd.underlying23 hi5 hz0 hz1 hz2 rfl (by decide) (.slice A10 k c10) k (encB O2) (by rfl) (B7.out.own2k tl2 (by repeat (first | exact Touch.refl _ _ | refine Touch.alloc ?_ _ | refine Touch.drew ?_ | refine Touch.drewN ?_ _))) _ 1 1 [.int .u8 y] (by rfl) (by rfl) (by first | exact news_far (by repeat (first | exact Touch.refl _ _ | refine Touch.alloc ?_ _ | refine Touch.drew ?_ | refine Touch.drewN ?_ _)) (by simp) | exact news_old L4.out OL1.out (by repeat (first | exact Touch.refl _ _ | refine Touch.alloc ?_ _ | refine Touch.drew ?_ | refine Touch.drewN ?_ _)) (by simp) (by have := QL.out; first | omega | (simp; omega)) (by repeat (first | exact Touch.refl _ _ | refine Touch.alloc ?_ _ | refine Touch.drew ?_ | refine Touch.drewN ?_ _)) Z4.out | fail) (by intro u hu; simp at hu; subst hu; rfl) (by unfold maxLen; omega) (by omega) (Nat.zero_le _) _ rfl ?_
                    intro v5 w5 hown hgrow hat
                    have B8 := hid (B7.out.app2k tl2 (by repeat (first | exact Touch.refl _ _ | refine Touch.alloc ?_ _ | refine Touch.drew ?_ | refine Touch.drewN ?_ _)) hown hgrow hat)
                    have K5 := hid (keepG K4.out.2.2 K4.out.1 K4.out.2.1 (by repeat (first | exact Touch.refl _ _ | refine Touch.alloc ?_ _ | refine Touch.drew ?_ | refine Touch.drewN ?_ _)) hgrow NE2.out)
                    clear hown hat hgrow)))
            | fail
            all_goals go_wp2
            all_goals go_meet
            all_goals exact ⟨B8.out, K5.out.1, K5.out.2.1⟩
          obtain ⟨hB8, c0', c1'⟩ := hcut
          have B9 := hid hB8
          obtain ⟨A19, c19, hv19⟩ := own_shape hB8.own1
          obtain ⟨A20, c20, hv20⟩ := own_shape hB8.own2
          subst hv19 hv20
          clear hB8 q0 q1 QL BLK NE1 NE2 OL1 OL2 B6 TA BB
          go_wp2
          go_roundg (gk - 1)
          case measure => omega
          case rel => exact ⟨k + 1, by omega, by go_num, by rw [← HS2E.out], by rw [HF1.out, HF2.out]; exact B9.out⟩

        · obtain rfl : k = z.length := by omega
          rw [List.take_length] at BB ⊢
          have hcv1 := conv_own (w := wr) (by have := BB.out.own1; exact this)
          have hcv2 := conv_own (w := wr) (by have := BB.out.own2; exact this)
          have T5 := hid (TC.out.trans BB.out.touch (fun _ _ e => e))
          have hszb := szL_small (z := z) F1.out (by omega)
          obtain ⟨SZ, hSZ⟩ : ∃ SZ, SZ = szL z 1 := ⟨_, rfl⟩
          rw [← hSZ] at hszb HSUM ⊢
          have HLS2 := hid (show lastS ps (i + 1) = strOfNums (z.map Prod.snd) from HLAST.out)
          generalize strOfNums (z.map Prod.fst) = sa at *
          generalize strOfNums (z.map Prod.snd) = sb at *
          clear HLAST hSZ F1
          by_cases hi0 : 0 < i
          · obtain ⟨hq1, hq2⟩ := HLESS.out hi0
            have hi0I : (0 : Int) < (i : Int) := by omega
            have hlq := run_leq_no (w := wr) hq1 hq2
            clear HLESS hq1 hq2
            go_wp2
            go_roundg g1
            case measure => omega
            case rel => exact ⟨i + 1, by omega, by go_num, by rw [HSUM.out], by rw [HLS2.out], T5.out⟩
          · have hi0I : ¬ ((0 : Int) < (i : Int)) := by omega
            clear HLESS hi0
            go_wp2
            go_roundg g1
            case measure => omega
            case rel => exact ⟨i + 1, by omega, by go_num, by rw [HSUM.out], by rw [HLS2.out], T5.out⟩
    · obtain rfl : i = ps.length := by omega
      rw [List.take_length]
      have T4 := hid (T3.out.trans TC.out (fun _ _ e => e))
      have hsm := sumP_bound ps (fun p hp => by
        obtain ⟨⟨k, hk⟩, _⟩ := PART.out p hp
        exact ⟨hk.le, hk.top⟩)
      have RG := hid (lit_rg wr 55296 57343)
      have TB := hid ((Touch.refl (fun _ => False) wr).alloc (.cells #[.int .i64 55296, .int .i64 57343] 38))
      obtain ⟨SP, hSP⟩ : ∃ SP, SP = sumP ps := ⟨_, rfl⟩
      have HSP := hid hSP
      rw [← hSP]
      clear hSP hsm
      obtain ⟨LS, hLS⟩ : ∃ LS, LS = lastS ps ps.length := ⟨_, rfl⟩
      rw [← hLS]
      clear hLS
      go_wp2_with fail
      change Calls Tryd.prog 16 #[_] (wr.alloc (.cells #[.int .i64 55296, .int .i64 57343] 38)) _
      generalize hw2 : (wr.alloc (.cells #[.int .i64 55296, .int .i64 57343] 38)) = w5 at *
      clear hw2
      refine (S.of_says (some ⟨wr.heap.size, 0, none⟩) 1 [(55296, 57343)] w5 RG.out (by simp)).mono ?_
      rintro e w6 ⟨v, s3, rfl, hcs3, his3, ows⟩
      obtain rfl : s3 = surL := sur_set hcs3 his3
      obtain ⟨a6, c6, hv, hrs6⟩ := S.own_rg ows.own
      subst hv
      have T6 := hid (TB.out.trans ows.touch (fun _ _ e => e))
      have KL := hid (S.less_says a2 a6 c2 c6 set surL w6 (RS4.out.new T6.out) hrs6 HCAP.out CS.out hcs3)
      clear hcs3 his3 ows hrs6 RG TB
      go_wp2_with fail
      refine KL.out.mono ?_
      rintro e w7 ⟨v, m, rfl, hcm, him, owm⟩
      obtain ⟨a7, c7, hv, hrm⟩ := owm.rg
      subst hv
      have T7 := hid (T6.out.trans owm.touch (fun _ _ e => e))
      have KZ := hid (S.size_says a7 c7 m w7 hrm hcm)
      have HEQ := hid (SUM.out m hcm him)
      rw [← HEQ.out, ← HSP.out] at KZ
      clear hcm him owm hrm KL T6
      go_wp2_with fail
      refine KZ.out.mono ?_
      rintro e w8 ⟨rfl, t8⟩
      have T8 := hid (T4.out.trans (T7.out.trans t8 (fun _ _ e => e)) (fun _ _ e => e))
      clear t8 KZ
      go_wp2
      go_ret
      exact ⟨by simp, T8.out⟩
end Go.Proofs.YtmokfheckngfiaaDoor
