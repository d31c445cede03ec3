/- Texts of this proof, one behind the other: what each says stands ahead of it. -/
import Derived.Test.YtjpmjcadnnglnaaDoorM16
import Derived.Test.YtjpmjcadnnglnaaDoorM5
import Derived.Test.YtjpmjcadnnglnaaDoorM10
/- The document's Decode of every text by every coding; conditions: the text is not too long. -/
namespace Go.Proofs.YtjpmjcadnnglnaaDoor
open Go.RowKit

theorem results_ctt {P : Program} {fn : Func} {p q r : Tmp} {ty : TypeId} (h : fn.results = #[.cell p ty, .tmp q, .tmp r]) (tmps : Array Value) (w : World) (g : Nat) (et : TypeId) (cs : Array Value) (fr : Nat × Nat) (d : TypeDesc)
    (hp : tmps.getD p undef = .pointer (some ⟨g, 0, none⟩)) (hg : w.heap[g]? = some (.cells cs et fr))
    (hu : P.underlying ty = some d) (hd : (match d with | .struct _ | .array _ _ => true | _ => false) = true) (hi : (P.info? ty).map (·.size) = some cs.size) :
    (results fn tmps).run P w = .ok (.tuple #[.agg cs, tmps.getD q undef, tmps.getD r undef]) w := by
  have hp' : tmps[p]?.getD undef = .pointer (some ⟨g, 0, none⟩) := by simpa using hp
  simp [results, h, hp', asAddr, run_loadVar_row w g et ty cs fr d hg hu hd hi]
theorem bg_alt (s : ByteArray) (c : Nat) : (bg s c).2 = if begB s (mk (bg s c).1) then (mk (bg s c).1).size else 0 := by
  unfold bg
  split
  · unfold sn
    split
    · simp
    · rename_i h1
      unfold sn
      split
      · simp
      · unfold sn
        split
        · simp
        · unfold sn; simp [h1]
  · split
    · simp
    · simp
theorem tkGo_neg (s : ByteArray) (m : Nat) : ∀ (k i sc lo hi : Nat), (tkGo s m k i sc lo hi).1 = -1 ∨ 0 ≤ (tkGo s m k i sc lo hi).1
  | 0, i, sc, lo, hi => by
    unfold tkGo
    dsimp only
    omega
  | k + 1, i, sc, lo, hi => by
    unfold tkGo
    split
    · exact .inl rfl
    · exact tkGo_neg s m k (i + 1) _ _ _
theorem tkAt_neg (s : ByteArray) (c i : Nat) : (tkAt s c i).1 = -1 ∨ 0 ≤ (tkAt s c i).1 := by
  have h16 : ∀ U : Nat → Int, (∀ j, -1 ≤ U j ∧ U j ≤ 65535) → (tk16 U i).1 = -1 ∨ 0 ≤ (tk16 U i).1 := fun U hU => by
    have := hU i
    have := hU (i + 2)
    unfold tk16
    split
    · exact .inl rfl
    · split
      · dsimp only; omega
      · split
        · exact .inl rfl
        · dsimp only; omega
  unfold tkAt
  split
  · exact h16 _ (unitL_in s)
  · split
    · exact h16 _ (unitB_in s)
    · split
      · exact .inr (by dsimp only; omega)
      · unfold tk8
        split
        · exact .inl rfl
        · exact tkGo_neg _ _ _ _ _ _ _
def zeroR : Array Value := #[.int .i64 0, .int .i64 0, .slice none 0 0, .slice none 0 0]
structure RDecBad (w : World) (er i : Nat) (e : Ending) (w' : World) : Prop where
  ret : e = .returned (.tuple #[.agg zeroR, .int .i64 er, .int .i64 i])
  touch : Touch (fun _ => False) w w'
structure RDecGood (w : World) (c : Nat) (rs ps : List Int) (bad : Nat) (e : Ending) (w' : World) : Prop where
  ex : ∃ v1 v2, e = .returned (.tuple #[.agg #[.int .i64 c, .int .i64 bad, v1, v2], .int .i64 0, .int .i64 0]) ∧ OwI w w' v1 rs ∧ OwI w w' v2 ps
def RDecOk (w : World) (s : ByteArray) (c : Nat) (R : Option Nat × List Int × List Int × Nat) (e : Ending) (w' : World) : Prop :=
  (∃ i, R.1 = some i ∧ RDecBad w 17 i e w') ∨ (R.1 = none ∧ RDecGood w c R.2.1 (R.2.2.1 ++ [(s.size : Int)]) R.2.2.2 e w')
theorem four_touch {w0 w : World} {g : Nat} (h : Touch (fun _ => False) w0 w) (hg : w0.heap.size ≤ g) (b0 b1 b2 b3 : Value) :
    Touch (fun _ => False) w0 ((((w.setCell ⟨g, 0, none⟩ b0).setCell ⟨g, 1, none⟩ b1).setCell ⟨g, 2, none⟩ b2).setCell ⟨g, 3, none⟩ b3) :=
  have n0 : g < w0.heap.size → False := fun k => absurd k (Nat.not_lt.2 hg)
  (((h.setCell (p := ⟨g, 0, none⟩) n0 b0).setCell (p := ⟨g, 1, none⟩) n0 b1).setCell (p := ⟨g, 2, none⟩) n0 b2).setCell (p := ⟨g, 3, none⟩) n0 b3
theorem four_cells {w : World} {g : Nat} {t : TypeId} {a0 a1 a2 a3 : Value} (h : w.heap[g]? = some (.cells #[a0, a1, a2, a3] t (0, 0))) : (w.cell? ⟨g, 0, none⟩ = some a0 ∧ w.cell? ⟨g, 1, none⟩ = some a1 ∧ w.cell? ⟨g, 2, none⟩ = some a2 ∧ w.cell? ⟨g, 3, none⟩ = some a3) ∧ ∀ i, w.frozen? ⟨g, i, none⟩ = false := by
  simp [World.cell?, World.frozen?, h]
theorem L2.out4 {w w5 wz : World} {x q : Nat} {cs : Array Value} {v1 v2 : Value} {rs ps : List Int} (h : L2 w5 wz x 66 cs v1 v2 rs ps) (t : Touch (fun _ => False) w w5) (hx : w.heap.size ≤ x) (hq : w.heap.size ≤ q) (hq5 : q < w5.heap.size) (b0 b1 b2 b3 : Value) :
    OwI w ((((wz.setCell ⟨q, 0, none⟩ b0).setCell ⟨q, 1, none⟩ b1).setCell ⟨q, 2, none⟩ b2).setCell ⟨q, 3, none⟩ b3) v1 rs ∧
    OwI w ((((wz.setCell ⟨q, 0, none⟩ b0).setCell ⟨q, 1, none⟩ b1).setCell ⟨q, 2, none⟩ b2).setCell ⟨q, 3, none⟩ b3) v2 ps := by
  have tz : Touch (fun _ => False) w wz := t.trans h.touch (fun i hi e => by omega)
  have tf := four_touch tz hq b0 b1 b2 b3
  have ot : ∀ k, k ≠ q → ((((wz.setCell ⟨q, 0, none⟩ b0).setCell ⟨q, 1, none⟩ b1).setCell ⟨q, 2, none⟩ b2).setCell ⟨q, 3, none⟩ b3).heap[k]? = wz.heap[k]? := fun k hk => by
    rw [set_other _ hk, set_other _ hk, set_other _ hk, set_other _ hk]
  refine ⟨⟨own_kept h.o1 (fun g hg => ?_), fun g hg => Nat.le_trans t.size (h.n1 g hg), tf⟩, ⟨own_kept h.o2 (fun g hg => ?_), fun g hg => Nat.le_trans t.size (h.n2 g hg), tf⟩⟩
  · have := h.n1 g hg
    exact ot g (by omega)
  · have := h.n2 g hg
    exact ot g (by omega)

set_option maxRecDepth 100000 in
set_option maxHeartbeats 4000000 in
theorem rdecode_out (s : ByteArray) (c : Int) (strict : Bool) (w : World) (h : c < 0 ∨ (0 ≤ c ∧ 4 < c)) : Calls Tryd.prog 17 #[.string s, .int .i64 c, .bool strict] w fun e w' => RDecBad w 1 0 e w' := by
  have B := hid (block_new w #[.int .i64 0, .int .i64 0, .slice none 0 0, .slice none 0 0] 66)
  have T := hid ((Touch.refl (fun _ => False) w).alloc (.cells #[.int .i64 0, .int .i64 0, .slice none 0 0, .slice none 0 0] 66))
  go_enter Tryd.func17, Tryd.ntmps17
  go_upto_region 1 with fail
  generalize (w.alloc (.cells #[.int .i64 0, .int .i64 0, .slice none 0 0, .slice none 0 0] 66)) = w1 at *
  obtain ⟨q, hq⟩ : ∃ q, q = w.heap.size := ⟨_, rfl⟩
  have HQ := hid (show w.heap.size ≤ q by omega)
  rw [← hq] at B ⊢
  clear hq
  obtain ⟨⟨c0, c1, c2, c3⟩, f0⟩ := four_cells B.out
  rcases h with h | ⟨h0, h⟩
  all_goals
    go_wp2
    refine bodyPost_ret (results_ctt rfl _ _ q 66 _ (0, 0) _ rfl (four_set B.out _ _ _ _) Tryd.underlying66 rfl (by kernel_rfl)) rfl ?_
    exact ⟨rfl, four_touch T.out HQ.out _ _ _ _⟩

set_option maxRecDepth 100000 in
set_option maxHeartbeats 16000000 in
theorem rdecode_any (s : ByteArray) (c : Nat) (strict : Bool) (w : World) (hs : s.size ≤ 1099511627776) (hc : c ≤ 4) :
    Calls Tryd.prog 17 #[.string s, .int .i64 c, .bool strict] w fun e w' => RDecOk w s (bg s c).1 (dcGo s (bg s c).1 strict s.size (bg s c).2 [] [] 0) e w' := by
  obtain ⟨i0, hi3, hz0, hz1, hz2⟩ := info_parts info3i
  have B := hid (block_new w #[.int .i64 0, .int .i64 0, .slice none 0 0, .slice none 0 0] 66)
  have T := hid ((Touch.refl (fun _ => False) w).alloc (.cells #[.int .i64 0, .int .i64 0, .slice none 0 0, .slice none 0 0] 66))
  have hbg := bg_in s c hc
  go_enter Tryd.func17, Tryd.ntmps17
  go_upto_region 1 with fail
  generalize (w.alloc (.cells #[.int .i64 0, .int .i64 0, .slice none 0 0, .slice none 0 0] 66)) = w1 at *
  obtain ⟨q, hq⟩ : ∃ q, q = w.heap.size := ⟨_, rfl⟩
  have HQ := hid (show w.heap.size ≤ q by omega)
  rw [← hq] at B ⊢
  clear hq
  have hcI : (c : Int) ≤ 4 := by omega
  obtain ⟨c', hc'⟩ : ∃ c', c' = (bg s c).1 := ⟨_, rfl⟩
  obtain ⟨at0, hat0⟩ : ∃ a, a = (bg s c).2 := ⟨_, rfl⟩
  have HALT := hid (bg_alt s c)
  rw [← hc', ← hat0] at hbg HALT
  have HC := hid hc'
  have HAT := hid hat0
  clear hc' hat0
  go_upto_if 22 with fail
  go_cut [1] (fun v wd => v = .int .i64 (c' : Nat) ∧ Touch (fun _ => False) w1 wd)
  case first =>
    by_cases h0 : c = 0
    · subst h0
      have HSN := hid (show (sn s 3 1).1 = c' by rw [HC.out]; rfl)
      go_wp2_with fail
      go_loopg [1, 9] 3 (fun gk v1 v9 wq => ∃ k : Nat, k + gk = 4 ∧ 1 ≤ k ∧ v1 = .int .i64 1 ∧ v9 = .int .i64 (k : Nat) ∧ (sn s gk k).1 = c' ∧ Touch (fun _ => False) w1 wq)
      case atStart => exact ⟨1, rfl, Nat.le_refl _, rfl, rfl, HSN.out, Touch.refl _ _⟩
      case round =>
        obtain ⟨k, hk, hk1, rfl, rfl, hsn, htc⟩ := hrel
        have HS := hid hsn
        have TC := hid htc
        clear hsn htc HSN
        by_cases hlt : k < 4
        · obtain ⟨gk, rfl⟩ : ∃ f, gk = f + 1 := ⟨gk - 1, by omega⟩
          have HST := hid (show (if begB s (mk k) then (k, (mk k).size) else sn s gk (k + 1)).1 = c' from HS.out)
          have hltI : (k : Int) < 4 := by omega
          clear HS
          have KM := hid (mark_any k ⟨hk1, by omega⟩ wr)
          go_wp2_with fail
          refine KM.out.mono ?_
          rintro e w3 ⟨rfl, tc⟩
          replace TC := hid (TC.out.trans tc (fun _ _ e => e))
          have KG := hid (begins_any s (mk k) w3)
          obtain ⟨X, hX⟩ : ∃ X, begB s (mk k) = X := ⟨_, rfl⟩
          rw [hX] at KG HST
          clear tc KM hX
          cases X
          · have HN := hid (show (sn s gk (k + 1)).1 = c' from HST.out)
            go_wp2_with fail
            refine KG.out.mono ?_
            rintro e w4 ⟨rfl, rfl⟩
            go_wp2
            go_roundg gk
            case measure => omega
            case rel => exact ⟨k + 1, by omega, by omega, rfl, by go_num, HN.out, TC.out⟩
          · have HN := hid (show k = c' from HST.out)
            go_wp2_with fail
            refine KG.out.mono ?_
            rintro e w4 ⟨rfl, rfl⟩
            go_wp2
            go_meet
            case rel => exact ⟨by rw [HN.out], TC.out⟩
        · obtain rfl : gk = 0 := by omega
          have HN := hid (show 1 = c' from HS.out)
          have hltI : ¬ ((k : Int) < 4) := by omega
          go_wp2
          go_meet
          case rel => exact ⟨by rw [← HN.out]; rfl, TC.out⟩
    · have HN := hid (show c = c' by rw [HC.out]; unfold bg; rw [if_neg h0]; split <;> rfl)
      have hcd : decide ((c : Int) = 0) = false := decide_eq_false (by omega)
      have hcd2 : ((c : Int) == 0) = false := by rw [beq_eq_false_iff_ne]; omega
      go_wp2
      go_meet
      case rel => exact ⟨by rw [HN.out], Touch.refl _ _⟩
  obtain ⟨rfl, tc⟩ := hcut
  replace T := hid (T.out.trans tc (fun _ _ e => e))
  replace B := hid ((tc.block q (lt_of_block B.out) id).trans B.out)
  clear tc
  have BX := hid (block_new wc #[.int .i64 c', .int .i64 0, .slice none 0 0, .slice none 0 0] 66)
  have TX := hid ((Touch.refl (fun _ => False) wc).alloc (.cells #[.int .i64 c', .int .i64 0, .slice none 0 0, .slice none 0 0] 66))
  have HXS := hid (show wc.heap.size < (wc.alloc (.cells #[.int .i64 c', .int .i64 0, .slice none 0 0, .slice none 0 0] 66)).heap.size by simp)
  have HBX := hid (show q < wc.heap.size from lt_of_block B.out)
  go_upto_region 11 with fail
  generalize (wc.alloc (.cells #[.int .i64 c', .int .i64 0, .slice none 0 0, .slice none 0 0] 66)) = w4 at *
  obtain ⟨x, hx⟩ : ∃ x, x = wc.heap.size := ⟨_, rfl⟩
  rw [← hx] at BX HXS HBX ⊢
  have HWX := hid (show w.heap.size ≤ x by have := T.out.size; omega)
  clear hx
  have T4 := hid (T.out.trans TX.out (fun _ _ e => e))
  have B4 := hid ((TX.out.block q (lt_of_block B.out) id).trans B.out)
  clear T TX B
  have hcb : 1 ≤ c' ∧ c' ≤ 4 := ⟨hbg.1, hbg.2.1⟩
  have KM := hid (mark_any c' hcb w4)
  go_upto_if 37 with fail
  refine KM.out.mono ?_
  rintro e w5 ⟨rfl, tc⟩
  have KG := hid (begins_any s (mk c') w5)
  obtain ⟨X, hX⟩ : ∃ X, begB s (mk c') = X := ⟨_, rfl⟩
  rw [hX] at KG HALT
  have TC := hid tc
  clear KM hX tc
  go_upto_if 37 with fail
  refine KG.out.mono ?_
  rintro e w6 ⟨rfl, rfl⟩
  clear KG
  go_upto_if 37 with fail
  go_cut [11] (fun v wd => v = .int .i64 (at0 : Nat) ∧ Touch (fun _ => False) w4 wd)
  case first =>
    cases X
    · have HA := hid (show at0 = 0 from HALT.out)
      go_wp2
      go_meet
      case rel => exact ⟨by rw [HA.out]; rfl, TC.out⟩
    · have HA := hid (show at0 = (mk c').size from HALT.out)
      have KM2 := hid (mark_any c' hcb w5)
      go_wp2_with fail
      refine KM2.out.mono ?_
      rintro e w7 ⟨rfl, tc2⟩
      go_wp2
      go_meet
      case rel => exact ⟨by rw [HA.out], TC.out.trans tc2 (fun _ _ e => e)⟩
  obtain ⟨rfl, tc⟩ := hcut
  clear TC
  obtain ⟨wb, hwb⟩ : ∃ wb, wb = wc := ⟨_, rfl⟩
  subst hwb
  have T5 := hid (T4.out.trans tc (fun _ _ e => e))
  have B5 := hid ((tc.block q (lt_of_block B4.out) id).trans B4.out)
  have BX5 := hid ((tc.block x (lt_of_block BX.out) id).trans BX.out)
  obtain ⟨R, hR⟩ : ∃ R, dcGo s c' strict s.size at0 [] [] 0 = R := ⟨_, rfl⟩
  have HR := hid hR
  have HRR := hid (show dcGo s (bg s c).1 strict s.size (bg s c).2 [] [] 0 = R by rw [← HC.out, ← HAT.out]; exact hR)
  clear tc T4 B4 BX hR HXS HALT
  go_wp2_with fail
  go_loopg [11] s.size (fun gk v wq => ∃ (i : Nat) (rs ps : List Int) (bad : Nat) (v1 v2 : Value), v = .int .i64 (i : Nat) ∧ i ≤ s.size + 4 ∧ s.size ≤ i + gk ∧ rs.length + gk = s.size ∧ ps.length = rs.length ∧ bad ≤ rs.length ∧ dcGo s c' strict gk i rs ps bad = R ∧ L2 wb wq x 66 #[.int .i64 c', .int .i64 bad, v1, v2] v1 v2 rs ps)
  case atStart => exact ⟨at0, [], [], 0, _, _, rfl, by omega, by omega, by simp, rfl, Nat.le_refl _, HR.out, L2.nil wb x 66 _ BX5.out⟩
  case round =>
    obtain ⟨i, rs, ps, bad, v1, v2, rfl, hi4, hig, hrl, hpl, hbl, hdc, hl2⟩ := hrel
    have HD := hid hdc
    have L := hid hl2
    obtain ⟨a1, k1, hv1⟩ := own_shape hl2.o1
    obtain ⟨a2, k2, hv2⟩ := own_shape hl2.o2
    subst hv1
    subst hv2
    have HPL := hid hpl
    have hpb : ps.length ≤ s.size := by omega
    clear hdc hl2 HR hpl
    by_cases hlt : i < s.size
    · obtain ⟨gk, rfl⟩ : ∃ k, gk = k + 1 := ⟨gk - 1, by omega⟩
      have HD2 := hid (HD.out)
      rw [dc_step hlt] at HD2
      have hsz := tkAt_size s c' i
      have hyy := tkAt_neg s c' i
      have KC := hid (docOne_any s i c' wr hcb hlt hs)
      obtain ⟨y, hy⟩ : ∃ y, y = (tkAt s c' i).1 := ⟨_, rfl⟩
      obtain ⟨n, hn⟩ : ∃ n, n = (tkAt s c' i).2 := ⟨_, rfl⟩
      rw [← hy, ← hn] at HD2 KC
      rw [← hn] at hsz
      rw [← hy] at hyy
      have hltI : (i : Int) < (s.size : Int) := by omega
      clear HD hy hn
      go_wp2_with fail
      refine KC.out.mono ?_
      rintro e w6 ⟨rfl, tc⟩
      have L6 := hid (L.out.still tc)
      clear tc KC L
      obtain ⟨Z, hZ⟩ : ∃ Z, Z = (decide (y < 0) && strict) := ⟨_, rfl⟩
      have HZ := hid hZ
      clear hZ
      go_upto_region 16 with fail
      go_cut [56] (fun v wd => v = .bool Z ∧ w6 = wd)
      case first =>
        rcases hyy with hy | hy
        · subst hy
          go_wp2
          go_meet
          case rel => exact ⟨by rw [HZ.out]; rfl, rfl⟩
        · have hyn : ¬ (y < 0) := by omega
          go_wp2
          go_meet
          case rel => exact ⟨by rw [HZ.out, decide_eq_false (show ¬ (y < 0) by omega)]; rfl, rfl⟩
      obtain ⟨rfl, rfl⟩ := hcut
      go_upto_if 56 with fail
      go_cut [12] (fun v wd => v = .int .i64 y ∧ (y = -1 → strict = false) ∧ L2 wb wd x 66 #[.int .i64 c', .int .i64 bad, .slice a1 rs.length k1, .slice a2 ps.length k2] (.slice a1 rs.length k1) (.slice a2 ps.length k2) rs ps)
      case first =>
        cases Z
        · go_wp2
          go_meet
          case rel => exact ⟨rfl, fun h => by have := HZ.out; subst h; simpa using this, L6.out⟩
        · have hyz : y = -1 := by have := HZ.out; simp at this; omega
          have hst : strict = true := by have := HZ.out; simp at this; exact this.2
          subst hst
          rw [if_pos hyz] at HD2
          have HRE := hid (show (some i, [], [], 0) = R from HD2.out)
          have B6 := hid ((L6.out.touch.block q (lt_of_block B5.out) (by have := HBX.out; omega)).trans B5.out)
          have T6 := hid (T5.out.trans L6.out.touch (fun k hk e => by have := HWX.out; omega))
          obtain ⟨⟨z0, z1, z2, z3⟩, f0⟩ := four_cells B6.out
          go_wp2
          refine bodyPost_ret (results_ctt rfl _ _ q 66 _ (0, 0) _ rfl (four_set B6.out _ _ _ _) Tryd.underlying66 rfl (by kernel_rfl)) rfl ?_
          exact .inl ⟨i, by rw [HRR.out, ← HRE.out], rfl, four_touch T6.out HQ.out _ _ _ _⟩
      obtain ⟨rfl, hnb, hl6⟩ := hcut
      replace L6 := hid hl6
      have HNB := hid hnb
      clear hl6 hnb
      go_upto_if 60 with fail
      go_cut [12] (fun v wd => ∃ (y' : Int) (bad' : Nat), v = .int .i64 y' ∧ bad' ≤ rs.length + 1 ∧ dcGo s c' strict gk (i + n) (rs ++ [y']) (ps ++ [(i : Int)]) bad' = R ∧ L2 wb wd x 66 #[.int .i64 c', .int .i64 bad', .slice a1 rs.length k1, .slice a2 ps.length k2] (.slice a1 rs.length k1) (.slice a2 ps.length k2) rs ps)
      case first =>
        rcases hyy with hy | hy
        · subst hy
          have hst := HNB.out rfl
          subst hst
          rw [if_pos rfl] at HD2
          have HD3 := hid (show dcGo s c' false gk (i + n) (rs ++ [65533]) (ps ++ [(i : Int)]) (bad + 1) = R from HD2.out)
          obtain ⟨⟨_, z1, _, _⟩, zf⟩ := L6.out.cells
          go_wp2
          go_meet
          case rel => exact ⟨65533, bad + 1, rfl, by omega, HD3.out, L6.out.set (by decide) 1 _⟩
        · rw [if_neg (show ¬ y = -1 by omega)] at HD2
          have hyn : ¬ (y < 0) := by omega
          go_wp2
          go_meet
          case rel => exact ⟨y, bad, rfl, by omega, HD2.out, L6.out⟩
      obtain ⟨y', bad', rfl, hbad, hdc, hl2⟩ := hcut
      have HDC := hid hdc
      have L7 := hid hl2
      obtain ⟨⟨_, _, z2, _⟩, zf⟩ := hl2.cells
      clear hdc hl2 HD2 L6 HNB hyy
      go_wp2_with (at_builtin; (refine wpList_append_own_at _ rfl _ _ 51 rfl 0 3 i0 (.int .i64 0) 1 8 Tryd.underlying51 hi3 hz0 hz1 hz2 rfl (by decide) _ _ _ rfl (L7.out.o1.alloc _) ⟨wc.heap.size, 0, none⟩ 1 1 [.int .i64 y'] rfl rfl (row_new wc [.int .i64 y'] 3) (by intro u hu; simp at hu; subst hu; rfl) (by unfold maxLen; omega) (by omega) (Nat.zero_le _) ?_))
      intro v1' w8 hown hgrow _ hat
      have L8 := hid (L7.out.app1 (by decide) hown hgrow hat)
      obtain ⟨b1, j1, hv1⟩ := own_shape hown
      subst hv1
      clear hown hgrow hat L7 z2 zf
      obtain ⟨⟨_, _, z2, _⟩, zf⟩ := L8.out.cells
      have L9 := hid (L8.out.set (by decide) 2 (.slice b1 (rs.length + 1) j1))
      go_upto_region 22 with fail
      generalize w8.setCell ⟨x, 2, none⟩ (.slice b1 (rs.length + 1) j1) = w9 at *
      clear L8 z2 zf
      have L9' := hid (show L2 wb w9 x 66 #[.int .i64 c', .int .i64 bad', .slice b1 (rs.length + 1) j1, .slice a2 ps.length k2] (.slice b1 (rs.length + 1) j1) (.slice a2 ps.length k2) (rs ++ [y']) ps from L9.out)
      clear L9
      obtain ⟨⟨_, _, _, z3⟩, zf⟩ := L9'.out.cells
      go_wp2_with (at_builtin; refine wpList_append_own_at _ rfl _ _ 51 rfl 0 3 i0 (.int .i64 0) 1 8 Tryd.underlying51 hi3 hz0 hz1 hz2 rfl (by decide) _ _ _ rfl (L9'.out.o2.alloc _) ⟨w9.heap.size, 0, none⟩ 1 1 [.int .i64 i] rfl rfl (row_new w9 [.int .i64 i] 3) (by intro u hu; simp at hu; subst hu; rfl) (by unfold maxLen; omega) (by omega) (Nat.zero_le _) ?_)
      intro v2' w10 hown hgrow _ hat
      have L10 := hid (L9'.out.app2 (by decide) hown hgrow hat)
      obtain ⟨b2, j2, hv2⟩ := own_shape hown
      subst hv2
      clear hown hgrow hat L9' z3 zf
      obtain ⟨⟨_, _, _, z3⟩, zf⟩ := L10.out.cells
      have L11 := hid (L10.out.set (by decide) 3 (.slice b2 (ps.length + 1) j2))
      go_upto_region 23 with fail
      generalize w10.setCell ⟨x, 3, none⟩ (.slice b2 (ps.length + 1) j2) = w11 at *
      clear L10 z3 zf
      have L12 := hid (show L2 wb w11 x 66 #[.int .i64 c', .int .i64 bad', .slice b1 (rs.length + 1) j1, .slice b2 (ps.length + 1) j2] (.slice b1 (rs.length + 1) j1) (.slice b2 (ps.length + 1) j2) (rs ++ [y']) (ps ++ [(i : Int)]) from L11.out)
      clear L11
      go_wp2
      go_roundg gk
      case measure => omega
      case rel => exact ⟨i + n, rs ++ [y'], ps ++ [(i : Int)], bad', _, _, by go_num, by omega, by omega, by rw [List.length_append, List.length_singleton]; omega, by rw [List.length_append, List.length_append, List.length_singleton, HPL.out]; rfl, by rw [List.length_append, List.length_singleton]; omega, HDC.out, L12.out⟩
    · have HRE := hid (show (none, rs, ps, bad) = R by rw [← HD.out, dc_end (by omega)])
      have hltI : ¬ ((i : Int) < (s.size : Int)) := by omega
      obtain ⟨⟨_, _, _, z3⟩, zf⟩ := L.out.cells
      clear HD
      go_wp2_with (at_builtin; refine wpList_append_own_at _ rfl _ _ 51 rfl 0 3 i0 (.int .i64 0) 1 8 Tryd.underlying51 hi3 hz0 hz1 hz2 rfl (by decide) _ _ _ rfl (L.out.o2.alloc _) ⟨wr.heap.size, 0, none⟩ 1 1 [.int .i64 (s.size : Nat)] rfl rfl (row_new wr [.int .i64 (s.size : Nat)] 3) (by intro u hu; simp at hu; subst hu; rfl) (by unfold maxLen; omega) (by omega) (Nat.zero_le _) ?_)
      intro v2' w10 hown hgrow _ hat
      have L10 := hid (L.out.app2 (by decide) hown hgrow hat)
      obtain ⟨b2, j2, hv2⟩ := own_shape hown
      subst hv2
      clear hown hgrow hat L z3 zf
      obtain ⟨⟨_, _, _, z3⟩, zf⟩ := L10.out.cells
      have L11 := hid (L10.out.set (by decide) 3 (.slice b2 (ps.length + 1) j2))
      go_upto_region 25 with fail
      generalize w10.setCell ⟨x, 3, none⟩ (.slice b2 (ps.length + 1) j2) = w11 at *
      clear L10 z3 zf
      have L12 := hid (show L2 wb w11 x 66 #[.int .i64 c', .int .i64 bad, .slice a1 rs.length k1, .slice b2 (ps.length + 1) j2] (.slice a1 rs.length k1) (.slice b2 (ps.length + 1) j2) rs (ps ++ [(s.size : Int)]) from L11.out)
      clear L11
      obtain ⟨⟨y0, y1, y2, y3⟩, _⟩ := L12.out.cells
      have B6 := hid ((L12.out.touch.block q (lt_of_block B5.out) (by have := HBX.out; omega)).trans B5.out)
      obtain ⟨⟨z0, z1, z2, z3⟩, f0⟩ := four_cells B6.out
      have HQ5 := hid (lt_of_block B5.out)
      go_wp2
      refine bodyPost_ret (results_ctt rfl _ _ q 66 _ (0, 0) _ rfl (four_set B6.out _ _ _ _) Tryd.underlying66 rfl (by kernel_rfl)) rfl ?_
      have ho := L12.out.out4 T5.out HWX.out HQ.out HQ5.out (.int .i64 c') (.int .i64 bad) (.slice a1 rs.length k1) (.slice b2 (ps.length + 1) j2)
      refine .inr ⟨by rw [HRR.out, ← HRE.out], ?_⟩
      rw [HRR.out, ← HRE.out, ← HC.out]
      exact ⟨_, _, rfl, ho.1, ho.2⟩
end Go.Proofs.YtjpmjcadnnglnaaDoor

/- The document's Scalar and Bytes; conditions: those told. -/
namespace Go.Proofs.YtjpmjcadnnglnaaDoor
open Go.RowKit
open Go.Lib

theorem conv_litI (w : World) (l : List Int) (n : Nat) (hn : n = l.length) (cs : Array Value) (hcs : cs = (l.map (Value.int .u8)).toArray) : (convert 97 9 (.slice (some ⟨w.heap.size, 0, none⟩) n n)).run Tryd.prog (w.alloc (.cells cs 5)) = .ok (.string (strOfNums l)) (w.alloc (.cells cs 5)) := by
  subst hn hcs
  refine run_convert_bytes_arg _ 97 5 Tryd.underlying97 Tryd.underlying5 w.heap.size 0 l.length l.length l rfl (fun i hi => ?_) 9 Tryd.underlying9
  unfold World.cell?
  rw [block_new]
  simp [hi]
theorem wrap8 (r : Int) (h : 0 ≤ r ∧ r ≤ 255) : IntKind.u8.wrap r = r := by
  have : IntKind.u8.wrap r = r % 256 := by
    simp [IntKind.wrap, IntKind.bits, IntKind.signed]
  omega

set_option maxRecDepth 100000 in
theorem bytes_latin (r : Int) (h : 0 ≤ r ∧ r ≤ 255) (w : World) : Calls Tryd.prog 49 #[.int .i64 r, .int .i64 4] w fun e w' => e = .returned (.string (strOfNums [r])) ∧ Touch (fun _ => False) w w' := by
  have hcv := conv_litI w [r] 1 rfl #[.int .u8 r] rfl
  have hw0 := wrap8 (r) (by omega)
  have hr : 0 ≤ r := by omega
  have HH := hid h
  clear h
  go_enter Tryd.func49, Tryd.ntmps49
  go_wp2
  go_ret
  exact ⟨rfl, (Touch.refl _ w).alloc _⟩
set_option maxRecDepth 100000 in
theorem bytes_one (r : Int) (h : 0 ≤ r ∧ r < 128) (w : World) : Calls Tryd.prog 49 #[.int .i64 r, .int .i64 1] w fun e w' => e = .returned (.string (strOfNums [r])) ∧ Touch (fun _ => False) w w' := by
  have hcv := conv_litI w [r] 1 rfl #[.int .u8 r] rfl
  have hw0 := wrap8 (r) (by omega)
  have hr : 0 ≤ r := by omega
  have l128 : r < 128 := by omega
  have HH := hid h
  clear h
  go_enter Tryd.func49, Tryd.ntmps49
  go_wp2
  go_ret
  exact ⟨rfl, (Touch.refl _ w).alloc _⟩
set_option maxRecDepth 100000 in
theorem bytes_two (r : Int) (h : 128 ≤ r ∧ r < 2048) (w : World) : Calls Tryd.prog 49 #[.int .i64 r, .int .i64 1] w fun e w' => e = .returned (.string (strOfNums [192 + r / 64, 128 + r % 64])) ∧ Touch (fun _ => False) w w' := by
  have hcv := conv_litI w [192 + r / 64, 128 + r % 64] 2 rfl #[.int .u8 (192 + r / 64), .int .u8 (128 + r % 64)] rfl
  have hw0 := wrap8 (192 + r / 64) (by omega)
  have hw1 := wrap8 (128 + r % 64) (by omega)
  have hr : 0 ≤ r := by omega
  have n128 : ¬ (r < 128) := by omega
  have l2048 : r < 2048 := by omega
  have HH := hid h
  clear h
  go_enter Tryd.func49, Tryd.ntmps49
  go_wp2
  go_ret
  exact ⟨rfl, (Touch.refl _ w).alloc _⟩
set_option maxRecDepth 100000 in
theorem bytes_three (r : Int) (h : 2048 ≤ r ∧ r < 65536) (w : World) : Calls Tryd.prog 49 #[.int .i64 r, .int .i64 1] w fun e w' => e = .returned (.string (strOfNums [224 + r / 4096, 128 + r / 64 % 64, 128 + r % 64])) ∧ Touch (fun _ => False) w w' := by
  have hcv := conv_litI w [224 + r / 4096, 128 + r / 64 % 64, 128 + r % 64] 3 rfl #[.int .u8 (224 + r / 4096), .int .u8 (128 + r / 64 % 64), .int .u8 (128 + r % 64)] rfl
  have hw0 := wrap8 (224 + r / 4096) (by omega)
  have hw1 := wrap8 (128 + r / 64 % 64) (by omega)
  have hw2 := wrap8 (128 + r % 64) (by omega)
  have hr : 0 ≤ r := by omega
  have n128 : ¬ (r < 128) := by omega
  have n2048 : ¬ (r < 2048) := by omega
  have l65536 : r < 65536 := by omega
  have HH := hid h
  clear h
  go_enter Tryd.func49, Tryd.ntmps49
  go_wp2
  go_ret
  exact ⟨rfl, (Touch.refl _ w).alloc _⟩
set_option maxRecDepth 100000 in
theorem bytes_four (r : Int) (h : 65536 ≤ r ∧ r ≤ 1114111) (w : World) : Calls Tryd.prog 49 #[.int .i64 r, .int .i64 1] w fun e w' => e = .returned (.string (strOfNums [240 + r / 262144, 128 + r / 4096 % 64, 128 + r / 64 % 64, 128 + r % 64])) ∧ Touch (fun _ => False) w w' := by
  have hcv := conv_litI w [240 + r / 262144, 128 + r / 4096 % 64, 128 + r / 64 % 64, 128 + r % 64] 4 rfl #[.int .u8 (240 + r / 262144), .int .u8 (128 + r / 4096 % 64), .int .u8 (128 + r / 64 % 64), .int .u8 (128 + r % 64)] rfl
  have hw0 := wrap8 (240 + r / 262144) (by omega)
  have hw1 := wrap8 (128 + r / 4096 % 64) (by omega)
  have hw2 := wrap8 (128 + r / 64 % 64) (by omega)
  have hw3 := wrap8 (128 + r % 64) (by omega)
  have hr : 0 ≤ r := by omega
  have n128 : ¬ (r < 128) := by omega
  have n2048 : ¬ (r < 2048) := by omega
  have n65536 : ¬ (r < 65536) := by omega
  have hm : r ≤ 1114111 := h.2
  have HH := hid h
  clear h
  go_enter Tryd.func49, Tryd.ntmps49
  go_wp2
  go_ret
  exact ⟨rfl, (Touch.refl _ w).alloc _⟩
set_option maxRecDepth 100000 in
theorem bytes_little (r : Int) (h : 0 ≤ r ∧ r ≤ 65535) (w : World) : Calls Tryd.prog 49 #[.int .i64 r, .int .i64 2] w fun e w' => e = .returned (.string (strOfNums [r % 256, r / 256])) ∧ Touch (fun _ => False) w w' := by
  have hcv := conv_litI w [r % 256, r / 256] 2 rfl #[.int .u8 (r % 256), .int .u8 (r / 256)] rfl
  have hw0 := wrap8 (r % 256) (by omega)
  have hw1 := wrap8 (r / 256) (by omega)
  have hr : 0 ≤ r := by omega
  have ng : ¬ (65535 < r) := by omega
  have HH := hid h
  clear h
  go_enter Tryd.func49, Tryd.ntmps49
  go_wp2
  go_ret
  exact ⟨rfl, (Touch.refl _ w).alloc _⟩
set_option maxRecDepth 100000 in
theorem bytes_big (r : Int) (h : 0 ≤ r ∧ r ≤ 65535) (w : World) : Calls Tryd.prog 49 #[.int .i64 r, .int .i64 3] w fun e w' => e = .returned (.string (strOfNums [r / 256, r % 256])) ∧ Touch (fun _ => False) w w' := by
  have hcv := conv_litI w [r / 256, r % 256] 2 rfl #[.int .u8 (r / 256), .int .u8 (r % 256)] rfl
  have hw0 := wrap8 (r / 256) (by omega)
  have hw1 := wrap8 (r % 256) (by omega)
  have hr : 0 ≤ r := by omega
  have ng : ¬ (65535 < r) := by omega
  have HH := hid h
  clear h
  go_enter Tryd.func49, Tryd.ntmps49
  go_wp2
  go_ret
  exact ⟨rfl, (Touch.refl _ w).alloc _⟩
theorem str_app (a b : List Int) : strOfNums a ++ strOfNums b = strOfNums (a ++ b) := by
  apply ByteArray.ext
  rw [ByteArray.data_append]
  unfold strOfNums
  simp
theorem bytes_unit (c f : Nat) (hcf : (c = 2 ∧ f = 50) ∨ (c = 3 ∧ f = 51)) (r : Int) (h : 0 ≤ r ∧ r ≤ 65535) (w : World) : Calls Tryd.prog 49 #[.int .i64 r, .int .i64 (c : Nat)] w fun e w' => e = .returned (.string (strOfNums (enU f r))) ∧ Touch (fun _ => False) w w' := by
  rcases hcf with ⟨rfl, rfl⟩ | ⟨rfl, rfl⟩
  · exact bytes_little r h w
  · exact bytes_big r h w
set_option maxRecDepth 100000 in
set_option maxHeartbeats 4000000 in
theorem bytes_pair (c f : Nat) (hcf : (c = 2 ∧ f = 50) ∨ (c = 3 ∧ f = 51)) (r : Int) (h : 65536 ≤ r ∧ r ≤ 1114111) (w : World) : Calls Tryd.prog 49 #[.int .i64 r, .int .i64 (c : Nat)] w fun e w' => e = .returned (.string (strOfNums (enU f (55296 + (r - 65536) / 1024) ++ enU f (56320 + (r - 65536) % 1024)))) ∧ Touch (fun _ => False) w w' := by
  have K1 := hid (fun w => bytes_unit c f hcf (55296 + (r - 65536) / 1024) (by omega) w)
  have K2 := hid (fun w => bytes_unit c f hcf (56320 + (r - 65536) % 1024) (by omega) w)
  have hc1 : ¬ ((c : Int) = 1) := by omega
  have hc4 : ¬ ((c : Int) = 4) := by omega
  have hg : 65535 < r := by omega
  have hr : 0 ≤ r - 65536 := by omega
  have hm : r ≤ 1114111 := h.2
  have HA := hid (str_app (enU f (55296 + (r - 65536) / 1024)) (enU f (56320 + (r - 65536) % 1024)))
  rw [← HA.out]
  have hs : ∀ x, (strOfNums (enU f x)).size = 2 := fun x => by
    unfold enU strOfNums
    split <;> rfl
  have hs1 := hs (55296 + (r - 65536) / 1024)
  have hs2 := hs (56320 + (r - 65536) % 1024)
  clear hs
  generalize strOfNums (enU f (55296 + (r - 65536) / 1024)) = s1 at *
  generalize strOfNums (enU f (56320 + (r - 65536) % 1024)) = s2 at *
  have HH := hid h
  clear h hcf
  go_enter Tryd.func49, Tryd.ntmps49
  go_wp2_with fail
  refine (K1.out w).mono ?_
  rintro e w1 ⟨rfl, t1⟩
  have T1 := hid t1
  clear t1
  go_wp2_with fail
  refine (K2.out w1).mono ?_
  rintro e w2 ⟨rfl, t2⟩
  have T2 := hid (T1.out.trans t2 (fun _ _ e => e))
  clear t2
  go_wp2
  go_ret
  exact ⟨rfl, T2.out⟩
theorem bytes_any (c : Nat) (hc : c = 1 ∨ c = 2 ∨ c = 3 ∨ c = 4) (r : Int) (h : okc c r = true) (w : World) : Calls Tryd.prog 49 #[.int .i64 r, .int .i64 (c : Nat)] w fun e w' => e = .returned (.string (strOfNums (enc c r))) ∧ Touch (fun _ => False) w w' := by
  have hi := okc_in h
  have h16 : ∀ d f : Nat, (d = 2 ∧ f = 50) ∨ (d = 3 ∧ f = 51) → 0 ≤ r ∧ r ≤ 1114111 → Calls Tryd.prog 49 #[.int .i64 r, .int .i64 (d : Nat)] w fun e w' => e = .returned (.string (strOfNums (en16 f r))) ∧ Touch (fun _ => False) w w' := fun d f hdf hr => by
    unfold en16
    by_cases h1 : r < 65536
    · rw [if_pos h1]
      exact bytes_unit d f hdf r (by omega) w
    · rw [if_neg h1]
      exact bytes_pair d f hdf r (by omega) w
  rcases hc with rfl | rfl | rfl | rfl
  · have hi' : 0 ≤ r ∧ r ≤ 1114111 := hi
    show Calls Tryd.prog 49 #[.int .i64 r, .int .i64 1] w fun e w' => e = .returned (.string (strOfNums (en8 r))) ∧ Touch (fun _ => False) w w'
    unfold en8
    by_cases h1 : r < 128
    · rw [if_pos h1]
      exact bytes_one r (by omega) w
    rw [if_neg h1]
    by_cases h2 : r < 2048
    · rw [if_pos h2]
      exact bytes_two r (by omega) w
    rw [if_neg h2]
    by_cases h3 : r < 65536
    · rw [if_pos h3]
      exact bytes_three r (by omega) w
    rw [if_neg h3]
    exact bytes_four r (by omega) w
  · exact h16 2 50 (by omega) hi
  · exact h16 3 51 (by omega) hi
  · exact bytes_latin r hi w
end Go.Proofs.YtjpmjcadnnglnaaDoor
