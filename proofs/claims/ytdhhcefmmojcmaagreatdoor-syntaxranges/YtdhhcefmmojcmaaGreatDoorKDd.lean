/- Decode of every text by every coding; conditions: the two tables lie there, the text is not too long. -/
import Derived.Test.YtdhhcefmmojcmaaGreatDoorM10
namespace Go.Proofs.YtdhhcefmmojcmaaGreatDoor
open Go.RowKit

theorem row_newK (w : World) (l : List Value) (t : TypeId) : ∀ (j : Nat) (u : Value), l[j]? = some u → (w.alloc (.cells l.toArray t)).cell? ((⟨w.heap.size, 0, none⟩ : Addr).add j) = some u := by
  intro j u hj
  have hb : (w.alloc (.cells l.toArray t)).heap[w.heap.size]? = some (.cells l.toArray t (0, 0)) := by
    show (w.heap.push _)[_]? = _
    simp
  rw [add_gK]
  unfold World.cell?
  rw [hb]
  simpa using hj
theorem TabsK.kept {w w' : World} {S : Nat → Prop} (h : TabsK w) (t : Touch S w w') (h0 : ¬ S 0) (h1 : ¬ S 1) : TabsK w' := by
  obtain ⟨⟨t0, k0⟩, ⟨t1, k1⟩⟩ := h
  exact ⟨⟨t0, (t.block 0 (lt_of_block k0) h0).trans k0⟩, ⟨t1, (t.block 1 (lt_of_block k1) h1).trans k1⟩⟩
theorem TabsK.two {w : World} (h : TabsK w) : 2 ≤ w.heap.size := by
  obtain ⟨_, ⟨t1, k1⟩⟩ := h
  have := lt_of_block k1
  omega
theorem four_set {w : World} {g : Nat} {t : TypeId} {a0 a1 a2 a3 : Value} (h : w.heap[g]? = some (.cells #[a0, a1, a2, a3] t (0, 0))) (b0 b1 b2 b3 : Value) :
    ((((w.setCell ⟨g, 0, none⟩ b0).setCell ⟨g, 1, none⟩ b1).setCell ⟨g, 2, none⟩ b2).setCell ⟨g, 3, none⟩ b3).heap[g]? = some (.cells #[b0, b1, b2, b3] t (0, 0)) :=
  block_set (block_set (block_set (block_set h 0 b0) 1 b1) 2 b2) 3 b3
theorem two_set {w : World} {g : Nat} {t : TypeId} {a0 a1 : Value} (h : w.heap[g]? = some (.cells #[a0, a1] t (0, 0))) (b0 b1 : Value) :
    ((w.setCell ⟨g, 0, none⟩ b0).setCell ⟨g, 1, none⟩ b1).heap[g]? = some (.cells #[b0, b1] t (0, 0)) :=
  block_set (block_set h 0 b0) 1 b1
theorem set_other {w : World} {g k i : Nat} (x : Value) (h : k ≠ g) : (w.setCell ⟨g, i, none⟩ x).heap[k]? = w.heap[k]? := Below.heap_setCell _ _ _ _ h
def zeroT : Array Value := #[.int .i64 0, .slice none 0 0, .slice none 0 0, .int .i64 0]
/-- What Decode answers. -/
structure DecBad (w : World) (er i : Nat) (e : Ending) (w' : World) : Prop where
  ret : e = .returned (.tuple #[.agg zeroT, .agg #[.int .i64 er, .int .i64 i]])
  touch : Touch (fun _ => False) w w'
structure DecGood (w : World) (c : Nat) (rs ps : List Int) (bad : Nat) (e : Ending) (w' : World) : Prop where
  ex : ∃ v1 v2, e = .returned (.tuple #[.agg #[.int .i64 c, v1, v2, .int .i64 bad], .agg #[.int .i64 0, .int .i64 0]]) ∧ OwIK w w' v1 rs ∧ OwIK w w' v2 ps
def DecOk (w : World) (s : ByteArray) (c : Nat) (R : Option Nat × List Int × List Int × Nat) (e : Ending) (w' : World) : Prop :=
  (∃ i, R.1 = some i ∧ DecBad w 17 i e w') ∨ (R.1 = none ∧ DecGood w c R.2.1 (R.2.2.1 ++ [(s.size : Int)]) R.2.2.2 e w')

/-- The two blocks that hold what Decode hands back. -/
structure RB (wz : World) (q : Nat) : Prop where
  a : wz.heap[q]? = some (.cells #[.int .i64 0, .slice none 0 0, .slice none 0 0, .int .i64 0] 67 (0, 0))
  b : wz.heap[q + 1]? = some (.cells #[.int .i64 0, .int .i64 0] 34 (0, 0))
theorem RB.made (w : World) : RB ((w.alloc (.cells #[.int .i64 0, .slice none 0 0, .slice none 0 0, .int .i64 0] 67)).alloc (.cells #[.int .i64 0, .int .i64 0] 34)) w.heap.size := by
  refine ⟨?_, ?_⟩
  · rw [Below.heap_alloc _ _ _ (by simp)]
    exact block_new _ _ _
  · have := block_new (w.alloc (.cells #[.int .i64 0, .slice none 0 0, .slice none 0 0, .int .i64 0] 67)) #[.int .i64 0, .int .i64 0] 34
    rwa [show (w.alloc (.cells #[.int .i64 0, .slice none 0 0, .slice none 0 0, .int .i64 0] 67)).heap.size = w.heap.size + 1 by simp] at this
theorem RB.kept {w w' : World} {q : Nat} {S : Nat → Prop} (h : RB w q) (t : Touch S w w') (h0 : ¬ S q) (h1 : ¬ S (q + 1)) : RB w' q := ⟨(t.block q (lt_of_block h.a) h0).trans h.a, (t.block (q + 1) (lt_of_block h.b) h1).trans h.b⟩
theorem RB.cells {w : World} {q : Nat} (h : RB w q) : (w.cell? ⟨q, 0, none⟩ = some (.int .i64 0) ∧ w.cell? ⟨q, 1, none⟩ = some (.slice none 0 0) ∧ w.cell? ⟨q, 2, none⟩ = some (.slice none 0 0) ∧ w.cell? ⟨q, 3, none⟩ = some (.int .i64 0)) ∧ (w.cell? ⟨q + 1, 0, none⟩ = some (.int .i64 0) ∧ w.cell? ⟨q + 1, 1, none⟩ = some (.int .i64 0)) ∧ (∀ i, w.frozen? ⟨q, i, none⟩ = false) ∧ (∀ i, w.frozen? ⟨q + 1, i, none⟩ = false) := by
  simp [World.cell?, World.frozen?, h.a, h.b]
theorem RB.done {w : World} {q : Nat} (h : RB w q) (b0 b1 b2 b3 f0 f1 : Value) :
    ((((((w.setCell ⟨q, 0, none⟩ b0).setCell ⟨q, 1, none⟩ b1).setCell ⟨q, 2, none⟩ b2).setCell ⟨q, 3, none⟩ b3).setCell ⟨q + 1, 0, none⟩ f0).setCell ⟨q + 1, 1, none⟩ f1).heap[q]? = some (.cells #[b0, b1, b2, b3] 67 (0, 0)) ∧
    ((((((w.setCell ⟨q, 0, none⟩ b0).setCell ⟨q, 1, none⟩ b1).setCell ⟨q, 2, none⟩ b2).setCell ⟨q, 3, none⟩ b3).setCell ⟨q + 1, 0, none⟩ f0).setCell ⟨q + 1, 1, none⟩ f1).heap[q + 1]? = some (.cells #[f0, f1] 34 (0, 0)) := by
  refine ⟨?_, ?_⟩
  · rw [set_other _ (by omega), set_other _ (by omega)]
    exact four_set h.a _ _ _ _
  · refine two_set (a0 := .int .i64 0) (a1 := .int .i64 0) ?_ _ _
    rw [set_other _ (by omega), set_other _ (by omega), set_other _ (by omega), set_other _ (by omega)]
    exact h.b
theorem RB.touch {w0 w : World} {q : Nat} (h : Touch (fun _ => False) w0 w) (hq : w0.heap.size ≤ q) (b0 b1 b2 b3 f0 f1 : Value) :
    Touch (fun _ => False) w0 ((((((w.setCell ⟨q, 0, none⟩ b0).setCell ⟨q, 1, none⟩ b1).setCell ⟨q, 2, none⟩ b2).setCell ⟨q, 3, none⟩ b3).setCell ⟨q + 1, 0, none⟩ f0).setCell ⟨q + 1, 1, none⟩ f1) :=
  have n0 : q < w0.heap.size → False := fun k => absurd k (Nat.not_lt.2 hq)
  have n1 : q + 1 < w0.heap.size → False := fun k => absurd k (by omega)
  (((((h.setCell (p := ⟨q, 0, none⟩) n0 b0).setCell (p := ⟨q, 1, none⟩) n0 b1).setCell (p := ⟨q, 2, none⟩) n0 b2).setCell (p := ⟨q, 3, none⟩) n0 b3).setCell (p := ⟨q + 1, 0, none⟩) n1 f0).setCell (p := ⟨q + 1, 1, none⟩) n1 f1

set_option maxRecDepth 100000 in
set_option maxHeartbeats 4000000 in
theorem decode_out (s : ByteArray) (c : Int) (strict : Bool) (w : World) (h : c < 0 ∨ (0 ≤ c ∧ 4 < c)) : Calls Tryz.prog 26 #[.string s, .int .i64 c, .bool strict] w fun e w' => DecBad w 1 0 e w' := by
  have B := hid (RB.made w)
  have T := hid (((Touch.refl (fun _ => False) w).alloc (.cells #[.int .i64 0, .slice none 0 0, .slice none 0 0, .int .i64 0] 67)).alloc (.cells #[.int .i64 0, .int .i64 0] 34))
  go_enter Tryz.func26, Tryz.ntmps26
  go_upto_region 1 with fail
  generalize ((w.alloc (.cells #[.int .i64 0, .slice none 0 0, .slice none 0 0, .int .i64 0] 67)).alloc (.cells #[.int .i64 0, .int .i64 0] 34)) = w1 at *
  obtain ⟨q, hq⟩ : ∃ q, q = w.heap.size := ⟨_, rfl⟩
  have HQ := hid (show w.heap.size ≤ q by omega)
  rw [← hq] at B ⊢
  clear hq
  obtain ⟨⟨c0, c1, c2, c3⟩, ⟨d0, d1⟩, f0, f1⟩ := B.out.cells
  rcases h with h | ⟨h0, h⟩
  all_goals
    go_wp2
    refine bodyPost_ret (results_cc rfl _ _ q (q + 1) 67 34 _ _ (0, 0) (0, 0) _ _ rfl (B.out.done _ _ _ _ _ _).1 Tryz.underlying67 rfl (by kernel_rfl) rfl (B.out.done _ _ _ _ _ _).2 Tryz.underlying34 rfl (by kernel_rfl)) rfl ?_
    exact ⟨rfl, RB.touch T.out HQ.out _ _ _ _ _ _⟩

theorem L2.nil (w : World) (q : Nat) (ty : TypeId) (cs : Array Value) (h : w.heap[q]? = some (.cells cs ty (0, 0))) : L2 w w q ty cs (.slice none 0 0) (.slice none 0 0) [] [] :=
  ⟨by simpa [encIK] using World.ownsRow_nil _ _ _ _, by simpa [encIK] using World.ownsRow_nil _ _ _ _, by intro g h; simp [Value.ownBlock] at h, by intro g h; simp [Value.ownBlock] at h, by intro g h; simp [Value.ownBlock] at h, h, Touch.refl _ _⟩
theorem bg_in (s : ByteArray) (c : Nat) (hc : c ≤ 4) : 1 ≤ (bg s c).1 ∧ (bg s c).1 ≤ 4 ∧ (bg s c).2 ≤ s.size := by
  have beg : ∀ p : ByteArray, begB s p = true → p.size ≤ s.size := fun p h => by
    unfold begB at h
    simp only [Bool.and_eq_true, decide_eq_true_eq] at h
    exact h.1
  have key : ∀ (k c : Nat), 1 ≤ c → c + k ≤ 4 → 1 ≤ (sn s k c).1 ∧ (sn s k c).1 ≤ 4 ∧ (sn s k c).2 ≤ s.size := by
    intro k
    induction k with
    | zero => intro c _ _; exact ⟨Nat.le_refl _, (by show (1 : Nat) ≤ 4; decide), Nat.zero_le _⟩
    | succ k ih =>
      intro c h1 h2
      unfold sn
      split
      · rename_i h
        exact ⟨h1, by dsimp only; omega, beg _ h⟩
      · exact ih (c + 1) (by omega) (by omega)
  unfold bg
  split
  · exact key 3 1 (Nat.le_refl _) (by omega)
  · split
    · rename_i h0 h
      exact ⟨by dsimp only; omega, by dsimp only; omega, beg _ h⟩
    · exact ⟨by dsimp only; omega, by dsimp only; omega, Nat.zero_le _⟩

theorem L2.cells {W0 wr : World} {q : Nat} {ty : TypeId} {a0 a1 a2 a3 v1 v2 : Value} {rs ps : List Int} (h : L2 W0 wr q ty #[a0, a1, a2, a3] v1 v2 rs ps) : (wr.cell? ⟨q, 0, none⟩ = some a0 ∧ wr.cell? ⟨q, 1, none⟩ = some a1 ∧ wr.cell? ⟨q, 2, none⟩ = some a2 ∧ wr.cell? ⟨q, 3, none⟩ = some a3) ∧ ∀ i, wr.frozen? ⟨q, i, none⟩ = false := by
  simp [World.cell?, World.frozen?, h.blk]
theorem set6_other {w : World} {q k : Nat} (h0 : k ≠ q) (h1 : k ≠ q + 1) (b0 b1 b2 b3 f0 f1 : Value) : ((((((w.setCell ⟨q, 0, none⟩ b0).setCell ⟨q, 1, none⟩ b1).setCell ⟨q, 2, none⟩ b2).setCell ⟨q, 3, none⟩ b3).setCell ⟨q + 1, 0, none⟩ f0).setCell ⟨q + 1, 1, none⟩ f1).heap[k]? = w.heap[k]? := by
  rw [set_other _ h1, set_other _ h1, set_other _ h0, set_other _ h0, set_other _ h0, set_other _ h0]
/-- What is handed back when the two blocks are written. -/
theorem L2.out {w w5 wz : World} {x q : Nat} {cs : Array Value} {v1 v2 : Value} {rs ps : List Int} (h : L2 w5 wz x 67 cs v1 v2 rs ps) (t : Touch (fun _ => False) w w5) (hx : w.heap.size ≤ x) (hq : w.heap.size ≤ q) (hq5 : q + 1 < w5.heap.size) (b0 b1 b2 b3 f0 f1 : Value) :
    OwIK w ((((((wz.setCell ⟨q, 0, none⟩ b0).setCell ⟨q, 1, none⟩ b1).setCell ⟨q, 2, none⟩ b2).setCell ⟨q, 3, none⟩ b3).setCell ⟨q + 1, 0, none⟩ f0).setCell ⟨q + 1, 1, none⟩ f1) v1 rs ∧
    OwIK w ((((((wz.setCell ⟨q, 0, none⟩ b0).setCell ⟨q, 1, none⟩ b1).setCell ⟨q, 2, none⟩ b2).setCell ⟨q, 3, none⟩ b3).setCell ⟨q + 1, 0, none⟩ f0).setCell ⟨q + 1, 1, none⟩ f1) v2 ps := by
  have tz : Touch (fun _ => False) w wz := t.trans h.touch (fun i hi e => by omega)
  have tf := RB.touch tz hq b0 b1 b2 b3 f0 f1
  refine ⟨⟨own_kept h.o1 (fun g hg => ?_), fun g hg => Nat.le_trans t.size (h.n1 g hg), tf⟩, ⟨own_kept h.o2 (fun g hg => ?_), fun g hg => Nat.le_trans t.size (h.n2 g hg), tf⟩⟩
  · have := h.n1 g hg
    exact set6_other (by omega) (by omega) _ _ _ _ _ _
  · have := h.n2 g hg
    exact set6_other (by omega) (by omega) _ _ _ _ _ _

set_option maxRecDepth 100000 in
set_option maxHeartbeats 16000000 in
theorem decode_any (s : ByteArray) (c : Nat) (strict : Bool) (w : World) (ht : TabsK w) (hs : s.size ≤ 1099511627776) (hc : c ≤ 4) :
    Calls Tryz.prog 26 #[.string s, .int .i64 c, .bool strict] w fun e w' => DecOk w s (bg s c).1 (dcGo s (bg s c).1 strict s.size (bg s c).2 [] [] 0) e w' := by
  obtain ⟨i0, hi3, hz0, hz1, hz2⟩ := info_parts info3i
  have B := hid (RB.made w)
  have T := hid (((Touch.refl (fun _ => False) w).alloc (.cells #[.int .i64 0, .slice none 0 0, .slice none 0 0, .int .i64 0] 67)).alloc (.cells #[.int .i64 0, .int .i64 0] 34))
  have hbg := bg_in s c hc
  have HT := hid ht
  clear ht
  go_enter Tryz.func26, Tryz.ntmps26
  go_upto_region 1 with fail
  generalize ((w.alloc (.cells #[.int .i64 0, .slice none 0 0, .slice none 0 0, .int .i64 0] 67)).alloc (.cells #[.int .i64 0, .int .i64 0] 34)) = w1 at *
  obtain ⟨q, hq⟩ : ∃ q, q = w.heap.size := ⟨_, rfl⟩
  have HQ := hid (show w.heap.size ≤ q by omega)
  rw [← hq] at B ⊢
  clear hq
  have KB := hid (beginning_any s c hc w1 (HT.out.new T.out))
  have hcI : (c : Int) ≤ 4 := by omega
  go_wp2_with fail
  refine KB.out.mono ?_
  rintro e w2 ⟨rfl, tc⟩
  obtain ⟨c', hc'⟩ : ∃ c', c' = (bg s c).1 := ⟨_, rfl⟩
  obtain ⟨at0, hat0⟩ : ∃ a, a = (bg s c).2 := ⟨_, rfl⟩
  rw [← hc', ← hat0] at hbg ⊢
  have HC := hid hc'
  have HAT := hid hat0
  replace T := hid (T.out.trans tc (fun _ _ e => e))
  replace B := hid (B.out.kept tc id id)
  clear tc KB hc' hat0
  have BX := hid (block_new w2 #[.int .i64 c', .slice none 0 0, .slice none 0 0, .int .i64 0] 67)
  have TX := hid ((Touch.refl (fun _ => False) w2).alloc (.cells #[.int .i64 c', .slice none 0 0, .slice none 0 0, .int .i64 0] 67))
  have HXS := hid (show w2.heap.size < (w2.alloc (.cells #[.int .i64 c', .slice none 0 0, .slice none 0 0, .int .i64 0] 67)).heap.size by simp)
  have HBX := hid (show q + 1 < w2.heap.size from lt_of_block B.out.b)
  go_upto_region 5 with fail
  generalize (w2.alloc (.cells #[.int .i64 c', .slice none 0 0, .slice none 0 0, .int .i64 0] 67)) = w4 at *
  obtain ⟨x, hx⟩ : ∃ x, x = w2.heap.size := ⟨_, rfl⟩
  rw [← hx] at BX HXS HBX ⊢
  have HWX := hid (show w.heap.size ≤ x by have := T.out.size; omega)
  clear hx
  have T4 := hid (T.out.trans TX.out (fun _ _ e => e))
  have B4 := hid (B.out.kept TX.out id id)
  have KT := hid (taker_says s c' w4 (by omega) ⟨hbg.1, hbg.2.1⟩)
  clear T TX B
  go_wp2_with fail
  refine KT.out.mono ?_
  rintro e w5 ⟨fid, b, hfid, rfl, htk, tc⟩
  have T5 := hid (T4.out.trans tc (fun _ _ e => e))
  have B5 := hid (B4.out.kept tc id id)
  have BX5 := hid ((tc.block x (lt_of_block BX.out) id).trans BX.out)
  have TK := hid (htk x HXS.out)
  obtain ⟨R, hR⟩ : ∃ R, dcGo s c' strict s.size at0 [] [] 0 = R := ⟨_, rfl⟩
  have HR := hid hR
  have HRR := hid (show dcGo s (bg s c).1 strict s.size (bg s c).2 [] [] 0 = R by rw [← HC.out, ← HAT.out]; exact hR)
  clear tc htk KT T4 B4 BX hR
  have HW2 := hid HT.out.two
  have HT5 := hid (HT.out.new T5.out)
  rcases hfid with rfl | rfl | rfl
  all_goals
    go_wp2_with fail
    go_loopg [8] s.size (fun gk v wq => ∃ (i : Nat) (rs ps : List Int) (bad : Nat) (v1 v2 : Value), v = .int .i64 (i : Nat) ∧ i ≤ s.size + 4 ∧ s.size ≤ i + gk ∧ rs.length + gk = s.size ∧ ps.length = rs.length ∧ bad ≤ rs.length ∧ dcGo s c' strict gk i rs ps bad = R ∧ L2 w5 wq x 67 #[.int .i64 c', v1, v2, .int .i64 bad] v1 v2 rs ps)
    case atStart => exact ⟨at0, [], [], 0, _, _, rfl, by omega, by omega, by simp, rfl, Nat.le_refl _, HR.out, L2.nil w5 x 67 _ BX5.out⟩
    case round =>
      obtain ⟨i, rs, ps, bad, v1, v2, rfl, hi4, hig, hrl, hpl, hbl, hdc, hl2⟩ := hrel
      have HD := hid hdc
      have L := hid hl2
      obtain ⟨a1, k1, hv1⟩ := own_shape hl2.o1
      obtain ⟨a2, k2, hv2⟩ := own_shape hl2.o2
      subst hv1
      subst hv2
      have HPL := hid hpl
      have hpb : ps.length ≤ s.size := by omega
      clear hdc hl2 HR hpl
      by_cases hlt : i < s.size
      · obtain ⟨gk, rfl⟩ : ∃ k, gk = k + 1 := ⟨gk - 1, by omega⟩
        have HD2 := hid (HD.out)
        rw [dc_step hlt] at HD2
        have hsz := tkAt_size s c' i
        have KC := hid (TK.out wr L.out.touch (HT5.out.kept L.out.touch (by have := HW2.out; have := HWX.out; omega) (by have := HW2.out; have := HWX.out; omega)) i hlt)
        obtain ⟨y, hy⟩ : ∃ y, y = (tkAt s c' i).1 := ⟨_, rfl⟩
        obtain ⟨n, hn⟩ : ∃ n, n = (tkAt s c' i).2 := ⟨_, rfl⟩
        rw [← hy, ← hn] at HD2 KC
        rw [← hn] at hsz
        have hltI : (i : Int) < (s.size : Int) := by omega
        clear HD hy hn
        go_wp2_with fail
        refine KC.out.mono ?_
        rintro e w6 ⟨rfl, tc⟩
        have L6 := hid (L.out.still tc)
        clear tc KC L
        go_upto_if 43 with fail
        go_cut [11] (fun v wd => ∃ (y' : Int) (bad' : Nat), v = .int .i64 y' ∧ bad' ≤ rs.length + 1 ∧ dcGo s c' strict gk (i + n) (rs ++ [y']) (ps ++ [(i : Int)]) bad' = R ∧ L2 w5 wd x 67 #[.int .i64 c', .slice a1 rs.length k1, .slice a2 ps.length k2, .int .i64 bad'] (.slice a1 rs.length k1) (.slice a2 ps.length k2) rs ps)
        case first =>
          by_cases hy : y = -1
          · subst hy
            rw [if_pos rfl] at HD2
            cases strict
            · have HD3 := hid (show dcGo s c' false gk (i + n) (rs ++ [65533]) (ps ++ [(i : Int)]) (bad + 1) = R from HD2.out)
              obtain ⟨⟨_, _, _, z3⟩, zf⟩ := L6.out.cells
              go_wp2
              go_meet
              case rel => exact ⟨65533, bad + 1, rfl, by omega, HD3.out, L6.out.set (by decide) 3 _⟩
            · have HRE := hid (show (some i, [], [], 0) = R from HD2.out)
              have B6 := hid (B5.out.kept L6.out.touch (by have := HBX.out; omega) (by have := HBX.out; omega))
              have T6 := hid (T5.out.trans L6.out.touch (fun k hk e => by have := HWX.out; omega))
              obtain ⟨⟨z0, z1, z2, z3⟩, ⟨d0, d1⟩, f0, f1⟩ := B6.out.cells
              go_wp2
              refine bodyPost_ret (results_cc rfl _ _ q (q + 1) 67 34 _ _ (0, 0) (0, 0) _ _ rfl (B6.out.done _ _ _ _ _ _).1 Tryz.underlying67 rfl (by kernel_rfl) rfl (B6.out.done _ _ _ _ _ _).2 Tryz.underlying34 rfl (by kernel_rfl)) rfl ?_
              exact .inl ⟨i, by rw [HRR.out, ← HRE.out], rfl, RB.touch T6.out HQ.out _ _ _ _ _ _⟩
          · rw [if_neg hy] at HD2
            have hyd : decide (y = -1) = false := decide_eq_false hy
            have hyd2 : (y == -1) = false := by simpa using hy
            go_wp2
            go_meet
            case rel => exact ⟨y, bad, rfl, by omega, HD2.out, L6.out⟩
        obtain ⟨y', bad', rfl, hbad, hdc, hl2⟩ := hcut
        have HDC := hid hdc
        have L7 := hid hl2
        obtain ⟨⟨_, z1, _, _⟩, zf⟩ := hl2.cells
        clear hdc hl2 HD2 L6
        go_wp2_with (at_builtin; (refine wpList_append_own_at _ rfl _ _ 56 rfl 0 3 i0 (.int .i64 0) 1 8 Tryz.underlying56 hi3 hz0 hz1 hz2 rfl (by decide) _ _ _ rfl (L7.out.o1.alloc _) ⟨wc.heap.size, 0, none⟩ 1 1 [.int .i64 y'] rfl rfl (row_newK wc [.int .i64 y'] 3) (by intro u hu; simp at hu; subst hu; rfl) (by unfold maxLen; omega) (by omega) (Nat.zero_le _) ?_))
        intro v1' w8 hown hgrow _ hat
        have L8 := hid (L7.out.app1 (by decide) hown hgrow hat)
        obtain ⟨b1, j1, hv1⟩ := own_shape hown
        subst hv1
        clear hown hgrow hat L7 z1 zf
        obtain ⟨⟨_, z1, _, _⟩, zf⟩ := L8.out.cells
        have L9 := hid (L8.out.set (by decide) 1 (.slice b1 (rs.length + 1) j1))
        go_upto_region 14 with fail
        generalize w8.setCell ⟨x, 1, none⟩ (.slice b1 (rs.length + 1) j1) = w9 at *
        clear L8 z1 zf
        have L9' := hid (show L2 w5 w9 x 67 #[.int .i64 c', .slice b1 (rs.length + 1) j1, .slice a2 ps.length k2, .int .i64 bad'] (.slice b1 (rs.length + 1) j1) (.slice a2 ps.length k2) (rs ++ [y']) ps from L9.out)
        clear L9
        obtain ⟨⟨_, _, z2, _⟩, zf⟩ := L9'.out.cells
        go_wp2_with (at_builtin; refine wpList_append_own_at _ rfl _ _ 56 rfl 0 3 i0 (.int .i64 0) 1 8 Tryz.underlying56 hi3 hz0 hz1 hz2 rfl (by decide) _ _ _ rfl (L9'.out.o2.alloc _) ⟨w9.heap.size, 0, none⟩ 1 1 [.int .i64 i] rfl rfl (row_newK w9 [.int .i64 i] 3) (by intro u hu; simp at hu; subst hu; rfl) (by unfold maxLen; omega) (by omega) (Nat.zero_le _) ?_)
        intro v2' w10 hown hgrow _ hat
        have L10 := hid (L9'.out.app2 (by decide) hown hgrow hat)
        obtain ⟨b2, j2, hv2⟩ := own_shape hown
        subst hv2
        clear hown hgrow hat L9' z2 zf
        obtain ⟨⟨_, _, z2, _⟩, zf⟩ := L10.out.cells
        have L11 := hid (L10.out.set (by decide) 2 (.slice b2 (ps.length + 1) j2))
        go_upto_region 15 with fail
        generalize w10.setCell ⟨x, 2, none⟩ (.slice b2 (ps.length + 1) j2) = w11 at *
        clear L10 z2 zf
        have L12 := hid (show L2 w5 w11 x 67 #[.int .i64 c', .slice b1 (rs.length + 1) j1, .slice b2 (ps.length + 1) j2, .int .i64 bad'] (.slice b1 (rs.length + 1) j1) (.slice b2 (ps.length + 1) j2) (rs ++ [y']) (ps ++ [(i : Int)]) from L11.out)
        clear L11
        go_wp2
        go_roundg gk
        case measure => omega
        case rel => exact ⟨i + n, rs ++ [y'], ps ++ [(i : Int)], bad', _, _, by go_num, by omega, by omega, by rw [List.length_append, List.length_singleton]; omega, by rw [List.length_append, List.length_append, List.length_singleton, HPL.out]; rfl, by rw [List.length_append, List.length_singleton]; omega, HDC.out, L12.out⟩
      · have HRE := hid (show (none, rs, ps, bad) = R by rw [← HD.out, dc_end (by omega)])
        have hltI : ¬ ((i : Int) < (s.size : Int)) := by omega
        obtain ⟨⟨_, _, z2, _⟩, zf⟩ := L.out.cells
        clear HD
        go_wp2_with (at_builtin; refine wpList_append_own_at _ rfl _ _ 56 rfl 0 3 i0 (.int .i64 0) 1 8 Tryz.underlying56 hi3 hz0 hz1 hz2 rfl (by decide) _ _ _ rfl (L.out.o2.alloc _) ⟨wr.heap.size, 0, none⟩ 1 1 [.int .i64 (s.size : Nat)] rfl rfl (row_newK wr [.int .i64 (s.size : Nat)] 3) (by intro u hu; simp at hu; subst hu; rfl) (by unfold maxLen; omega) (by omega) (Nat.zero_le _) ?_)
        intro v2' w10 hown hgrow _ hat
        have L10 := hid (L.out.app2 (by decide) hown hgrow hat)
        obtain ⟨b2, j2, hv2⟩ := own_shape hown
        subst hv2
        clear hown hgrow hat L z2 zf
        obtain ⟨⟨_, _, z2, _⟩, zf⟩ := L10.out.cells
        have L11 := hid (L10.out.set (by decide) 2 (.slice b2 (ps.length + 1) j2))
        go_upto_region 17 with fail
        generalize w10.setCell ⟨x, 2, none⟩ (.slice b2 (ps.length + 1) j2) = w11 at *
        clear L10 z2 zf
        have L12 := hid (show L2 w5 w11 x 67 #[.int .i64 c', .slice a1 rs.length k1, .slice b2 (ps.length + 1) j2, .int .i64 bad] (.slice a1 rs.length k1) (.slice b2 (ps.length + 1) j2) rs (ps ++ [(s.size : Int)]) from L11.out)
        clear L11
        obtain ⟨⟨y0K, y1K, y2, y3⟩, _⟩ := L12.out.cells
        have B6 := hid (B5.out.kept L12.out.touch (by have := HBX.out; omega) (by have := HBX.out; omega))
        obtain ⟨⟨z0, z1, z2, z3⟩, ⟨d0, d1⟩, f0, f1⟩ := B6.out.cells
        have HQ5 := hid (lt_of_block B5.out.b)
        go_wp2
        refine bodyPost_ret (results_cc rfl _ _ q (q + 1) 67 34 _ _ (0, 0) (0, 0) _ _ rfl (B6.out.done _ _ _ _ _ _).1 Tryz.underlying67 rfl (by kernel_rfl) rfl (B6.out.done _ _ _ _ _ _).2 Tryz.underlying34 rfl (by kernel_rfl)) rfl ?_
        have ho := L12.out.out T5.out HWX.out HQ.out HQ5.out (.int .i64 c') (.slice a1 rs.length k1) (.slice b2 (ps.length + 1) j2) (.int .i64 bad) (.int .i64 0) (.int .i64 0)
        refine .inr ⟨by rw [HRR.out, ← HRE.out], ?_⟩
        rw [HRR.out, ← HRE.out, ← HC.out]
        exact ⟨_, _, rfl, ho.1, ho.2⟩
end Go.Proofs.YtdhhcefmmojcmaaGreatDoor
