/- Texts of this proof, one behind the other: what each says stands ahead of it. -/
import Derived.Test.YthengfclijclmaaM24
import Derived.Test.YthengfclijclmaaM19
/- What tokens is made of; conditions: those told. -/
namespace Go.Proofs.Ythengfclijclmaa
open Go.RowKit
open Go.Lib

open Go.Maps
set_option maxRecDepth 100000 in
set_option maxHeartbeats 8000000 in
theorem find_short (pb p t reach : Nat) (w : World) (hpt : p ≤ t) (ht : t ≤ 1073741824) (h : min 258 (t - p) < 3 ∨ reach = 0) :
    Calls Try.prog 41 #[.pointer (some ⟨pb, 0, none⟩), .int .i64 (p : Nat), .int .i64 (t : Nat), .int .i64 (reach : Nat)] w fun e w' => e = .returned (.tuple #[.int .i64 0, .int .i64 0]) ∧ w = w' := by
  obtain ⟨most, hm⟩ : ∃ most, most = min 258 (t - p) := ⟨_, rfl⟩
  have hmi : (258 : Int) ≤ (t : Int) - (p : Int) ∧ most = 258 ∨ (t : Int) - (p : Int) < 258 ∧ (t : Int) - (p : Int) = (most : Int) := by omega
  rw [← hm] at h
  clear hm
  go_enter Try.func41, Try.ntmps41
  go_upto_region 1 with fail
  go_cut [10] (fun v wd => v = .int .i64 (most : Nat) ∧ w = wd)
  case first =>
    rcases hmi with ⟨hA, rfl⟩ | ⟨hA, hB⟩
    · go_wp2
      go_meet
      case rel => exact ⟨rfl, rfl⟩
    · go_wp2
      go_meet
      case rel => exact ⟨by first | rfl | simp [hB], rfl⟩
  obtain ⟨rfl, rfl⟩ := hcut
  clear hmi
  by_cases h3 : most < 3
  · have h3I : (most : Int) < 3 := by omega
    clear h
    go_wp2_with fail
    refine bodyPost_ret (results_tmp2 rfl _ _ _) rfl ?_
    exact ⟨rfl, rfl⟩
  · have h3I : ¬ ((most : Int) < 3) := by omega
    have hr0 : ((reach : Int) == 0) = true := by simp; omega
    clear h
    go_wp2_with fail
    refine bodyPost_ret (results_tmp2 rfl _ _ _) rfl ?_
    exact ⟨rfl, rfl⟩
/-- find, whatever it is asked. -/
theorem find_any (d : ByteArray) (pb mb f L p t reach : Nat) (vb : Value) (w : World) (h : Past w pb mb d f L vb) (hfL : f ≤ L) (hLp : L ≤ p) (hpt : p ≤ t) (ht : t ≤ d.size) (hd : d.size ≤ 1073741824) (hr : reach ≤ 32768) :
    Calls Try.prog 41 #[.pointer (some ⟨pb, 0, none⟩), .int .i64 (p : Nat), .int .i64 (t : Nat), .int .i64 (reach : Nat)] w fun e w' => e = .returned (.tuple #[.int .i64 (((fnd d f p t reach).1 : Nat) : Int), .int .i64 (((fnd d f p t reach).2 : Nat) : Int)]) ∧ ∃ L' vb', f ≤ L' ∧ L' ≤ p ∧ PStep w w' pb mb d f L' vb vb' := by
  by_cases hs : min 258 (t - p) < 3 ∨ reach = 0
  · refine (find_short pb p t reach w hpt (by omega) hs).mono ?_
    rintro e w' ⟨rfl, rfl⟩
    have e0 : fnd d f p t reach = (0, 0) := by unfold fnd; rw [if_pos hs]
    rw [e0]
    exact ⟨rfl, L, vb, hfL, hLp, PStep.refl h⟩
  · refine (find_long d pb mb f L p t reach _ vb w h hfL hLp hpt ht hd hr rfl (by omega) (by omega) _ rfl (fnd d f p t reach).1 (fnd d f p t reach).2 ?_ ?_).mono ?_
    · unfold fnd
      rw [if_neg hs]
      split <;> rfl
    · unfold fnd
      rw [if_neg hs]
      split <;> rename_i hz
      · exact hz.symm
      · rfl
    · rintro e w' ⟨rfl, vb', ps⟩
      exact ⟨rfl, p, vb', by omega, Nat.le_refl _, ps⟩
abbrev T3 := Int × Int × Int
def flatT (l : List T3) : List Value := l.flatMap fun x => [.int .u8 x.1, .int .i64 x.2.1, .int .i64 x.2.2]
theorem flatT_append (l m : List T3) : flatT (l ++ m) = flatT l ++ flatT m := by unfold flatT; rw [List.flatMap_append]
theorem info34 : (Try.prog.info? 34).map (fun i => (i.zero, i.size, i.bytes)) = some (some (.agg #[.int .u8 0, .int .i64 0, .int .i64 0]), 3, 24) := by kernel_rfl
structure OwT (W0 wr : World) (v : Value) (l : List T3) : Prop where
  own : wr.ownsRow 0 34 3 v l.length (flatT l)
  new : ∀ g, v.ownBlock = some g → W0.heap.size ≤ g
theorem OwT.nil (w w' : World) : OwT w w' (.slice none 0 0) [] := ⟨by simpa [flatT] using World.ownsRow_nil _ _ _ _, by intro g h; simp [Value.ownBlock] at h⟩
theorem own_ty {w : World} {e sz n : Nat} {v : Value} {xs : List Value} (h : w.ownsRow 0 e sz v n xs) {g : Nat} (hg : v.ownBlock = some g) : ∃ cur, w.heap[g]? = some (.cells cur e (0, 0)) := by
  rcases h.2 with ⟨rfl, _⟩ | ⟨b, cap, cur, rfl, _, hh, _⟩
  · simp [Value.ownBlock] at hg
  · simp [Value.ownBlock] at hg
    subst hg
    exact ⟨cur, hh⟩
theorem own_keptG {w w' : World} {e sz n : Nat} {v : Value} {xs : List Value} (h : w.ownsRow 0 e sz v n xs) (hb : ∀ g, v.ownBlock = some g → w'.heap[g]? = w.heap[g]?) : w'.ownsRow 0 e sz v n xs := by
  refine ⟨h.1, ?_⟩
  rcases h.2 with h0 | ⟨g, cap, cur, rfl, hg, hh, rest⟩
  · exact .inl h0
  · exact .inr ⟨g, cap, cur, rfl, hg, (hb g rfl).trans hh, rest⟩
theorem OwT.still {W0 w w' : World} {v : Value} {l : List T3} (h : OwT W0 w v l) (t : Touch (fun _ => False) w w') : OwT W0 w' v l :=
  ⟨own_keptG h.own (fun _ hg => t.block _ (lt_of_block (own_ty h.own hg).choose_spec) id), h.new⟩
/-- A step of the past leaves tokens alone. -/
theorem OwT.step {W0 w w' : World} {v : Value} {l : List T3} {pb mb : Nat} {d : ByteArray} {f L L' : Nat} {vb vb' : Value} (h : OwT W0 w v l) (hp : Past w pb mb d f L vb) (st : PStep w w' pb mb d f L' vb vb') : OwT W0 w' v l := by
  refine ⟨own_keptG h.own (fun g hg => ?_), h.new⟩
  obtain ⟨cur, hc⟩ := own_ty h.own hg
  refine st.touch.block g (lt_of_block hc) (fun e => ?_)
  rcases e with e | e | e
  · subst e
    rw [hp.blk] at hc
    simp at hc
  · subst e
    obtain ⟨D, ⟨es, clock, hb, _⟩, _⟩ := hp.map
    rw [hb] at hc
    simp at hc
  · obtain ⟨cur', hc'⟩ := own_ty hp.row e
    rw [hc] at hc'
    simp at hc'
/-- An append to tokens leaves the past alone. -/
theorem Past.grown {w w' : World} {pb mb : Nat} {d : ByteArray} {f L : Nat} {vb v : Value} {n : Nat} {xs : List Value} (h : Past w pb mb d f L vb) (hv : w.ownsRow 0 34 3 v n xs) (hg : w.grownBy w' v.ownBlock) : Past w' pb mb d f L vb := by
  obtain ⟨D, hm, hD, hk⟩ := h.map
  have ne : ∀ g cs ty, w.heap[g]? = some (.cells cs ty (0, 0)) → ty ≠ 34 → some g ≠ v.ownBlock := fun g cs ty hc hty e => by
    obtain ⟨cur, hc'⟩ := own_ty hv e.symm
    rw [hc] at hc'
    simp at hc'
    exact hty hc'.2
  refine ⟨(hg.block pb (lt_of_block h.blk) (ne pb _ _ h.blk (by decide))).trans h.blk, ⟨D, hm.kept hg (fun e => ?_), hD, hk⟩, own_keptG h.row (fun g hgg => ?_)⟩
  · obtain ⟨cur, hc'⟩ := own_ty hv e.symm
    obtain ⟨es, clock, hb, _⟩ := hm
    rw [hb] at hc'
    simp at hc'
  · obtain ⟨cur, hc⟩ := own_ty h.row hgg
    exact hg.block g (lt_of_block hc) (ne g _ _ hc (by decide))
theorem OwT.app {W0 w w1 : World} {v v' : Value} {l : List T3} {x : T3} (h : OwT W0 w v l) (H : Nat) (h0 : W0.heap.size ≤ H) (hown : w1.ownsRow 0 34 3 v' (l.length + 1) (flatT l ++ flatT [x])) (hat : v'.ownBlock = v.ownBlock ∨ v'.ownBlock = some H) : OwT W0 w1 v' (l ++ [x]) := by
  refine ⟨by rw [List.length_append, flatT_append]; exact hown, fun g e => ?_⟩
  rcases hat with k | k
  · exact h.new g (by rw [← k]; exact e)
  · rw [k] at e
    simp at e
    omega
/-- The tokens of a span. -/
def tks (d : ByteArray) (f t reach : Nat) : Nat → Nat → List T3
  | 0, _ => []
  | g + 1, p => if p < t then
      if (fnd d f p t reach).1 < 3 then ((Bt.byteN d p : Int), 0, 0) :: tks d f t reach g (p + 1)
      else (0, ((fnd d f p t reach).1 : Int), ((fnd d f p t reach).2 : Int)) :: tks d f t reach g (p + (fnd d f p t reach).1)
    else []
theorem fnd_le (d : ByteArray) (f p t reach : Nat) : (fnd d f p t reach).1 ≤ t - p ∧ (fnd d f p t reach).2 ≤ p := by
  have hgo : ∀ most g pl len dist, len ≤ most → dist ≤ p → (fndGo d f p most reach g pl len dist).1 ≤ most ∧ (fndGo d f p most reach g pl len dist).2 ≤ p := by
    intro most g
    induction g with
    | zero => intro pl len dist h1 h2; exact ⟨h1, h2⟩
    | succ g ih =>
      intro pl len dist h1 h2
      unfold fndGo
      split
      · split
        · exact ih _ _ _ (smN_le _ _ _ _ _) (by omega)
        · exact ih _ _ _ h1 h2
      · exact ⟨h1, h2⟩
  unfold fnd
  split
  · exact ⟨by omega, by omega⟩
  · rename_i hs
    split
    · exact ⟨by omega, by omega⟩
    · have := hgo (min 258 (t - p)) (p + 1) (lastP d f p (k3 d p)) 2 0 (by omega) (by omega)
      omega
theorem flatT_one (l : List T3) : ∀ u ∈ flatT l, u.oneCell' = true := by
  intro u hu
  unfold flatT at hu
  obtain ⟨x, _, hx⟩ := List.mem_flatMap.1 hu
  simp at hx
  rcases hx with rfl | rfl | rfl <;> rfl
theorem newsT {w W : World} {x : T3} (tc : Touch (fun _ => False) (w.alloc (.cells #[.int .u8 x.1, .int .i64 x.2.1, .int .i64 x.2.2] 34)) W) : ∀ j u, (flatT [x])[j]? = some u → W.cell? ((⟨w.heap.size, 0, none⟩ : Addr).add j) = some u := by
  intro j u hj
  have hb : (w.alloc (.cells #[.int .u8 x.1, .int .i64 x.2.1, .int .i64 x.2.2] 34)).heap[w.heap.size]? = some (.cells #[.int .u8 x.1, .int .i64 x.2.1, .int .i64 x.2.2] 34 (0, 0)) := by show (w.heap.push _)[_]? = _; simp
  rw [add_zero, tc.cell (p := ⟨w.heap.size, j, none⟩) (by simp) id]
  simp only [World.cell?, hb, Option.isSome_none, Bool.false_eq_true, if_false]
  rw [← hj]
  simp [flatT]
theorem past_ne {w : World} {pb mb q : Nat} {d : ByteArray} {f L : Nat} {vb : Value} {cs : Array Value} {ty : TypeId} (hp : Past w pb mb d f L vb) (hq : w.heap[q]? = some (.cells cs ty (0, 0))) (h1 : ty ≠ 98) (h2 : ty ≠ 3) : ¬ (q = pb ∨ q = mb ∨ vb.ownBlock = some q) := fun e => by
  rcases e with e | e | e
  · subst e
    rw [hp.blk] at hq
    simp at hq
    exact h1 hq.2.symm
  · subst e
    obtain ⟨D, ⟨es, clock, hb, _⟩, _⟩ := hp.map
    rw [hb] at hq
    simp at hq
  · obtain ⟨cur', hc'⟩ := own_ty hp.row e
    rw [hq] at hc'
    simp at hc'
    exact h2 hc'.2
theorem PStep.grown {w w2 w4 : World} {pb mb : Nat} {d : ByteArray} {f L : Nat} {vb vb' v : Value} {l : List T3} (h : PStep w w2 pb mb d f L vb vb') (hv : OwT w w2 v l) (hg : w2.grownBy w4 v.ownBlock) : PStep w w4 pb mb d f L vb vb' :=
  ⟨h.past.grown hv.own hg, h.touch.grown hg (fun k hk hlt => by have := hv.new k hk; omega), h.own⟩
/-- Where tokens stand in their loop: what is learnt, what is told, and what was there before. -/
structure TkS (w0 w : World) (pb mb : Nat) (d : ByteArray) (f p : Nat) (vb v : Value) (l : List T3) : Prop where
  past : ∃ L vb', f ≤ L ∧ L ≤ p ∧ PStep w0 w pb mb d f L vb vb'
  toks : OwT w0 w v l
set_option maxRecDepth 100000 in
set_option maxHeartbeats 8000000 in
theorem tokens_any (d : ByteArray) (pb mb f L p0 t reach : Nat) (vb : Value) (w : World) (h : Past w pb mb d f L vb) (hfL : f ≤ L) (hLp : L ≤ p0) (hpt : p0 ≤ t) (ht : t ≤ d.size) (hd : d.size ≤ 1073741824) (hr : reach ≤ 32768) :
    Calls Try.prog 22 #[.pointer (some ⟨pb, 0, none⟩), .agg #[.int .i64 (p0 : Nat), .int .i64 (t : Nat)], .int .i64 (reach : Nat)] w fun e w' => ∃ v, e = .returned v ∧ ∃ p1, TkS w w' pb mb d f p1 vb v (tks d f t reach (t - p0) p0) := by
  obtain ⟨i0, hi34, hz0, hz1, hz2⟩ := info_parts info34
  have H := hid h
  have TA := hid ((Touch.refl (fun _ => False) w).alloc (.cells #[.int .i64 (p0 : Nat), .int .i64 (t : Nat)] 71))
  have FB := hid (show (w.alloc (.cells #[.int .i64 (p0 : Nat), .int .i64 (t : Nat)] 71)).heap[w.heap.size]? = some (.cells #[.int .i64 (p0 : Nat), .int .i64 (t : Nat)] 71 (0, 0)) by show (w.heap.push _)[_]? = _; simp)
  clear h
  go_enter Try.func22, Try.ntmps22
  go_upto_region 1 with fail
  generalize (w.alloc (.cells #[.int .i64 (p0 : Nat), .int .i64 (t : Nat)] 71)) = w1 at *
  obtain ⟨q, hq⟩ : ∃ q, q = w.heap.size := ⟨_, rfl⟩
  rw [← hq] at FB ⊢
  have HQ := hid (show w.heap.size ≤ q by omega)
  clear hq
  have c0 : w1.cell? ⟨q, 0, none⟩ = some (.int .i64 (p0 : Nat)) := blk_cell FB.out 0 (by simp)
  have P1 := hid ((PStep.refl H.out).still TA.out)
  go_wp2_with fail
  go_loopg [7, 8] (t - p0) (fun gk v7 v8 wq => ∃ (p : Nat) (l : List T3), v8 = .int .i64 (p : Nat) ∧ p ≤ t ∧ t - p ≤ gk ∧ l.length ≤ p ∧ l ++ tks d f t reach gk p = tks d f t reach (t - p0) p0 ∧ TkS w wq pb mb d f p vb v7 l ∧ wq.heap[q]? = some (.cells #[.int .i64 (p0 : Nat), .int .i64 (t : Nat)] 71 (0, 0)))
  case atStart => exact ⟨p0, [], rfl, hpt, Nat.le_refl _, by simp, rfl, ⟨⟨L, vb, hfL, hLp, P1.out⟩, OwT.nil _ _⟩, FB.out⟩
  case round =>
    obtain ⟨p, l, rfl, hpp, hpg, hlp, heq, hts, hqb⟩ := hrel
    have EQ := hid heq
    have TS := hid hts
    have QB := hid hqb
    have c1 : wr.cell? ⟨q, 1, none⟩ = some (.int .i64 (t : Nat)) := blk_cell hqb 1 (by simp)
    obtain ⟨a7, c7, hv7⟩ := own_shapeQ hts.toks.own
    subst hv7
    clear heq hqb
    by_cases hlt : p < t
    · have hltI : (p : Int) < (t : Int) := by omega
      obtain ⟨g, rfl⟩ : ∃ g, gk = g + 1 := ⟨gk - 1, by omega⟩
      obtain ⟨L1, vb1, hf1, hl1, ps1⟩ := hts.past
      have PS1 := hid ps1
      have KF := hid (find_any d pb mb f L1 p t reach vb1 wr ps1.past hf1 hl1 hpp ht hd hr)
      obtain ⟨hle1, hle2⟩ := fnd_le d f p t reach
      have STEP := hid (show tks d f t reach (g + 1) p = if (fnd d f p t reach).1 < 3 then ((Bt.byteN d p : Int), 0, 0) :: tks d f t reach g (p + 1) else (0, ((fnd d f p t reach).1 : Int), ((fnd d f p t reach).2 : Int)) :: tks d f t reach g (p + (fnd d f p t reach).1) by rw [tks, if_pos hlt])
      generalize (fnd d f p t reach).1 = fl at *
      generalize (fnd d f p t reach).2 = fd at *
      clear ps1 hts
      go_wp2_with fail
      refine KF.out.mono ?_
      rintro e w2 ⟨rfl, L2, vb2, hf2, hl2, ps2⟩
      have PS2 := hid (PS1.out.trans ps2)
      have OT := hid (TS.out.toks.step PS1.out.past ps2)
      have QB2 := hid ((ps2.touch.block q (lt_of_block QB.out) (past_ne PS1.out.past QB.out (by decide) (by decide))).trans QB.out)
      clear ps2 KF
      have WSZ := hid PS2.out.touch.size
      by_cases hsh : fl < 3
      · have hshI : (fl : Int) < 3 := by omega
        obtain ⟨u, hu⟩ : ∃ u : Nat, u = d[p].toNat := ⟨_, rfl⟩
        have hbu : d[p].toNat = u := hu.symm
        have hpd : (p : Int) < (d.size : Int) := by omega
        have s0 : w2.cell? ⟨pb, 0, none⟩ = some (.string d) := blk_cell PS2.out.past.blk 0 (by simp)
        have SX := hid (show tks d f t reach (g + 1) p = ((u : Int), 0, 0) :: tks d f t reach g (p + 1) by rw [STEP.out, if_pos hsh, byteN_at d p (by omega), hbu])
        clear hu STEP
        have O2 := hid (OT.out.still ((Touch.refl (fun _ => False) w2).alloc (.cells #[.int .u8 ((u : Int)), .int .i64 (0), .int .i64 (0)] 34)))
        have PA := hid (PS2.out.still ((Touch.refl (fun _ => False) w2).alloc (.cells #[.int .u8 ((u : Int)), .int .i64 (0), .int .i64 (0)] 34)))
        have QA := hid ((((Touch.refl (fun _ => False) w2).alloc (.cells #[.int .u8 ((u : Int)), .int .i64 (0), .int .i64 (0)] 34)).block q (lt_of_block QB2.out) id).trans QB2.out)
        go_wp2_with (at_builtin; refine wpList_append_own_at _ rfl _ _ 26 rfl 0 34 i0 (.agg #[.int .u8 0, .int .i64 0, .int .i64 0]) 3 24 Try.underlying26 hi34 hz0 hz1 hz2 rfl (by decide) _ _ _ rfl O2.out.own ⟨w2.heap.size, 0, none⟩ 1 1 (flatT [(((u : Int) : Int), (0 : Int), (0 : Int))]) rfl rfl (newsT (Touch.refl _ _)) (flatT_one _) (by unfold maxLen; omega) (by omega) (Nat.zero_le _) ?_)
        intro v4 w4 hown hgrow _ hat
        obtain ⟨a4, c4, hv4⟩ := own_shapeQ hown
        subst hv4
        have TK := hid (show TkS w w4 pb mb d f (p + 1) vb (.slice a4 (l.length + 1) c4) (l ++ [(((u : Int) : Int), (0 : Int), (0 : Int))]) from ⟨⟨L2, vb2, hf2, by omega, PA.out.grown O2.out hgrow⟩, O2.out.app (w2.heap.size + 1) (Nat.le_trans WSZ.out (Nat.le_succ _)) hown (by simpa using hat)⟩)
        have QF := hid ((hgrow.block q (lt_of_block QA.out) (fun e => by
          obtain ⟨cur, hc⟩ := own_ty O2.out.own e.symm
          rw [QA.out] at hc
          simp at hc)).trans QA.out)
        clear hown hgrow hat O2 PA QA
        go_wp2
        go_roundg g
        case measure => omega
        case rel => exact ⟨p + 1, l ++ [(((u : Int) : Int), (0 : Int), (0 : Int))], by go_num, by omega, by omega, by rw [List.length_append]; simp; omega, by rw [← EQ.out, SX.out, List.append_assoc]; rfl, TK.out, QF.out⟩
      · have hshI : ¬ ((fl : Int) < 3) := by omega
        have SX := hid (show tks d f t reach (g + 1) p = (0, (fl : Int), (fd : Int)) :: tks d f t reach g (p + fl) by rw [STEP.out, if_neg hsh])
        clear STEP
        have O2 := hid (OT.out.still ((Touch.refl (fun _ => False) w2).alloc (.cells #[.int .u8 (0), .int .i64 ((fl : Int)), .int .i64 ((fd : Int))] 34)))
        have PA := hid (PS2.out.still ((Touch.refl (fun _ => False) w2).alloc (.cells #[.int .u8 (0), .int .i64 ((fl : Int)), .int .i64 ((fd : Int))] 34)))
        have QA := hid ((((Touch.refl (fun _ => False) w2).alloc (.cells #[.int .u8 (0), .int .i64 ((fl : Int)), .int .i64 ((fd : Int))] 34)).block q (lt_of_block QB2.out) id).trans QB2.out)
        go_wp2_with (at_builtin; refine wpList_append_own_at _ rfl _ _ 26 rfl 0 34 i0 (.agg #[.int .u8 0, .int .i64 0, .int .i64 0]) 3 24 Try.underlying26 hi34 hz0 hz1 hz2 rfl (by decide) _ _ _ rfl O2.out.own ⟨w2.heap.size, 0, none⟩ 1 1 (flatT [((0 : Int), ((fl : Int) : Int), ((fd : Int) : Int))]) rfl rfl (newsT (Touch.refl _ _)) (flatT_one _) (by unfold maxLen; omega) (by omega) (Nat.zero_le _) ?_)
        intro v4 w4 hown hgrow _ hat
        obtain ⟨a4, c4, hv4⟩ := own_shapeQ hown
        subst hv4
        have TK := hid (show TkS w w4 pb mb d f (p + fl) vb (.slice a4 (l.length + 1) c4) (l ++ [((0 : Int), ((fl : Int) : Int), ((fd : Int) : Int))]) from ⟨⟨L2, vb2, hf2, by omega, PA.out.grown O2.out hgrow⟩, O2.out.app (w2.heap.size + 1) (Nat.le_trans WSZ.out (Nat.le_succ _)) hown (by simpa using hat)⟩)
        have QF := hid ((hgrow.block q (lt_of_block QA.out) (fun e => by
          obtain ⟨cur, hc⟩ := own_ty O2.out.own e.symm
          rw [QA.out] at hc
          simp at hc)).trans QA.out)
        clear hown hgrow hat O2 PA QA
        go_wp2
        go_roundg g
        case measure => omega
        case rel => exact ⟨p + fl, l ++ [((0 : Int), ((fl : Int) : Int), ((fd : Int) : Int))], by go_num, by omega, by omega, by rw [List.length_append]; simp; omega, by rw [← EQ.out, SX.out, List.append_assoc]; rfl, TK.out, QF.out⟩
    · have hltI : ¬ ((p : Int) < (t : Int)) := by omega
      obtain rfl : p = t := by omega
      have EN := hid (show l = tks d f p reach (p - p0) p0 by
        rw [← EQ.out]
        cases gk with
        | zero => rw [tks, List.append_nil]
        | succ g => rw [tks, if_neg (by omega), List.append_nil])
      clear hts
      go_wp2_with fail
      go_ret
      exact ⟨_, rfl, p, by rw [← EN.out]; exact TS.out⟩
end Go.Proofs.Ythengfclijclmaa

/- Tokens; conditions: those told. -/
namespace Go.Proofs.Ythengfclijclmaa
open Go.RowKit
open Go.Lib

open Go.Maps
theorem lastP_none (d : ByteArray) (f : Nat) : ∀ (L key : Nat), L ≤ f → lastP d f L key = -1
  | 0, _, _ => rfl
  | L + 1, key, h => by
    unfold lastP
    rw [if_neg (by omega)]
    exact lastP_none d f L key (by omega)
set_option maxRecDepth 100000 in
set_option maxHeartbeats 8000000 in
theorem newPast_past (d : ByteArray) (f : Nat) (w : World) : Calls Try.prog 15 #[.string d, .int .i64 (f : Nat)] w fun e w' => ∃ p m, e = .returned (.pointer (some ⟨p, 0, none⟩)) ∧ Past w' p m d f f (.slice none 0 0) ∧ Touch (fun _ => False) w w' ∧ w.heap.size ≤ p ∧ w.heap.size ≤ m := by
  have hmm := @run_makeMap Try.prog
  have HP := hid (show Past ((w.alloc (.map #[] 0)).alloc (.cells #[.string d, .int .i64 (f : Nat), .map (some w.heap.size), .slice none 0 0] 98)) (w.heap.size + 1) w.heap.size d f f (.slice none 0 0) from by
    refine ⟨?_, ⟨.map [], ?_, ⟨[], rfl⟩, fun key => ?_⟩, ?_⟩
    · have h2 : (w.heap.push (Obj.map #[] 0)).size = w.heap.size + 1 := Array.size_push _
      have h3 := Array.getElem?_push_size (xs := w.heap.push (Obj.map #[] 0)) (x := Obj.cells #[.string d, .int .i64 (f : Nat), .map (some w.heap.size), .slice none 0 0] 98)
      rw [h2] at h3
      exact h3
    · rw [Nat.sub_self]
      exact (World.ownsMap_made w Try.prog 3 _).alloc _
    · rw [lastP_none d f f key (Nat.le_refl _)]
      rfl
    · rw [Nat.sub_self]
      exact World.ownsRow_nil _ _ _ _)
  go_enter Try.func15, Try.ntmps15
  go_wp2
  go_ret
  exact ⟨_, _, by first | rfl | simp, HP.out, ((Touch.refl _ _).alloc _).alloc _, Nat.le_succ _, Nat.le_refl _⟩
/-- The tokens of a span, as they lie behind a call. -/
structure TkR (w w' : World) (v : Value) (l : List T3) : Prop where
  toks : OwT w w' v l
  touch : Touch (fun _ => False) w w'
set_option maxRecDepth 100000 in
set_option maxHeartbeats 8000000 in
theorem tokens10_any (d : ByteArray) (f t : Nat) (r : Int) (R F : Nat) (w : World) (hft : f ≤ t) (ht : t ≤ d.size) (hd : d.size ≤ 1073741824) (hR : cnted r = (R : Int)) (hF : F = f - R) :
    Calls Try.prog 10 #[.string d, .int .i64 (f : Nat), .int .i64 (t : Nat), .int .i64 r] w fun e w' => ∃ v, e = .returned v ∧ TkR w w' v (tks d F t R (t - f) f) := by
  have hRb : R ≤ 32768 := by have := cnted_in r; omega
  have CN := hid (fun w => counted_any r w)
  rw [hR] at CN
  have NP := hid (fun w => newPast_past d F w)
  have TK := hid (fun (pb mb : Nat) (w : World) (h : Past w pb mb d F F (.slice none 0 0)) => tokens_any d pb mb F F f t R _ w h (Nat.le_refl _) (by omega) hft ht hd hRb)
  have h1 : ¬ ((f : Int) < 0) := by omega
  have h2 : ¬ ((t : Int) < (f : Int)) := by omega
  have h3 : ¬ ((d.size : Int) < (t : Int)) := by omega
  have hm : (F : Int) = 0 ∧ (f : Int) - (R : Int) < 0 ∨ 0 ≤ (f : Int) - (R : Int) ∧ (f : Int) - (R : Int) = (F : Int) := by omega
  have hfb : (f : Int) ≤ 1073741824 := by omega
  clear hF hft ht hR hd
  go_enter Try.func10, Try.ntmps10
  go_wp2_with fail
  refine (CN.out w).mono ?_
  rintro e w1 ⟨rfl, rfl⟩
  clear CN
  rcases hm with ⟨hA, hB⟩ | ⟨hA, hB⟩
  · have hF0 : F = 0 := by omega
    subst hF0
    clear hA
    have NP0 : ∀ w, Calls Try.prog 15 #[.string d, .int .i64 0] w fun e w' => ∃ p m, e = .returned (.pointer (some ⟨p, 0, none⟩)) ∧ Past w' p m d 0 0 (.slice none 0 0) ∧ Touch (fun _ => False) w w' ∧ w.heap.size ≤ p ∧ w.heap.size ≤ m := NP.out
    clear NP
    go_wp2_with fail
    refine (NP0 w).mono ?_
    rintro e w1 ⟨p, m, rfl, hp, ht, hp0, hm0⟩
    have HP := hid hp
    have HT := hid (And.intro ht (And.intro hp0 hm0))
    clear NP0 hp ht hp0 hm0
    go_wp2_with fail
    refine (TK.out p m w1 HP.out).mono ?_
    rintro e w2 ⟨v, rfl, p1, tk⟩
    have T := hid tk
    clear tk TK HP
    go_wp2_with fail
    go_ret
    refine ⟨_, rfl, ⟨T.out.toks.own, fun g hg => Nat.le_trans HT.out.1.size (T.out.toks.new g hg)⟩, ?_⟩
    obtain ⟨L, vb, _, _, ps⟩ := T.out.past
    obtain ⟨t0, hp0, hm0⟩ := HT.out
    refine t0.trans ps.touch (fun i hi e => ?_)
    rcases e with e | e | e
    · omega
    · omega
    · simp [Value.ownBlock] at e
  · have NP0 : ∀ w, Calls Try.prog 15 #[.string d, .int .i64 ((f : Int) - (R : Int))] w fun e w' => ∃ p m, e = .returned (.pointer (some ⟨p, 0, none⟩)) ∧ Past w' p m d F F (.slice none 0 0) ∧ Touch (fun _ => False) w w' ∧ w.heap.size ≤ p ∧ w.heap.size ≤ m := by rw [hB]; exact NP.out
    clear NP hB
    go_wp2_with fail
    refine (NP0 w).mono ?_
    rintro e w1 ⟨p, m, rfl, hp, ht, hp0, hm0⟩
    have HP := hid hp
    have HT := hid (And.intro ht (And.intro hp0 hm0))
    clear NP0 hp ht hp0 hm0
    go_wp2_with fail
    refine (TK.out p m w1 HP.out).mono ?_
    rintro e w2 ⟨v, rfl, p1, tk⟩
    have T := hid tk
    clear tk TK HP
    go_wp2_with fail
    go_ret
    refine ⟨_, rfl, ⟨T.out.toks.own, fun g hg => Nat.le_trans HT.out.1.size (T.out.toks.new g hg)⟩, ?_⟩
    obtain ⟨L, vb, _, _, ps⟩ := T.out.past
    obtain ⟨t0, hp0, hm0⟩ := HT.out
    refine t0.trans ps.touch (fun i hi e => ?_)
    rcases e with e | e | e
    · omega
    · omega
    · simp [Value.ownBlock] at e
end Go.Proofs.Ythengfclijclmaa

/- How many tokens a byte again and again makes; conditions: those told. -/
namespace Go.Proofs.Ythengfclijclmaa
open Go.RowKit
open Go.Lib

theorem tks_zero (d : ByteArray) (f t : Nat) : ∀ (g p : Nat), t - p ≤ g → (tks d f t 0 g p).length = t - p
  | 0, p, h => by unfold tks; simp; omega
  | g + 1, p, h => by
    unfold tks
    by_cases hp : p < t
    · have e0 : fnd d f p t 0 = (0, 0) := by unfold fnd; rw [if_pos (.inr rfl)]
      rw [if_pos hp, e0, if_pos (by decide), List.length_cons, tks_zero d f t g (p + 1) (by omega)]
      omega
    · rw [if_neg hp]
      simp
      omega
theorem eqN_all (d : ByteArray) (p q : Nat) : ∀ (g n : Nat), (∀ i, n ≤ i → i < n + g → Bt.byteN d (p + i) = Bt.byteN d (q + i)) → eqN d p q g n = n + g
  | 0, n, _ => rfl
  | g + 1, n, h => by
    rw [eqN_step (h n (Nat.le_refl _) (by omega)), eqN_all d p q g (n + 1) (fun i h1 h2 => h i (by omega) (by omega))]
    omega
theorem fndGo_full (d : ByteArray) (f p most reach : Nat) (g : Nat) (pl : Int) (dist : Nat) : fndGo d f p most reach g pl most dist = (most, dist) := by
  cases g with
  | zero => rfl
  | succ g =>
    unfold fndGo
    rw [if_neg (by omega)]
theorem same_fnd (d : ByteArray) (b : Nat) (hb : ∀ i, i < d.size → Bt.byteN d i = b) (p : Nat) (hp : 1 ≤ p) (h3 : p + 3 ≤ d.size) : fnd d 0 p d.size 1 = (min 258 (d.size - p), 1) := by
  obtain ⟨most, hm⟩ : ∃ most, most = min 258 (d.size - p) := ⟨_, rfl⟩
  obtain ⟨q, rfl⟩ : ∃ q, p = q + 1 := ⟨p - 1, by omega⟩
  have hk : ∀ i, i + 2 < d.size → k3 d i = b + 256 * b + 65536 * b := fun i hi => by
    unfold k3
    rw [hb i (by omega), hb (i + 1) (by omega), hb (i + 2) hi]
  have hl : lastP d 0 (q + 1) (k3 d (q + 1)) = (q : Int) := by
    unfold lastP
    rw [if_pos ⟨Nat.zero_le _, by rw [hk q (by omega), hk (q + 1) (by omega)]⟩]
  have hs : smN d q (q + 1) 2 most = most := by
    unfold smN
    rw [if_pos (by rw [hb (q + 2) (by omega), hb (q + 1 + 2) (by omega)]), eqN_all d q (q + 1) most 0 (fun i _ hi => by rw [hb (q + i) (by omega), hb (q + 1 + i) (by omega)])]
    omega
  have hg : fndGo d 0 (q + 1) most 1 (q + 1 + 1) (q : Int) 2 0 = (most, 1) := by
    unfold fndGo
    rw [if_pos ⟨by omega, by omega, by omega⟩]
    show (if 2 < smN d ((q : Int).toNat) (q + 1) 2 most then _ else _) = _
    rw [Int.toNat_natCast, hs, if_pos (by omega), fndGo_full]
    congr 1
    omega
  unfold fnd
  rw [← hm, if_neg (by omega), hl, hg, if_neg (show ¬ (1 : Nat) = 0 by decide)]
/-- How many tokens so many bytes make behind a first one like them. -/
def cS (m : Nat) : Nat := m / 258 + if 3 ≤ m % 258 then 1 else m % 258
theorem tks_same (d : ByteArray) (b : Nat) (hb : ∀ i, i < d.size → Bt.byteN d i = b) : ∀ (g p : Nat), 1 ≤ p → d.size - p ≤ g → (tks d 0 d.size 1 g p).length = cS (d.size - p)
  | 0, p, _, h => by
    have : d.size - p = 0 := by omega
    rw [this]
    rfl
  | g + 1, p, hp, h => by
    unfold tks
    by_cases hlt : p < d.size
    · rw [if_pos hlt]
      by_cases h3 : p + 3 ≤ d.size
      · rw [same_fnd d b hb p hp h3]
        rw [if_neg (show ¬ min 258 (d.size - p) < 3 by omega), List.length_cons, tks_same d b hb g _ (by omega) (by omega)]
        show cS (d.size - (p + min 258 (d.size - p))) + 1 = _
        obtain ⟨m, hm⟩ : ∃ m, m = d.size - p := ⟨_, rfl⟩
        have e : d.size - (p + min 258 (d.size - p)) = m - min 258 m := by omega
        rw [e, ← hm]
        by_cases h258 : 258 ≤ m
        · obtain ⟨x, rfl⟩ : ∃ x, m = x + 258 := ⟨m - 258, by omega⟩
          have e2 : x + 258 - min 258 (x + 258) = x := by omega
          rw [e2]
          unfold cS
          rw [Nat.add_mod_right, Nat.add_div_right _ (by decide)]
          omega
        · have e2 : m - min 258 m = 0 := by omega
          rw [e2, show cS 0 = 0 from rfl]
          unfold cS
          rw [Nat.mod_eq_of_lt (by omega : m < 258), Nat.div_eq_of_lt (by omega : m < 258), if_pos (by omega)]
      · have e0 : fnd d 0 p d.size 1 = (0, 0) := by unfold fnd; rw [if_pos (.inl (by omega))]
        rw [e0, if_pos (by decide), List.length_cons, tks_same d b hb g (p + 1) (by omega) (by omega)]
        have hc : d.size - p = 1 ∨ d.size - p = 2 := by omega
        rcases hc with hc | hc
        · have : d.size - (p + 1) = 0 := by omega
          rw [this, hc]
          decide
        · have : d.size - (p + 1) = 1 := by omega
          rw [this, hc]
          decide
    · rw [if_neg hlt]
      have : d.size - p = 0 := by omega
      rw [this]
      rfl
/-- How many tokens a byte again and again makes. -/
theorem tks_same0 (d : ByteArray) (b : Nat) (hb : ∀ i, i < d.size → Bt.byteN d i = b) : (tks d 0 d.size 1 d.size 0).length = min d.size 1 + cS (d.size - min d.size 1) := by
  by_cases h0 : d.size = 0
  · have e : min d.size 1 = 0 := by omega
    rw [e, h0]
    rfl
  · have e : min d.size 1 = 1 := by omega
    have e0 : fnd d 0 0 d.size 1 = (0, 0) := by
      unfold fnd
      split
      · rfl
      · rename_i hs
        have : fndGo d 0 0 (min 258 (d.size - 0)) 1 (0 + 1) (lastP d 0 0 (k3 d 0)) 2 0 = (2, 0) := rfl
        rw [this, if_pos rfl]
    obtain ⟨g, hg⟩ : ∃ g, d.size = g + 1 := ⟨d.size - 1, by omega⟩
    have hh := tks_same d b hb g 1 (Nat.le_refl _) (by omega)
    rw [e, ← hh]
    have : tks d 0 d.size 1 d.size 0 = tks d 0 d.size 1 (g + 1) 0 := by rw [← hg]
    rw [this]
    show (tks d 0 d.size 1 (g + 1) 0).length = _
    rw [tks, if_pos (by omega), e0, if_pos (by decide), List.length_cons, Nat.add_comm]
end Go.Proofs.Ythengfclijclmaa
