/- Texts of this proof, one behind the other: what each says stands ahead of it. -/
import Derived.Test.YtpjnnbegimaaeabM5
import Derived.Test.YtpjnnbegimaaeabM2
import Derived.Test.YtpjnnbegimaaeabM0
/- The document's Canon of two lists of ranges: what it answers; no condition beside those told. -/
namespace Go.Proofs.Ytpjnnbegimaaeab
open Go.RowKit

theorem run_append_none47 (w : World) (ty : TypeId) (v : Value) (n : Nat) (xs : List Value) (hown : w.ownsRow 0 47 2 v n xs) (a : Option Addr) (c : Nat) :
    (Builtin.append_ #[26, 26] ty #[v, .slice a 0 c]).run Try.prog w = .ok v w := by
  obtain ⟨i0, hin, hz0, hz1, hz2⟩ := info_parts info47
  have hld : ∀ ad, (loadCells ad 0).run Try.prog w = .ok #[] w := fun ad => rfl
  rcases hown.2 with ⟨rfl, rfl⟩ | ⟨g, cap, cur, rfl, hbg, hg, hnc, hcm, hcs, htake⟩ <;> cases a <;>
    simp [Builtin.append_, run_underlying Try.underlying26, sizeOf, typeInfo, Builtin.lenOf, Builtin.firstCells, storeCells, *]

theorem run_append_rg47 (w : World) (ty : TypeId) (v : Value) (n : Nat) (xs : List Value) (hown : w.ownsRow 0 47 2 v n xs) (a : Option Addr) (c : Nat) (l : List R2) (hl : Rg w a l) (hb : (n + l.length) * 16 ≤ 140737488355328) :
    ∃ v' w', (Builtin.append_ #[26, 26] ty #[v, .slice a l.length c]).run Try.prog w = .ok v' w' ∧ w'.ownsRow 0 47 2 v' (n + l.length) (xs ++ flatR l) ∧ w.grownBy w' v.ownBlock ∧ (v'.ownBlock = v.ownBlock ∨ v'.ownBlock = some w.heap.size) := by
  obtain ⟨i0, hin, hz0, hz1, hz2⟩ := info_parts info47
  rcases hl with rfl | ⟨b, o, rfl, _, hc⟩
  · refine ⟨v, w, run_append_none47 w ty v n xs hown a c, ?_, ⟨rfl, rfl, rfl, Nat.le_refl _, fun _ _ _ => rfl⟩, .inl rfl⟩
    rw [show flatR [] = [] from rfl, List.append_nil]
    exact hown
  · obtain ⟨v', w', h1, h2, h3, _, h4⟩ := run_append_own_at (P := Try.prog) w 0 26 ty 47 i0 (.agg #[.int .i64 0, .int .i64 0]) 2 16 Try.underlying26 hin hz0 hz1 hz2 rfl (by decide) v n xs hown ⟨b, o, none⟩ l.length c (flatR l) (length_flatR l) (rg_cells hc) (flatR_one l) (by unfold maxLen; omega) hb (Nat.zero_le _)
    exact ⟨v', w', h1, h2, h3, h4⟩

theorem wpList_append_rg47 (w : World) {ops : Array Oper} {rest : List Oper} {o : Oper} {a : Act} {Q : Exit → Act → World → Prop} (hgd : o.guard = none) (s x : Operand)
    (ho : o.op = .call { callee := .builtin .append, args := #[s, x], argTypes := #[26, 26] })
    (v : Value) (n : Nat) (xs : List Value) (hs : a.eval s = v) (hown : w.ownsRow 0 47 2 v n xs) (ad : Option Addr) (c : Nat) (l : List R2) (hx : a.eval x = .slice ad l.length c) (hl : Rg w ad l) (hb : (n + l.length) * 16 ≤ 140737488355328)
    (h : ∀ v' w', w'.ownsRow 0 47 2 v' (n + l.length) (xs ++ flatR l) → w.grownBy w' v.ownBlock → (v'.ownBlock = v.ownBlock ∨ v'.ownBlock = some w.heap.size) → wpList Try.prog ops Q rest (a.put o.dst v') w') : wpList Try.prog ops Q (o :: rest) a w := by
  refine wpList_plain hgd fun K hK => ?_
  obtain ⟨v', w', hr, h2, h3, h4⟩ := run_append_rg47 w o.type v n xs hown ad c l hl hb
  unfold Oper.wp execOp
  simp only [ho, resolve, invoke, builtin, Sem.run_bind, Sem.run_pure, Result.andThen_ok, List.map_toArray, List.map_cons, List.map_nil, hs, hx, hr]
  exact hK _ _ (h v' w' h2 h3 h4)

theorem OwE.on {W0 wr w1 : World} {e : TypeId} {v v' : Value} {s xs : List R2} (h : OwE W0 wr e v s) (hown : w1.ownsRow 0 e 2 v' (s.length + xs.length) (flatR s ++ flatR xs)) (hg : wr.grownBy w1 v.ownBlock) (hat : v'.ownBlock = v.ownBlock ∨ v'.ownBlock = some wr.heap.size) : OwE W0 w1 e v' (s ++ xs) := by
  refine ⟨?_, fun g hg' => ?_, h.touch.grown hg (fun k e hk => by have := h.new k e; omega)⟩
  · rw [List.length_append, flatR_append]
    exact hown
  · rcases hat with e | e
    · exact h.new g (by rw [← e]; exact hg')
    · rw [e] at hg'
      simp at hg'
      have := h.touch.size
      omega
theorem OwE.last {W0 wr : World} {e : TypeId} {v : Value} {s0 : List R2} {t1 t2 : Int} (h : OwE W0 wr e v (s0 ++ [(t1, t2)])) : ∃ g cap, v = .slice (some ⟨g, 0, none⟩) (s0.length + 1) cap ∧ wr.cell? ⟨g, s0.length * 2 + 1, none⟩ = some (.int .i64 t2) ∧ wr.frozen? ⟨g, s0.length * 2 + 1, none⟩ = false ∧ g < wr.heap.size := by
  have hl : (s0 ++ [(t1, t2)]).length = s0.length + 1 := by simp
  rcases h.own.2 with ⟨_, h0⟩ | ⟨g, cap, cur, hv, hg, hh, rest⟩
  · omega
  · refine ⟨g, cap, by rw [hv, hl], ?_, by simp [World.frozen?, hh], lt_of_block hh⟩
    have := h.own.cells (g := g) (by rw [hv]; rfl) (s0.length * 2 + 1) (.int .i64 t2) (by
      have := flatR_get1 (s0 ++ [(t1, t2)]) s0.length (by simp)
      rw [show 2 * s0.length + 1 = s0.length * 2 + 1 by omega] at this
      simpa using this)
    rwa [add_g] at this
theorem OwE.set {W0 wr : World} {e : TypeId} {g n cap : Nat} {s0 : List R2} {t1 t2 : Int} (h : OwE W0 wr e (.slice (some ⟨g, 0, none⟩) n cap) (s0 ++ [(t1, t2)])) (hn : n = (s0 ++ [(t1, t2)]).length) (y : Int) : OwE W0 (wr.setCell ⟨g, s0.length * 2 + 1, none⟩ (.int .i64 y)) e (.slice (some ⟨g, 0, none⟩) n cap) (s0 ++ [(t1, y)]) := by
  subst hn
  refine ⟨?_, h.new, h.touch.setCell (p := ⟨g, _, none⟩) (fun hlt => by have := h.new g rfl; simp at hlt; omega) _⟩
  have := own_set h.own (s0.length * 2 + 1) (.int .i64 y)
  have e : (flatR (s0 ++ [(t1, t2)])).set (s0.length * 2 + 1) (.int .i64 y) = flatR (s0 ++ [(t1, y)]) := by
    rw [flatR_append, flatR_append, List.set_append_right _ _ (by rw [length_flatR]; omega), length_flatR]
    rw [show s0.length * 2 + 1 - s0.length * 2 = 1 by omega]
    rfl
  rw [e] at this
  simpa using this

theorem Edgy.top {l : List R2} {e : List Int} (h : Edgy l e) (m : Nat) (n : Int) (hm : e[m]? = some n) : ∀ d i a, i + d = m → e[i]? = some a → a ≤ n
  | 0, i, a, hi, ha => by
    obtain rfl : i = m := by omega
    rw [hm] at ha
    simp at ha
    omega
  | d + 1, i, a, hi, ha => by
    have hlt : m < e.length := by
      rcases Nat.lt_or_ge m e.length with k | k
      · exact k
      · rw [List.getElem?_eq_none k] at hm; cases hm
    have hb : e[i + 1]? = some (e[i + 1]'(by omega)) := List.getElem?_eq_getElem (by omega)
    have h1 := (h.up i _ _ ha hb).1
    have h2 := h.top m n hm d (i + 1) _ (by omega) hb
    omega

/-- What the mask says of a number that is in the one, in the other. -/
def wantB (m0 m1 m2 m3 A B : Bool) : Bool := if A then (if B then m3 else m1) else (if B then m2 else m0)
def wants (m0 m1 m2 m3 : Bool) (a b : List R2) (x : Int) : Prop := wantB m0 m1 m2 m3 (hasB x a) (hasB x b) = true

theorem addR_len (o : List R2) (a b : Int) : (addR o a b).length ≤ o.length + 1 := by
  rcases List.eq_nil_or_concat o with e | ⟨o0, t, e⟩
  · subst e; simp [addR_nil]
  · rw [List.concat_eq_append] at e
    subst e
    by_cases c : t.2 = a - 1
    · rw [addR_join o0 t a b c]; simp
    · rw [addR_more o0 t a b c]; simp

theorem ig_at {w : World} {b k : Nat} {E : List Int} {x : Int} (h : Ig w (some ⟨b, 0, none⟩) E) (hx : E[k]? = some x) : w.cell? ⟨b, k, none⟩ = some (.int .i64 x) := by
  obtain ⟨b2, hb, _, hc⟩ := h
  simp only [Option.some.injEq, Addr.mk.injEq, and_true] at hb
  subst hb
  have hlt : k < E.length := by
    rcases Nat.lt_or_ge k E.length with q | q
    · exact q
    · rw [List.getElem?_eq_none q] at hx; cases hx
  rw [List.getElem?_eq_getElem hlt] at hx
  rw [hc k hlt, Option.some.inj hx]

theorem four_new (w : World) (m0 m1 m2 m3 : Bool) (t : TypeId) (i : Nat) (u : Value) (h : #[Value.bool m0, .bool m1, .bool m2, .bool m3][i]? = some u) : (w.alloc (.cells #[.bool m0, .bool m1, .bool m2, .bool m3] t)).cell? ⟨w.heap.size, i, none⟩ = some u := by
  rw [World.cell?_alloc_at _ _ _ _ (by simp at h ⊢)]
  exact h

set_option maxRecDepth 100000 in
set_option maxHeartbeats 8000000 in
theorem canon_any (a1 a2 : Option Addr) (c1 c2 : Nat) (a b : List R2) (m0 m1 m2 m3 : Bool) (w : World) (h1 : Rg w a1 a) (h2 : Rg w a2 b) (hb : a.length + b.length ≤ 4194304) :
    Calls Try.prog 18 #[.slice a1 a.length c1, .slice a2 b.length c2, .agg #[.bool m0, .bool m1, .bool m2, .bool m3]] w fun e w' => ∃ v n, e = .returned v ∧ Canon n ∧ (∀ x, In x n ↔ (0 ≤ x ∧ x ≤ 1114111) ∧ wants m0 m1 m2 m3 a b x) ∧ OwE w w' 47 v n := by
  obtain ⟨j0, hi47, hy0, hy1, hy2⟩ := info_parts info47
  obtain ⟨i0, hi3, hz0, hz1, hz2⟩ := info_parts info3
  have H1 := hid h1
  have H2 := hid h2
  clear h1 h2
  go_enter Try.func18, Try.ntmps18
  go_upto_region 2 with fail
  have TA := hid ((Touch.refl (fun _ => False) w).alloc (.cells #[.bool m0, .bool m1, .bool m2, .bool m3] 41))
  have WC := hid (show (w.alloc (.cells #[.bool m0, .bool m1, .bool m2, .bool m3] 41)).heap[w.heap.size]? = some (.cells #[.bool m0, .bool m1, .bool m2, .bool m3] 41 (0, 0)) from by show (w.heap.push _)[_]? = _; simp)
  generalize hB : w.heap.size = wb
  rw [hB] at WC
  have HWB := hid hB
  clear hB
  generalize (w.alloc (.cells #[.bool m0, .bool m1, .bool m2, .bool m3] 41)) = wA at *
  have RA := hid (H1.out.new TA.out)
  have RB := hid (H2.out.new TA.out)
  have O0 := hid (OwE.nil wA 47)
  go_wp2_with (at_builtin; refine wpList_append_rg47 _ rfl _ _ rfl _ 0 [] rfl O0.out.own a1 c1 a rfl RA.out (by omega) ?_)
  intro v1 wB hown hgrow hat
  have OB := hid (show OwE wA wB 47 v1 a from O0.out.on (by show wB.ownsRow 0 47 2 v1 (0 + a.length) _; rw [Nat.zero_add]; exact hown) hgrow hat)
  obtain ⟨av1, cv1, hv1⟩ := own_shape OB.out.own
  subst hv1
  clear hown hgrow hat O0
  go_wp2_with (at_builtin; refine wpList_append_rg47 _ rfl _ _ rfl _ _ _ rfl OB.out.own a2 c2 b rfl (RB.out.new OB.out.touch) (by omega) ?_)
  intro v2 wC hown hgrow hat
  have OC := hid (show OwE wA wC 47 v2 (a ++ b) from OB.out.on hown hgrow hat)
  clear hown hgrow hat OB
  have hul : (a ++ b).length = a.length + b.length := List.length_append
  obtain ⟨u, hu⟩ : ∃ u, u = a ++ b := ⟨_, rfl⟩
  rw [← hu] at OC hul
  have HU := hid hu
  clear hu
  obtain ⟨au, cu, hv, hrg⟩ := OC.out.rg
  subst hv
  have TC := hid (TA.out.trans OC.out.touch (fun _ _ e => e))
  have TAC := hid OC.out.touch
  have K := hid (edges_any au cu u wC hrg (by omega))
  clear hrg OC hul
  go_wp2_with fail
  refine K.out.mono ?_
  rintro e wD ⟨v, es, rfl, hne, hel, hed, owi⟩
  have OI := hid owi
  have HED := hid hed
  obtain ⟨ae, ce, hve, ige⟩ := owi.ig hne
  subst hve
  obtain ⟨abe, rfl, _, _⟩ := ige
  have HNE := hid hne
  clear owi hed K hne
  go_wp2_with (at_builtin; refine wpList_append_own_at _ rfl _ _ 56 rfl 0 3 i0 (.int .i64 0) 1 8 Try.underlying56 hi3 hz0 hz1 hz2 rfl (by decide) _ _ _ rfl (OI.out.own.alloc _) ⟨wD.heap.size, 0, none⟩ 1 1 [.int .i64 1114112] rfl rfl (row_new wD [.int .i64 1114112] 3) (by intro u hu; simp at hu; subst hu; rfl) (by unfold maxLen; omega) (by omega) (Nat.zero_le _) ?_)
  intro v' wE hown hgrow _ hat
  have OJ := hid (OI.out.more hown hgrow hat)
  clear hown hgrow hat
  have hEl : (es ++ [1114112]).length = es.length + 1 := by simp
  obtain ⟨E, hE⟩ : ∃ E, E = es ++ [1114112] := ⟨_, rfl⟩
  rw [← hE] at OJ HED hEl
  have HLST := hid (show E[es.length]? = some 1114112 by rw [hE]; simp)
  have hE0 : E ≠ [] := by rw [hE]; simp
  obtain ⟨aE, cE, hvE, igE⟩ := OJ.out.ig hE0
  subst hvE
  have IGE := hid igE
  have TE := hid (TC.out.trans OJ.out.touch (fun _ _ e => e))
  have TAE := hid (TAC.out.trans OJ.out.touch (fun _ _ e => e))
  have RAE := hid (RA.out.new TAE.out)
  have RBE := hid (RB.out.new TAE.out)
  have hElb : E.length ≤ 1114113 := by omega
  have WCE := hid (show wE.heap[wb]? = some (.cells #[.bool m0, .bool m1, .bool m2, .bool m3] 41 (0, 0)) from (TAE.out.block wb (lt_of_block WC.out) id).trans WC.out)
  have HEL := hid hEl
  clear hE hE0 igE OJ OI RA RB WC HNE hEl
  go_wp2_with fail
  go_loopg [9, 10] es.length (fun gk v i wr => ∃ (k : Nat) (o : List R2) (x : Int), k + gk = es.length ∧ i = .int .i64 (k : Nat) ∧ E[k]? = some x ∧ o.length ≤ k ∧ Upto o x (wants m0 m1 m2 m3 a b) ∧ OwE wE wr 47 v o)
  case atStart => exact ⟨0, [], 0, by omega, rfl, HED.out.zero, Nat.le_refl _, Upto.start _, OwE.nil _ _⟩
  case round =>
    obtain ⟨k, o, x, hk, rfl, hx, hol, hup, how⟩ := hrel
    have HUP := hid hup
    have OW := hid how
    have HX := hid hx
    obtain ⟨av, cv, hav⟩ := own_shape how.own
    subst hav
    clear hup how hx
    by_cases hlt : k < es.length
    · have hEl := HEL.out
      obtain ⟨Y, hY⟩ : ∃ Y, E[k + 1]? = some Y := ⟨E[k + 1]'(by omega), List.getElem?_eq_getElem (by omega)⟩
      have HY := hid hY
      have hxy := HED.out.up k x Y HX.out HY.out
      have HFL := hid hxy.2
      have hxy1 := hxy.1
      have hx0 := HED.out.low k x HX.out
      have hYt : Y ≤ 1114112 := HED.out.top es.length 1114112 HLST.out (es.length - (k + 1)) (k + 1) Y (by omega) HY.out
      obtain ⟨bE, rfl, hbE, hcE⟩ := IGE.out.new OW.out.touch
      have e0 := hcE k (by omega)
      have e1 := hcE (k + 1) (by omega)
      rw [show E[k]'(by omega) = x by have := HX.out; rw [List.getElem?_eq_getElem (by omega)] at this; exact Option.some.inj this] at e0
      rw [show E[k + 1]'(by omega) = Y by have := HY.out; rw [List.getElem?_eq_getElem (by omega)] at this; exact Option.some.inj this] at e1
      have KA := hid (fun (wq : World) (tq : Touch (fun _ => False) wE wq) => in_any a1 c1 a x wq (RAE.out.new tq) (by omega))
      have KB := hid (fun (wq : World) (tq : Touch (fun _ => False) wE wq) => in_any a2 c2 b x wq (RBE.out.new tq) (by omega))
      have HPA := hid (show ∀ q, x ≤ q → q < Y → (wants m0 m1 m2 m3 a b q ↔ wants m0 m1 m2 m3 a b x) from fun q q1 q2 => by
        have f := HFL.out
        rw [HU.out] at f
        have ea : hasB q a = hasB x a := by rw [Bool.eq_iff_iff, hasB_iff, hasB_iff]; exact f.left.in_ q1 q2
        have eb : hasB q b = hasB x b := by rw [Bool.eq_iff_iff, hasB_iff, hasB_iff]; exact f.right.in_ q1 q2
        unfold wants
        rw [ea, eb])
      have HW := hid (show wants m0 m1 m2 m3 a b x ↔ wantB m0 m1 m2 m3 (hasB x a) (hasB x b) = true from Iff.rfl)
      generalize hasB x a = A at KA HW
      generalize hasB x b = B at KB HW
      clear hY hxy hcE
      have WCR := hid (show wr.heap[wb]? = some (.cells #[.bool m0, .bool m1, .bool m2, .bool m3] 41 (0, 0)) from (OW.out.touch.block wb (lt_of_block WCE.out) id).trans WCE.out)
      have hkE : ((k : Int) + 1) < (E.length : Int) := by omega
      have hkE0 : (k : Int) < (E.length : Int) := by omega
      clear hEl
      obtain ⟨M, hM⟩ : ∃ M, M = wantB m0 m1 m2 m3 A B := ⟨_, rfl⟩
      rw [← hM] at HW
      go_upto_region 11 with fail
      go_cut [36] (fun v wd => v = .bool A ∧ Touch (fun _ => False) wr wd)
      case first =>
        go_wp2_with fail
        refine (KA.out wr OW.out.touch).mono ?_
        rintro e w1 ⟨rfl, t1⟩
        have T1 := hid t1
        clear t1
        go_wp2
        go_meet
        case rel => exact ⟨rfl, T1.out⟩
      obtain ⟨rfl, t1⟩ := hcut
      have T1 := hid t1
      clear t1
      obtain ⟨ka, hka⟩ : ∃ ka : Nat, ka = if A then 1 else 0 := ⟨_, rfl⟩
      have hka1 : ka ≤ 1 := by rw [hka]; split <;> omega
      have HKA := hid hka
      clear hka
      go_upto_if 36 with fail
      go_cut [11] (fun v wd => v = .int .i64 (ka : Nat) ∧ wc = wd)
      case first =>
        cases A
        · have hk0 : ka = 0 := HKA.out
          subst hk0
          go_wp2
          go_meet
          case rel => exact ⟨rfl, rfl⟩
        · have hk0 : ka = 1 := HKA.out
          subst hk0
          go_wp2
          go_meet
          case rel => exact ⟨rfl, rfl⟩
      obtain ⟨rfl, rfl⟩ := hcut
      clear e0 e1
      have e0 := ig_at (IGE.out.new (OW.out.touch.trans T1.out (fun _ _ e => e))) HX.out
      go_upto_region 13 with fail
      go_cut [44] (fun v wd => v = .bool B ∧ Touch (fun _ => False) wc wd)
      case first =>
        go_wp2_with fail
        refine (KB.out wc (OW.out.touch.trans T1.out (fun _ _ e => e))).mono ?_
        rintro e w1 ⟨rfl, t1⟩
        have T2 := hid t1
        clear t1
        go_wp2
        go_meet
        case rel => exact ⟨rfl, T2.out⟩
      obtain ⟨rfl, t2⟩ := hcut
      have T2 := hid (T1.out.trans t2 (fun _ _ e => e))
      clear t2 e0
      obtain ⟨kk, hkk⟩ : ∃ kk : Nat, kk = ka + (if B then 2 else 0) := ⟨_, rfl⟩
      have HKK := hid hkk
      have hkk3 : kk < 4 := by rw [hkk]; split <;> omega
      have HCM := hid (show #[Value.bool m0, .bool m1, .bool m2, .bool m3][kk]? = some (.bool M) by
        rw [hkk, HKA.out, hM]
        cases A <;> cases B <;> rfl)
      clear hkk
      go_upto_if 44 with fail
      go_cut [11] (fun v wd => v = .int .i64 (kk : Nat) ∧ wc = wd)
      case first =>
        cases B
        · have hk0 : kk = ka := HKK.out
          subst hk0
          go_wp2
          go_meet
          case rel => exact ⟨rfl, rfl⟩
        · have hk0 : kk = ka + 2 := HKK.out
          subst hk0
          go_wp2
          go_meet
          case rel => exact ⟨by go_num, rfl⟩
      obtain ⟨rfl, rfl⟩ := hcut
      clear hM
      have f0 : wc.cell? ⟨wb, kk, none⟩ = some (.bool M) := by
        have hbk : wc.heap[wb]? = _ := (T2.out.block wb (lt_of_block WCR.out) id).trans WCR.out
        unfold World.cell?
        rw [hbk]
        exact HCM.out
      have OX := hid (OW.out.still T2.out)
      have hkkI : (kk : Int) < 4 := by omega
      have e0 := ig_at (IGE.out.new OX.out.touch) HX.out
      have e1 := ig_at (IGE.out.new OX.out.touch) HY.out
      clear OW T1 T2
      cases M
      · go_wp2_with fail
        go_roundg (gk - 1)
        case measure => omega
        case rel => exact ⟨k + 1, o, Y, by omega, by go_num, HY.out, by omega, HUP.out.skip hxy1 (fun q q1 q2 hq => by have := HW.out.1 ((HPA.out q q1 q2).1 hq); cases this), OX.out⟩
      · have HTK := hid (HUP.out.take (by omega) hxy1 hYt (fun q q1 q2 => (HPA.out q q1 q2).2 (HW.out.2 rfl)))
        have hal := addR_len o x Y
        rcases List.eq_nil_or_concat o with ho0 | ⟨o0, tt, ho0⟩
        · subst ho0
          simp only [List.length_nil]
          go_upto_region 17 with fail
          go_cut [68] (fun v wd => v = .bool false ∧ Touch (fun _ => False) wc wd)
          case first =>
            go_quiet (fail)
            go_wp2
            go_meet
            case rel => exact ⟨rfl, (Touch.refl _ _).drewN _⟩
          obtain ⟨rfl, tc⟩ := hcut
          have OY := hid (OX.out.still tc)
          clear tc e0 e1 f0
          have e0 := ig_at (IGE.out.new OY.out.touch) HX.out
          have e1 := ig_at (IGE.out.new OY.out.touch) HY.out
          go_wp2_with fail
          have hw1 : IntKind.i64.wrap ((k : Int) + 1) = (k : Int) + 1 := by rw [IntKind.wrap_i64]; omega
          have hw2 : IntKind.i64.wrap (Y - 1) = Y - 1 := by rw [IntKind.wrap_i64]; omega
          have hw3 : ((k : Int) + 1).toNat = k + 1 := by omega
          have hw4 : 0 ≤ (k : Int) + 1 := by omega
          go_region_law ((refine step_append_own _ (by rfl) _ _ _ (by rfl) 0 47 j0 _ 2 16 Try.underlying26 hi47 hy0 hy1 hy2 rfl (by decide) _ _ _ (by rfl) ((OY.out.own.alloc _).drew) ⟨wc.heap.size, 0, none⟩ 1 1 [.int .i64 x, .int .i64 (Y - 1)] (by rfl) (by rfl) (row_new wc [.int .i64 x, .int .i64 (Y - 1)] 47) (by intro u hu; simp at hu; rcases hu with rfl | rfl <;> rfl) (by unfold maxLen; omega) (by omega) (Nat.zero_le _) (wc.heap.size + 1) (by simp) ?_; intro v' w4 hown hgrow hat))
          all_goals
            have OC := hid (OY.out.more (xs := [(x, Y - 1)]) hown ⟨hgrow.os, hgrow.tape, hgrow.output, hgrow.size, hgrow.block⟩ hat)
            clear hown hgrow hat hw1 hw2 hw3 hw4
            go_wp2
            go_roundg (gk - 1)
            case measure => omega
            case rel => exact ⟨k + 1, [(x, Y - 1)], Y, by omega, by go_num, HY.out, by simp, HTK.out, OC.out⟩
        · rw [List.concat_eq_append] at ho0
          obtain ⟨t1, t2⟩ := tt
          subst ho0
          have ht := HUP.out.canon.in_ (t1, t2) (by simp)
          have ht2 : 0 ≤ t2 ∧ t2 ≤ 1114111 := by unfold inB at ht; dsimp only at ht; omega
          obtain ⟨m, hm⟩ : ∃ m, m = o0.length := ⟨_, rfl⟩
          have HMM := hid hm
          have hol2 : (o0 ++ [(t1, t2)]).length = m + 1 := by rw [hm]; simp
          rw [hol2] at OX hol hal ⊢
          obtain ⟨g, cap2, hv, g0, gf, hgl⟩ := OX.out.last
          rw [← hm] at g0 gf hv
          simp only [Value.slice.injEq] at hv
          obtain ⟨rfl, _, rfl⟩ := hv
          clear ht hm hol2
          by_cases hj : t2 = x - 1
          · have hjd : (t2 == x - 1) = true := beq_iff_eq.2 hj
            have hjd2 : decide (t2 = x - 1) = true := decide_eq_true hj
            have HJ := hid hj
            clear hj
            go_upto_region 17 with fail
            go_cut [68] (fun v wd => v = .bool true ∧ Touch (fun _ => False) wc wd)
            case first =>
              go_quiet (fail)
              go_wp2
              go_meet
              case rel => exact ⟨by first | rfl | rw [hjd] | rw [hjd2], (Touch.refl _ _).drewN _⟩
            obtain ⟨rfl, tc⟩ := hcut
            have OY := hid (OX.out.still tc)
            clear tc e0 e1 f0 g0 gf hgl hjd hjd2
            have e0 := ig_at (IGE.out.new OY.out.touch) HX.out
            have e1 := ig_at (IGE.out.new OY.out.touch) HY.out
            obtain ⟨g', cap3, hv3, k0, kf, hgl2⟩ := OY.out.last
            rw [← HMM.out] at k0 kf hv3
            simp only [Value.slice.injEq, Option.some.injEq, Addr.mk.injEq, true_and, and_true] at hv3
            obtain ⟨rfl, rfl⟩ := hv3
            have OS := hid (OY.out.set (by simp [HMM.out]) (Y - 1))
            rw [← HMM.out] at OS
            have HAD := hid (addR_join o0 (t1, t2) x Y HJ.out)
            go_wp2_with fail
            go_roundg (gk - 1)
            case measure => omega
            case rel => exact ⟨k + 1, o0 ++ [(t1, Y - 1)], Y, by omega, by go_num, HY.out, by simp; have := HMM.out; omega, by rw [← HAD.out]; exact HTK.out, OS.out⟩
          · have hjd : (t2 == x - 1) = false := by simp [hj]
            have hjd2 : decide (t2 = x - 1) = false := decide_eq_false hj
            have HJ := hid hj
            clear hj
            go_upto_region 17 with fail
            go_cut [68] (fun v wd => v = .bool false ∧ Touch (fun _ => False) wc wd)
            case first =>
              go_quiet (fail)
              go_wp2
              go_meet
              case rel => exact ⟨by first | rfl | rw [hjd] | rw [hjd2], (Touch.refl _ _).drewN _⟩
            obtain ⟨rfl, tc⟩ := hcut
            have OY := hid (OX.out.still tc)
            clear tc e0 e1 f0 g0 gf hgl hjd hjd2
            have e0 := ig_at (IGE.out.new OY.out.touch) HX.out
            have e1 := ig_at (IGE.out.new OY.out.touch) HY.out
            have HAD := hid (addR_more o0 (t1, t2) x Y HJ.out)
            have OYO := hid OY.out.own
            rw [show (o0 ++ [(t1, t2)]).length = m + 1 by rw [HMM.out]; simp] at OYO
            go_wp2_with fail
            have hw1 : IntKind.i64.wrap ((k : Int) + 1) = (k : Int) + 1 := by rw [IntKind.wrap_i64]; omega
            have hw2 : IntKind.i64.wrap (Y - 1) = Y - 1 := by rw [IntKind.wrap_i64]; omega
            have hw3 : ((k : Int) + 1).toNat = k + 1 := by omega
            have hw4 : 0 ≤ (k : Int) + 1 := by omega
            go_region_law ((refine step_append_own _ (by rfl) _ _ _ (by rfl) 0 47 j0 _ 2 16 Try.underlying26 hi47 hy0 hy1 hy2 rfl (by decide) _ _ _ (by rfl) ((OYO.out.alloc _).drew) ⟨wc.heap.size, 0, none⟩ 1 1 [.int .i64 x, .int .i64 (Y - 1)] (by rfl) (by rfl) (row_new wc [.int .i64 x, .int .i64 (Y - 1)] 47) (by intro u hu; simp at hu; rcases hu with rfl | rfl <;> rfl) (by unfold maxLen; omega) (by omega) (Nat.zero_le _) (wc.heap.size + 1) (by simp) ?_; intro v' w4 hown hgrow hat))
            all_goals
              have OC := hid (OY.out.more (xs := [(x, Y - 1)]) (by rw [List.length_append, ← HMM.out]; exact hown) ⟨hgrow.os, hgrow.tape, hgrow.output, hgrow.size, hgrow.block⟩ hat)
              clear hown hgrow hat hw1 hw2 hw3 hw4
              go_wp2
              go_roundg (gk - 1)
              case measure => omega
              case rel => exact ⟨k + 1, o0 ++ [(t1, t2)] ++ [(x, Y - 1)], Y, by omega, by go_num, HY.out, by simp; have := HMM.out; omega, by rw [← HAD.out]; exact HTK.out, OC.out⟩
    · obtain rfl : k = es.length := by omega
      have hx : x = 1114112 := by
        have h1 := HX.out
        rw [HLST.out] at h1
        simp at h1
        omega
      subst hx
      have hEE : E.length = es.length + 1 := HEL.out
      go_wp2
      go_ret
      refine ⟨_, o, rfl, HUP.out.canon, fun q => ?_, ⟨OW.out.own, fun g e => Nat.le_trans TE.out.size (OW.out.new g e), TE.out.trans OW.out.touch (fun _ _ e => e)⟩⟩
      rw [HUP.out.in_ q]
      constructor
      · exact fun h => ⟨by omega, h.2⟩
      · exact fun h => ⟨by omega, h.2⟩
end Go.Proofs.Ytpjnnbegimaaeab

/- The search for the range in which a number may be; no condition. -/
namespace Go.Proofs.Ytpjnnbegimaaeab
open Go.RowKit

set_option maxRecDepth 100000 in
set_option maxHeartbeats 4000000 in
theorem closure29 (br bs : Nat) (r : Int) (a : Option Addr) (cap : Nat) (s : List R2) (i : Nat) (hi : i < s.length) (y : Int) (hy : y = s[i].2) (w : World) (hr : w.cell? ⟨br, 0, none⟩ = some (.int .i64 r)) (hs : w.cell? ⟨bs, 0, none⟩ = some (.slice a s.length cap)) (hl : Rg w a s) :
    Calls Try.prog 29 (#[.int .i64 i] ++ #[.pointer (some ⟨br, 0, none⟩), .pointer (some ⟨bs, 0, none⟩)]) w fun e w' => e = .returned (.bool (decide (r ≤ y))) ∧ Touch (fun _ => False) w w' := by
  obtain ⟨b, o, rfl, _, hcell⟩ : ∃ b o, a = some ⟨b, o, none⟩ ∧ b < w.heap.size ∧ ∀ i (h : i < s.length), w.cell? ⟨b, o + i * 2, none⟩ = some (.int .i64 (s[i]).1) ∧ w.cell? ⟨b, o + i * 2 + 1, none⟩ = some (.int .i64 (s[i]).2) := by
    rcases hl with h | h
    · rw [h] at hi; simp at hi
    · exact h
  obtain ⟨d0, d1⟩ := hcell i hi
  generalize s[i].1 = x at d0
  rw [← hy] at d1
  clear hy
  have hiI : (i : Int) < (s.length : Int) := by omega
  clear hcell
  go_enter Try.func29, Try.ntmps29
  go_wp2_with fail
  go_quiet (fail)
  go_wp2
  go_ret
  exact ⟨rfl, (Touch.refl _ _).drewN _⟩

set_option maxRecDepth 100000 in
set_option maxHeartbeats 4000000 in
theorem search_any (br bs : Nat) (r : Int) (a : Option Addr) (cap : Nat) (s : List R2) (w : World) (hbr : br < w.heap.size) (hbs : bs < w.heap.size) (hr : w.cell? ⟨br, 0, none⟩ = some (.int .i64 r)) (hs : w.cell? ⟨bs, 0, none⟩ = some (.slice a s.length cap)) (hl : Rg w a s)
    (hmono : ∀ i j (hi : i < s.length) (hj : j < s.length), i ≤ j → s[i].2 ≤ s[j].2) (hb : s.length ≤ 4194304) :
    Calls Try.prog 28 #[.int .i64 s.length, .func (.func 29) #[] #[.pointer (some ⟨br, 0, none⟩), .pointer (some ⟨bs, 0, none⟩)]] w fun e w' => ∃ k : Nat, e = .returned (.int .i64 k) ∧ k ≤ s.length ∧ (∀ t (_ : t < k) (hl : t < s.length), ¬ r ≤ s[t].2) ∧ (∀ t (_ : k ≤ t) (hl : t < s.length), r ≤ s[t].2) ∧ Touch (fun _ => False) w w' := by
  have HC := hid (fun (wq : World) (tc : Touch (fun _ => False) w wq) (i : Nat) (hi : i < s.length) (y : Int) (hy : y = s[i].2) => closure29 br bs r a cap s i hi y hy wq ((tc.cell (p := ⟨br, 0, none⟩) hbr id).trans hr) ((tc.cell (p := ⟨bs, 0, none⟩) hbs id).trans hs) (hl.new tc))
  have M := hid hmono
  clear hr hs hl hmono hbr hbs
  go_enter Try.func28, Try.ntmps28
  go_wp2_with fail
  go_loopg [5, 6] s.length (fun gk x y wr => ∃ lo hi : Nat, x = .int .i64 lo ∧ y = .int .i64 hi ∧ lo ≤ hi ∧ hi ≤ s.length ∧ hi - lo ≤ gk ∧ Hid ((∀ t (_ : t < lo) (hl : t < s.length), ¬ r ≤ s[t].2) ∧ (∀ t (_ : hi ≤ t) (hl : t < s.length), r ≤ s[t].2)) ∧ Touch (fun _ => False) w wr)
  case atStart => exact ⟨0, s.length, rfl, rfl, Nat.zero_le _, Nat.le_refl _, by omega, hid ⟨fun t ht => absurd ht (Nat.not_lt_zero _), fun t h1 h2 => by omega⟩, Touch.refl _ _⟩
  case round =>
    obtain ⟨lo, hi, rfl, rfl, hlh, hin, hg, I, htc⟩ := hrel
    have TC := hid htc
    clear htc
    by_cases hlt : lo < hi
    · have hmid : (lo + hi) / 2 < s.length := by omega
      have HMID := hid hmid
      obtain ⟨y, hy⟩ : ∃ y, y = s[(lo + hi) / 2].2 := ⟨_, rfl⟩
      have hc := HC.out wr TC.out ((lo + hi) / 2) hmid y hy
      rw [show (((lo + hi) / 2 : Nat) : Int) = ((lo : Int) + (hi : Int)) / 2 by omega] at hc
      have HY := hid hy
      clear hy hmid
      by_cases hp : r ≤ y
      · rw [decide_eq_true hp] at hc
        have HP := hid hp
        clear hp
        go_wp2_with fail
        refine hc.mono ?_
        rintro e w' ⟨rfl, tc⟩
        have T2 := hid (TC.out.trans tc (fun _ _ e => e))
        clear tc hc
        go_wp2_with fail
        go_roundg ((lo + hi) / 2 - lo)
        case measure => omega
        case rel =>
          exact ⟨lo, (lo + hi) / 2, rfl, by rw [show ((lo : Int) + (hi : Int)) / 2 = (((lo + hi) / 2 : Nat) : Int) by omega], by omega, by omega, Nat.le_refl _, hid ⟨I.out.1, fun t ht htl => by have h1 := M.out _ t HMID.out htl ht; have h2 := HP.out; rw [HY.out] at h2; omega⟩, T2.out⟩
      · rw [decide_eq_false hp] at hc
        have HP := hid hp
        clear hp
        go_wp2_with fail
        refine hc.mono ?_
        rintro e w' ⟨rfl, tc⟩
        have T2 := hid (TC.out.trans tc (fun _ _ e => e))
        clear tc hc
        go_wp2_with fail
        go_roundg (hi - ((lo + hi) / 2 + 1))
        case measure => omega
        case rel =>
          exact ⟨(lo + hi) / 2 + 1, hi, by rw [show ((lo : Int) + (hi : Int)) / 2 + 1 = (((lo + hi) / 2 + 1 : Nat) : Int) by omega], rfl, by omega, hin, Nat.le_refl _, hid ⟨fun t ht htl => by have h1 := M.out t _ htl HMID.out (by omega); have h2 := HP.out; rw [HY.out] at h2; omega, I.out.2⟩, T2.out⟩
    · obtain rfl : hi = lo := by omega
      go_wp2
      go_ret
      exact ⟨hi, rfl, hin, I.out.1, I.out.2, TC.out⟩
end Go.Proofs.Ytpjnnbegimaaeab
