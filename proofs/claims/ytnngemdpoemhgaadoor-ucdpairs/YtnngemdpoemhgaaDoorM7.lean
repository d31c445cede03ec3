/- Texts of this proof, one behind the other: what each says stands ahead of it. -/
import Derived.Test.YtnngemdpoemhgaaDoorM6
/- Close of a set: what it answers; condition: the two tables lie there. -/
namespace Go.Proofs.YtnngemdpoemhgaaDoor
open Go.RowKit

theorem OwE.keeps {W0 wr w1 : World} {v : Value} {s : List R2} {o : Obj} {pb : Nat} {cs : Array Value} {t : TypeId} (h : OwE W0 wr 33 v s) (hb : wr.heap[pb]? = some (.cells cs t (0, 0))) (ht : t ≠ 33) (hg : (wr.alloc o).grownBy w1 v.ownBlock) : w1.heap[pb]? = some (.cells cs t (0, 0)) := by
  have hlt := lt_of_block hb
  rw [hg.block pb (by simp; omega) (fun k => ?_), Below.heap_alloc _ _ _ hlt]
  · exact hb
  · rcases h.own.2 with ⟨rfl, _⟩ | ⟨g4, cap4, cur4, rfl, _, hh4, _⟩
    · simp [Value.ownBlock] at k
    · simp [Value.ownBlock] at k
      subst k
      rw [hb] at hh4
      simp at hh4
      exact ht hh4.2

/-- So many numbers from one on. -/
def run (x : Int) (j : Nat) : List Int := (List.range j).map fun i : Nat => x + (i : Int)
theorem run_step (x : Int) (j : Nat) : run x (j + 1) = run x j ++ [x + (j : Int)] := by
  unfold run
  rw [List.range_succ, List.map_append]
  rfl
/-- The capital letters of the first pairs. -/
def capsTo (k : Nat) : List Int := (pairsL.take k).flatMap fun p => run p.1 (p.2.1 - p.1 + 1).toNat
theorem caps_step (k : Nat) (x y z : Int) (h : pairsL[k]? = some (x, y, z)) : capsTo (k + 1) = capsTo k ++ run x (y - x + 1).toNat := by
  have hk : k < pairsL.length := by
    rcases Nat.lt_or_ge k pairsL.length with q | q
    · exact q
    · rw [List.getElem?_eq_none q] at h; cases h
  rw [List.getElem?_eq_getElem hk] at h
  unfold capsTo
  rw [List.take_succ_eq_append_getElem hk, Option.some.inj h, List.flatMap_append]
  simp
/-- What a capital letter adds. -/
def addC (s : List R2) (c : Int) : List R2 := if (orbS (capOf c)).any (fun y => hasB y s) = true then (orbS (capOf c)).map (fun y => (y, y)) else []
def moreL (s : List R2) (l : List Int) : List R2 := l.flatMap (addC s)
theorem more_step (s : List R2) (l : List Int) (c : Int) : moreL s (l ++ [c]) = moreL s l ++ addC s c := by simp [moreL]
theorem orbS_len (c : Int) : (orbS c).length ≤ 13 := by
  have h : (orbU c).length ≤ 13 := by
    unfold orbU smalls others
    simp only [List.length_append, List.length_cons, List.length_nil, List.length_map]
    have h1 := List.length_filter_le (isGreat c) (pairsL.take 7)
    have h2 := List.length_filter_le (ofGreat c) (thirdsL.take 5)
    have e1 : (pairsL.take 7).length = 7 := rfl
    have e2 : (thirdsL.take 5).length = 5 := rfl
    omega
  unfold orbS
  split
  · unfold three3
    split
    · simp
    · split <;> simp
  · exact h
theorem add_len (s : List R2) (c : Int) : (addC s c).length ≤ 13 := by
  unfold addC
  split
  · rw [List.length_map]; exact orbS_len _
  · simp
theorem more_len (s : List R2) : ∀ l : List Int, (moreL s l).length ≤ 13 * l.length
  | [] => by simp [moreL]
  | c :: l => by
    have h1 := more_len s l
    have h2 := add_len s c
    unfold moreL at h1 ⊢
    rw [List.flatMap_cons, List.length_append, List.length_cons]
    omega
theorem caps_len (k : Nat) (h : k ≤ 7) : (capsTo k).length ≤ 152 := by
  rcases (show k = 0 ∨ k = 1 ∨ k = 2 ∨ k = 3 ∨ k = 4 ∨ k = 5 ∨ k = 6 ∨ k = 7 by omega) with rfl | rfl | rfl | rfl | rfl | rfl | rfl | rfl <;> decide +kernel
theorem run_len (x : Int) (j : Nat) : (run x j).length = j := by simp [run]
theorem row_small (k : Nat) (x y z : Int) (h : pairsL[k]? = some (x, y, z)) : 0 ≤ x ∧ x ≤ y ∧ y ≤ x + 40 ∧ y ≤ 100000 := by
  have hk : k < 7 := by
    rcases Nat.lt_or_ge k 7 with q | q
    · exact q
    · rw [List.getElem?_eq_none (by simpa [pairsL] using q)] at h; cases h
  rcases (show k = 0 ∨ k = 1 ∨ k = 2 ∨ k = 3 ∨ k = 4 ∨ k = 5 ∨ k = 6 by omega) with rfl | rfl | rfl | rfl | rfl | rfl | rfl <;>
    (simp [pairsL] at h
     omega)
theorem cells_of {w : World} {b i : Nat} {cs : Array Value} {t : TypeId} (h : w.heap[b]? = some (.cells cs t (0, 0))) : w.cell? ⟨b, i, none⟩ = cs[i]? := by simp [World.cell?, h]
theorem OwI.block {W0 wr : World} {v : Value} {e : List Int} (h : OwI W0 wr v e) (h0 : e ≠ []) : ∃ g cap cur, v = .slice (some ⟨g, 0, none⟩) e.length cap ∧ wr.heap[g]? = some (.cells cur 3 (0, 0)) ∧ ∀ i (hi : i < e.length), cur[i]? = some (.int .i64 e[i]) := by
  obtain ⟨a, c, hv, b, rfl, _, hc⟩ := h.ig h0
  rcases h.own.2 with ⟨rfl, k⟩ | ⟨g, cap, cur, hv2, hg, hh, rest⟩
  · exact absurd (List.eq_nil_of_length_eq_zero k) h0
  · rw [hv2] at hv
    simp only [Value.slice.injEq, Option.some.injEq, Addr.mk.injEq, and_true] at hv
    obtain ⟨rfl, _, rfl⟩ := hv
    exact ⟨g, cap, cur, hv2, hh, fun i hi => by rw [← cells_of hh]; exact hc i hi⟩
theorem orbS_some (c : Int) : orbS c ≠ [] := by
  unfold orbS
  split
  · unfold three3
    split
    · simp
    · split <;> simp
  · unfold orbU; simp

set_option maxRecDepth 100000 in
set_option maxHeartbeats 16000000 in
theorem close_any (sa : Option Addr) (sc : Nat) (s : List R2) (w : World) (ht : Tabs w) (hs : Rg w sa s) (hc : Canon s) :
    Calls Tryd.prog 13 #[.slice sa s.length sc] w fun e w' => ∃ v n, e = .returned v ∧ Canon n ∧ (∀ x, In x n ↔ In x s ∨ ((0 ≤ x ∧ x ≤ 1114111) ∧ In x (moreL s (capsTo 7)))) ∧ OwE w w' 33 v n := by
  obtain ⟨i0, hi33, hz0, hz1, hz2⟩ := info_parts info33
  have HT := hid ht
  have HS := hid hs
  have HC := hid hc
  obtain ⟨⟨t0, h0⟩, _⟩ := ht
  clear hs hc
  go_enter Tryd.func13, Tryd.ntmps13
  go_wp2_with (first | refine wpList_load_row rfl 48 _ rfl 0 rfl t0 pairsC (0, 0) _ h0 Tryd.underlying48 rfl (by kernel_rfl) ?_ | fail)
  go_loopg [3, 11] 7 (fun gk v i wr => ∃ k : Nat, k + gk = 7 ∧ i = .int .i64 (k : Nat) ∧ OwE w wr 33 v (moreL s (capsTo k)))
  case atStart => exact ⟨0, rfl, rfl, OwE.nil _ _⟩
  case round =>
    obtain ⟨k, hk, rfl, how⟩ := hrel
    clear h0
    obtain ⟨G, hG⟩ : ∃ G, G = gk := ⟨_, rfl⟩
    have HG := hid hG
    clear hG
    have OW := hid how
    obtain ⟨av, cv, hav⟩ := own_shape how.own
    subst hav
    clear how
    by_cases hlt : k < 7
    · obtain ⟨⟨x, y, z⟩, hxy⟩ : ∃ p, pairsL[k]? = some p := ⟨pairsL[k]'(by simpa [pairsL] using hlt), List.getElem?_eq_getElem _⟩
      have hix := run_index48 k x y z wr hlt hxy
      have hsm := row_small k x y z hxy
      have HCS := hid (caps_step k x y z hxy)
      have hcl := caps_len k (by omega)
      have hkI : (k : Int) < 7 := by omega
      clear hxy
      have B2 := hid (three_block wr (.int .i64 x) (.int .i64 y) (.int .i64 z) 47)
      have TA := hid ((Touch.refl (fun _ => False) wr).alloc (.cells #[.int .i64 x, .int .i64 y, .int .i64 z] 47))
      go_upto_region 5 with fail
      generalize (wr.alloc (.cells #[.int .i64 x, .int .i64 y, .int .i64 z] 47)) = wA at *
      have OA := hid (OW.out.still TA.out)
      have c0 : wA.cell? ⟨wr.heap.size, 0, none⟩ = some (.int .i64 x) := by simp [World.cell?, B2.out]
      generalize wr.heap.size = pb at *
      clear hix OW TA
      go_wp2_with fail
      go_loopg [3, 6] (y - x + 1).toNat (fun g2 v c wq => ∃ j : Nat, (j : Int) + (g2 : Int) = y - x + 1 ∧ c = .int .i64 (x + (j : Int)) ∧ wq.heap[pb]? = some (.cells #[.int .i64 x, .int .i64 y, .int .i64 z] 47 (0, 0)) ∧ OwE w wq 33 v (moreL s (capsTo k ++ run x j)))
      case atStart => exact ⟨0, by omega, by simp, B2.out, by simpa [run] using OA.out⟩
      case round =>
        obtain ⟨j, hj, rfl, hpb, how⟩ := hrel
        obtain ⟨G2, hG2⟩ : ∃ G, G = gk := ⟨_, rfl⟩
        have HG2 := hid hG2
        clear hG2 c0
        have OQ := hid how
        have BQ := hid hpb
        have c1 : wr.cell? ⟨pb, 1, none⟩ = some (.int .i64 y) := by simp [World.cell?, hpb]
        obtain ⟨av2, cv2, hav⟩ := own_shape how.own
        subst hav
        clear how hpb
        have hml := more_len s (capsTo k ++ run x j)
        rw [List.length_append, run_len] at hml
        by_cases hjy : x + (j : Int) ≤ y
        · obtain ⟨L, hL⟩ : ∃ L, L = orbS (capOf (x + (j : Int))) := ⟨_, rfl⟩
          have KO := hid (orbit_all (x + (j : Int)) wr (HT.out.new OQ.out.touch) (by omega))
          rw [← hL] at KO
          have hLl : L.length ≤ 13 := by rw [hL]; exact orbS_len _
          have hL0 : L ≠ [] := by rw [hL]; exact orbS_some _
          have HMS := hid (show moreL s (capsTo k ++ run x (j + 1)) = moreL s (capsTo k ++ run x j) ++ (if L.any (fun y => hasB y s) = true then L.map (fun y => (y, y)) else []) by rw [run_step, ← List.append_assoc, more_step, hL]; rfl)
          obtain ⟨M, hM⟩ : ∃ M, M = moreL s (capsTo k ++ run x j) := ⟨_, rfl⟩
          rw [← hM] at OQ hml HMS ⊢
          clear hM hL
          go_wp2_with fail
          refine KO.out.mono ?_
          rintro e w2 ⟨v7, rfl, owi⟩
          obtain ⟨ob, oc, cur, hv7, hob, hcur⟩ := owi.block hL0
          obtain ⟨oa', oc', hv7', hig⟩ := owi.ig hL0
          rw [hv7] at hv7'
          simp only [Value.slice.injEq] at hv7'
          obtain ⟨rfl, _, rfl⟩ := hv7'
          subst hv7
          have O2 := hid (OQ.out.still owi.touch)
          have B2' := hid ((owi.touch.block pb (lt_of_block BQ.out) id).trans BQ.out)
          have HOB := hid hob
          have HCU := hid hcur
          have KC := hid (contains_has _ oc L sa sc s w2 hig (HS.out.new O2.out.touch) HC.out (by omega))
          clear owi hob hcur hig KO OQ BQ c1
          go_wp2_with fail
          refine KC.out.mono ?_
          rintro e w3 ⟨rfl, tq⟩
          have O3 := hid (O2.out.still tq)
          have B3 := hid ((tq.block pb (lt_of_block B2'.out) id).trans B2'.out)
          have HO3 := hid ((tq.block ob (lt_of_block HOB.out) id).trans HOB.out)
          clear tq KC O2 B2' HOB
          obtain ⟨A, hA⟩ : ∃ A, L.any (fun y => hasB y s) = A := ⟨_, rfl⟩
          rw [hA] at HMS ⊢
          clear hA
          cases A
          · have HM2 := hid (show moreL s (capsTo k ++ run x (j + 1)) = M by rw [HMS.out]; simp)
            go_wp2_with fail
            go_roundg (G2 - 1)
            case measure => have := HG2.out; omega
            case rel => exact ⟨j + 1, by have := HG2.out; omega, by go_num, B3.out, by rw [HM2.out]; exact O3.out⟩
          · have HM2 := hid (show moreL s (capsTo k ++ run x (j + 1)) = M ++ L.map (fun y => (y, y)) by rw [HMS.out]; simp)
            clear HMS
            go_wp2_with fail
            go_loopg [3, 30] L.length (fun g3 v i wq => ∃ q : Nat, q + g3 = L.length ∧ i = .int .i64 (q : Nat) ∧ wq.heap[pb]? = some (.cells #[.int .i64 x, .int .i64 y, .int .i64 z] 47 (0, 0)) ∧ wq.heap[ob]? = some (.cells cur 3 (0, 0)) ∧ OwE w wq 33 v (M ++ (L.take q).map (fun y => (y, y))))
            case atStart => exact ⟨0, by omega, rfl, B3.out, HO3.out, by simpa using O3.out⟩
            case round =>
              obtain ⟨q, hq, rfl, hpb, hob, how⟩ := hrel
              have OR := hid how
              have BR := hid hpb
              have HOR := hid hob
              obtain ⟨av3, cv3, hav⟩ := own_shape how.own
              subst hav
              have hNl : (M ++ (L.take q).map (fun y => (y, y))).length ≤ 10000 := by rw [List.length_append, List.length_map, List.length_take]; omega
              clear how hpb hob
              by_cases hql : q < L.length
              · have d0 : wr.cell? ⟨ob, q, none⟩ = some (.int .i64 L[q]) := by rw [cells_of HOR.out]; exact HCU.out q hql
                have HTK := hid (show (L.take (q + 1)).map (fun y => (y, y)) = (L.take q).map (fun y => (y, y)) ++ [(L[q], L[q])] by rw [List.take_succ_eq_append_getElem hql, List.map_append]; rfl)
                generalize L[q] = u at *
                have hqI : (q : Int) < (L.length : Int) := by omega
                obtain ⟨N, hN⟩ : ∃ N, N = M ++ (L.take q).map (fun y => (y, y)) := ⟨_, rfl⟩
                rw [← hN] at OR hNl ⊢
                have HN := hid hN
                clear hN
                go_wp2_with (at_builtin; refine wpList_append_own_at _ rfl _ _ 26 rfl 0 33 i0 (.agg #[.int .i64 0, .int .i64 0]) 2 16 Tryd.underlying26 hi33 hz0 hz1 hz2 rfl (by decide) _ _ _ rfl (OR.out.own.alloc _) ⟨wr.heap.size, 0, none⟩ 1 1 [.int .i64 u, .int .i64 u] rfl rfl (row_new wr [.int .i64 u, .int .i64 u] 33) (by intro a ha; simp at ha; subst ha; rfl) (by unfold maxLen; omega) (by omega) (Nat.zero_le _) ?_)
                intro v' w4 hown hgrow _ hat
                have OC := hid (OR.out.more (xs := [(u, u)]) hown hgrow hat)
                have B4 := hid (OR.out.keeps BR.out (by decide) hgrow)
                have HO4 := hid (OR.out.keeps HOR.out (by decide) hgrow)
                clear hown hgrow hat
                go_wp2
                go_roundg (gk - 1)
                case measure => omega
                case rel => exact ⟨q + 1, by omega, by go_num, B4.out, HO4.out, by rw [HTK.out, ← List.append_assoc, ← HN.out]; exact OC.out⟩
              · obtain rfl : q = L.length := by omega
                have OR2 := hid (show OwE w wr 33 (.slice av3 (M ++ (L.take L.length).map (fun y => (y, y))).length cv3) (M ++ L.map (fun y => (y, y))) by have := OR.out; rw [List.take_length] at this ⊢; exact this)
                go_wp2_with fail
                go_roundg (G2 - 1)
                case measure => have := HG2.out; omega
                case rel => exact ⟨j + 1, by have := HG2.out; omega, by go_num, BR.out, by rw [HM2.out]; exact OR2.out⟩
        · have HJ := hid (show j = (y - x + 1).toNat by omega)
          have HQ := hid (show moreL s (capsTo (k + 1)) = moreL s (capsTo k ++ run x j) by rw [HCS.out, HJ.out])
          go_wp2_with fail
          go_roundg (G - 1)
          case measure => have := HG.out; omega
          case rel => exact ⟨k + 1, by have := HG.out; omega, by go_num, by rw [HQ.out]; exact OQ.out⟩
    · obtain rfl : k = 7 := by omega
      have hml := more_len s (capsTo 7)
      have hcl := caps_len 7 (by omega)
      obtain ⟨M, hM⟩ : ∃ M, M = moreL s (capsTo 7) := ⟨_, rfl⟩
      rw [← hM] at OW hml ⊢
      have HM := hid hM
      clear hM
      obtain ⟨a5, c5, hv5, hrg⟩ := OW.out.rg
      simp only [Value.slice.injEq] at hv5
      obtain ⟨rfl, _, rfl⟩ := hv5
      have K := hid (of_says av cv M wr hrg (by omega))
      clear hrg
      go_wp2_with fail
      refine K.out.mono ?_
      rintro e w1 ⟨v, m, rfl, hcm, him, ow⟩
      obtain ⟨ma, mc, hv, hrm⟩ := own_rg ow.own
      subst hv
      have T1 := hid (OW.out.touch.trans ow.touch (fun _ _ e => e))
      have HIM := hid him
      have KR := hid (or_says sa ma sc mc s m w1 (HS.out.new T1.out) hrm HC.out hcm)
      clear ow hcm him hrm K
      go_wp2_with fail
      refine KR.out.mono ?_
      rintro e w2 ⟨v, n, rfl, hcn, hin, ow⟩
      have O2 := hid ow
      have HCN := hid hcn
      have HIN := hid hin
      obtain ⟨a2, c2, hav⟩ := own_shape ow.own
      subst hav
      clear ow hcn hin KR
      go_wp2
      go_ret
      exact ⟨_, n, rfl, HCN.out, fun x => by rw [HIN.out x, HIM.out x, HM.out], ⟨O2.out.own, fun g e => Nat.le_trans T1.out.size (O2.out.new g e), T1.out.trans O2.out.touch (fun _ _ e => e)⟩⟩
end Go.Proofs.YtnngemdpoemhgaaDoor

/- Concat of lists of spans; condition: they are few. -/
namespace Go.Proofs.YtnngemdpoemhgaaDoor
open Go.RowKit

theorem info76 : (Tryd.prog.info? 76).map (fun i => (i.zero, i.size, i.bytes)) = some (some (.agg #[.int .i64 0, .int .i64 0]), 2, 16) := by kernel_rfl
theorem run_append_noneS (w : World) (ty : TypeId) (v : Value) (n : Nat) (xs : List Value) (hown : w.ownsRow 0 76 2 v n xs) (a : Option Addr) (c : Nat) :
    (Builtin.append_ #[55, 55] ty #[v, .slice a 0 c]).run Tryd.prog w = .ok v w := by
  obtain ⟨i0, hin, hz0, hz1, hz2⟩ := info_parts info76
  have hld : ∀ ad, (loadCells ad 0).run Tryd.prog w = .ok #[] w := fun ad => rfl
  rcases hown.2 with ⟨rfl, rfl⟩ | ⟨g, cap, cur, rfl, hbg, hg, hnc, hcm, hcs, htake⟩ <;> cases a <;>
    simp [Builtin.append_, run_underlying Tryd.underlying55, sizeOf, typeInfo, Builtin.lenOf, Builtin.firstCells, storeCells, *]

theorem run_append_rgS (w : World) (ty : TypeId) (v : Value) (n : Nat) (xs : List Value) (hown : w.ownsRow 0 76 2 v n xs) (a : Option Addr) (c : Nat) (l : List R2) (hl : Rg w a l) (hb : (n + l.length) * 16 ≤ 140737488355328) :
    ∃ v' w', (Builtin.append_ #[55, 55] ty #[v, .slice a l.length c]).run Tryd.prog w = .ok v' w' ∧ w'.ownsRow 0 76 2 v' (n + l.length) (xs ++ flatR l) ∧ w.grownBy w' v.ownBlock ∧ (v'.ownBlock = v.ownBlock ∨ v'.ownBlock = some w.heap.size) := by
  obtain ⟨i0, hin, hz0, hz1, hz2⟩ := info_parts info76
  rcases hl with rfl | ⟨b, o, rfl, _, hc⟩
  · refine ⟨v, w, run_append_noneS w ty v n xs hown a c, ?_, ⟨rfl, rfl, rfl, Nat.le_refl _, fun _ _ _ => rfl⟩, .inl rfl⟩
    rw [show flatR [] = [] from rfl, List.append_nil]
    exact hown
  · obtain ⟨v', w', h1, h2, h3, _, h4⟩ := run_append_own_at (P := Tryd.prog) w 0 55 ty 76 i0 (.agg #[.int .i64 0, .int .i64 0]) 2 16 Tryd.underlying55 hin hz0 hz1 hz2 rfl (by decide) v n xs hown ⟨b, o, none⟩ l.length c (flatR l) (length_flatR l) (rg_cells hc) (flatR_one l) (by unfold maxLen; omega) hb (Nat.zero_le _)
    exact ⟨v', w', h1, h2, h3, h4⟩

theorem wpList_append_rgS (w : World) {ops : Array Oper} {rest : List Oper} {o : Oper} {a : Act} {Q : Exit → Act → World → Prop} (hgd : o.guard = none) (s x : Operand)
    (ho : o.op = .call { callee := .builtin .append, args := #[s, x], argTypes := #[55, 55] })
    (v : Value) (n : Nat) (xs : List Value) (hs : a.eval s = v) (hown : w.ownsRow 0 76 2 v n xs) (ad : Option Addr) (c : Nat) (l : List R2) (hx : a.eval x = .slice ad l.length c) (hl : Rg w ad l) (hb : (n + l.length) * 16 ≤ 140737488355328)
    (h : ∀ v' w', w'.ownsRow 0 76 2 v' (n + l.length) (xs ++ flatR l) → w.grownBy w' v.ownBlock → (v'.ownBlock = v.ownBlock ∨ v'.ownBlock = some w.heap.size) → wpList Tryd.prog ops Q rest (a.put o.dst v') w') : wpList Tryd.prog ops Q (o :: rest) a w := by
  refine wpList_plain hgd fun K hK => ?_
  obtain ⟨v', w', hr, h2, h3, h4⟩ := run_append_rgS w o.type v n xs hown ad c l hl hb
  unfold Oper.wp execOp
  simp only [ho, resolve, invoke, builtin, Sem.run_bind, Sem.run_pure, Result.andThen_ok, List.map_toArray, List.map_cons, List.map_nil, hs, hx, hr]
  exact hK _ _ (h v' w' h2 h3 h4)

/-! ### Grow of nil -/
theorem run_room_nilS (w : World) (ty : TypeId) (n : Nat) (h0 : 0 < n) (hb : n * 16 ≤ 140737488355328) :
    (Builtin.append_ #[55, 3] ty #[.slice none 0 0, .int .i64 n]).run Tryd.prog w =
      .ok (.slice (some ⟨w.heap.size, 0, none⟩) n (grownCap w n 0 76))
        (w.drew.alloc (.cells (Builtin.zeroCells #[.int .i64 0, .int .i64 0] n ++ Builtin.zeroCells #[.int .i64 0, .int .i64 0] (grownCap w n 0 76 - n)) 76)) := by
  obtain ⟨i0, hin, hz0, hz1, hz2⟩ := info_parts info76
  have h48 : Builtin.nextslicecap n 0 * 16 ≤ 281474976710656 := growslice_fits (by omega) (by omega)
  have h48' : ¬ (281474976710656 < Builtin.nextslicecap n 0 * 16) := by omega
  have hwr : IntKind.i64.wrap (n : Int) = n := by rw [IntKind.wrap_i64]; omega
  have hn0 : ¬ n = 0 := by omega
  have hn1 : ¬ ((n : Int) < 0) := by omega
  have hn2 : ¬ (281474976710656 < (n : Int) * 16) := by omega
  have hn3 : ¬ (9223372036854775807 < (n : Int)) := by omega
  have hn4 : ¬ (n * 2 = 0) := by omega
  have hfo : (Builtin.firstCells 2 0 (.slice none 0 0)).run Tryd.prog w.drew = .ok #[] w.drew := by simp [Builtin.firstCells]
  simp [Builtin.append_, run_underlying Tryd.underlying55, run_underlying Tryd.underlying3, sizeOf, typeInfo, zeroValue, hin, hz0, hz1, hz2, h48', Question.forced, hfo, newRow, grownCap, asInt, asIntOf, hwr, Value.cells, hn0, hn1, hn2, hn3]
  intro h
  exact absurd h hn4

theorem wpList_room_nilS (w : World) {ops : Array Oper} {rest : List Oper} {o : Oper} {a : Act} {Q : Exit → Act → World → Prop} (hgd : o.guard = none) (s x : Operand)
    (ho : o.op = .call { callee := .builtin .append, args := #[s, x], argTypes := #[55, 3] }) (n : Nat) (hs : a.eval s = .slice none 0 0) (hx : a.eval x = .int .i64 n) (h0 : 0 < n) (hb : n * 16 ≤ 140737488355328)
    (h : ∀ cap w', n ≤ cap → w'.ownsRow 0 76 2 (.slice (some ⟨w.heap.size, 0, none⟩) 0 cap) 0 [] → Touch (fun _ => False) w w' → wpList Tryd.prog ops Q rest (a.put o.dst (.slice (some ⟨w.heap.size, 0, none⟩) n cap)) w') : wpList Tryd.prog ops Q (o :: rest) a w := by
  refine wpList_plain hgd fun K hK => ?_
  have hr := run_room_nilS w o.type n h0 hb
  have hge := grownCap_ge w n 0 76
  unfold Oper.wp execOp
  simp only [ho, resolve, invoke, builtin, Sem.run_bind, Sem.run_pure, Result.andThen_ok, List.map_toArray, List.map_cons, List.map_nil, hs, hx, hr]
  refine hK _ _ (h (grownCap w n 0 76) _ hge ⟨rfl, .inr ⟨w.heap.size, _, _, rfl, Nat.zero_le _, heap_alloc_new w.drew _, Nat.zero_le _, grownCap_le_maxLen w n 0 76 (by unfold maxLen; omega), ?_, rfl⟩⟩ ((Touch.refl _ w).drew.alloc _))
  simp only [Array.size_append, size_zeroCells]
  have : (#[Value.int IntKind.i64 0, .int .i64 0] : Array Value).size = 2 := rfl
  rw [this]
  omega

set_option maxRecDepth 100000 in
set_option maxHeartbeats 4000000 in
theorem grow_anyS (n : Nat) (w : World) (hb : n * 16 ≤ 140737488355328) :
    Calls Tryd.prog 64 #[.slice none 0 0, .int .i64 n] w fun e w' => ∃ a cap, e = .returned (.slice a 0 cap) ∧ w'.ownsRow 0 76 2 (.slice a 0 cap) 0 [] ∧ (∀ g, (Value.slice a 0 cap).ownBlock = some g → w.heap.size ≤ g) ∧ Touch (fun _ => False) w w' := by
  go_enter Tryd.func64, Tryd.ntmps64
  by_cases h0 : n = 0
  · subst h0
    go_wp2
    go_ret
    exact ⟨none, 0, rfl, World.ownsRow_nil _ _ _ _, by intro g h; simp [Value.ownBlock] at h, Touch.refl _ _⟩
  · have h1 : (0 : Int) < (n : Int) := by omega
    go_wp2_with (at_builtin; refine wpList_room_nilS _ rfl _ _ rfl n rfl rfl (by omega) hb ?_)
    intro cap w1 hc hown tc
    have OW := hid hown
    have TC := hid tc
    clear hown tc
    have h2 : (0 : Int) < (cap : Int) := by omega
    go_wp2
    go_ret
    exact ⟨_, _, rfl, OW.out, by intro g h; simp [Value.ownBlock] at h; omega, TC.out⟩

/-- Lists of spans in a list. -/
structure Ls (w : World) (bb : Nat) (ls : List (List R2)) : Prop where
  lt : bb < w.heap.size
  at_ : ∀ i (h : i < ls.length), ∃ a c, w.cell? ⟨bb, i, none⟩ = some (.slice a (ls[i]).length c) ∧ Rg w a ls[i]
theorem Ls.new {w w' : World} {bb : Nat} {ls : List (List R2)} (h : Ls w bb ls) (t : Touch (fun _ => False) w w') : Ls w' bb ls := by
  refine ⟨Nat.lt_of_lt_of_le h.lt t.size, fun i hi => ?_⟩
  obtain ⟨a, c, h1, h2⟩ := h.at_ i hi
  exact ⟨a, c, (t.cell (p := ⟨bb, i, none⟩) h.lt id).trans h1, h2.new t⟩
theorem flat_step (ls : List (List R2)) (k : Nat) (h : k < ls.length) : (ls.take (k + 1)).flatten = (ls.take k).flatten ++ ls[k] := by
  rw [List.take_succ_eq_append_getElem h, List.flatten_append]
  simp
theorem flat_le (ls : List (List R2)) : ∀ k, ((ls.take k).flatten).length ≤ ls.flatten.length := by
  intro k
  have : ls.flatten = (ls.take k).flatten ++ (ls.drop k).flatten := by rw [← List.flatten_append, List.take_append_drop]
  rw [this, List.length_append]
  omega

set_option maxRecDepth 100000 in
set_option maxHeartbeats 4000000 in
theorem concatS_any (bb cc : Nat) (ls : List (List R2)) (w : World) (hls : Ls w bb ls) (hn : ls.length ≤ 100) (hb : ls.flatten.length ≤ 100000) :
    Calls Tryd.prog 47 #[.slice (some ⟨bb, 0, none⟩) ls.length cc] w fun e w' => ∃ v, e = .returned v ∧ OwE w w' 76 v ls.flatten := by
  have HLS := hid hls
  clear hls
  go_enter Tryd.func47, Tryd.ntmps47
  go_wp2_with fail
  go_loopg [3, 11] ls.length (fun gk sz i wr => ∃ k : Nat, k + gk = ls.length ∧ i = .int .i64 (k : Nat) ∧ sz = .int .i64 (((ls.take k).flatten).length : Nat) ∧ w = wr)
  case atStart => exact ⟨0, by omega, rfl, rfl, rfl⟩
  case round =>
    obtain ⟨k, hk, rfl, rfl, rfl⟩ := hrel
    by_cases hlt : k < ls.length
    · obtain ⟨a, c, g0, hrg⟩ := HLS.out.at_ k hlt
      have h1 := flat_le ls (k + 1)
      have HST := hid (show ((ls.take (k + 1)).flatten).length = ((ls.take k).flatten).length + (ls[k]).length by rw [flat_step ls k hlt, List.length_append])
      rw [HST.out] at h1
      generalize ((ls.take k).flatten).length = A at *
      generalize (ls[k]).length = B at *
      have hkI : (k : Int) < (ls.length : Int) := by omega
      clear hrg
      go_wp2_with fail
      go_roundg (gk - 1)
      case measure => omega
      case rel => exact ⟨k + 1, by omega, by go_num, by rw [HST.out]; go_num, rfl⟩
    · obtain rfl : k = ls.length := by omega
      rw [List.take_length]
      obtain ⟨N, hN⟩ : ∃ N, N = ls.flatten.length := ⟨_, rfl⟩
      rw [← hN]
      have K := hid (grow_anyS N w (by omega))
      have HN := hid hN
      clear hN
      go_wp2_with fail
      refine K.out.mono ?_
      rintro e w1 ⟨av, cv, rfl, hown, hnew, tc⟩
      have OW := hid (show OwE w w1 76 (.slice av 0 cv) [] from ⟨hown, hnew, tc⟩)
      clear hown hnew tc K
      go_wp2_with fail
      go_loopg [6, 27] ls.length (fun gk v i wr => ∃ k : Nat, k + gk = ls.length ∧ i = .int .i64 (k : Nat) ∧ OwE w wr 76 v (ls.take k).flatten)
      case atStart => exact ⟨0, by omega, rfl, OW.out⟩
      case round =>
        obtain ⟨k, hk, rfl, how⟩ := hrel
        have OW2 := hid how
        obtain ⟨a3, c3, hv⟩ := own_shape how.own
        subst hv
        have h2 := flat_le ls k
        by_cases hlt : k < ls.length
        · obtain ⟨a, c, g0, hrg⟩ := (HLS.out.new how.touch).at_ k hlt
          have h1 := flat_le ls (k + 1)
          have HST := hid (flat_step ls k hlt)
          have R1 := hid hrg
          have hl2 : ((ls.take k).flatten).length + (ls[k]).length ≤ 100000 := by
            rw [flat_step ls k hlt, List.length_append] at h1
            omega
          generalize (ls.take k).flatten = A at *
          generalize ls[k] = B at *
          have hkI : (k : Int) < (ls.length : Int) := by omega
          clear how hrg h1
          go_wp2_with (at_builtin; refine wpList_append_rgS _ rfl _ _ rfl _ _ _ rfl OW2.out.own a c B rfl R1.out (by omega) ?_)
          intro v' w4 hown hgrow hat
          have OC := hid (show OwE w w4 76 v' (A ++ B) from by
            refine ⟨?_, fun g hg' => ?_, OW2.out.touch.grown hgrow (fun k e hk => by have := OW2.out.new k e; omega)⟩
            · rw [List.length_append, flatR_append]
              exact hown
            · rcases hat with e | e
              · rw [e] at hg'
                exact OW2.out.new g hg'
              · rw [e] at hg'
                simp at hg'
                have := OW2.out.touch.size
                omega)
          clear hown hgrow hat
          go_wp2
          go_roundg (gk - 1)
          case measure => omega
          case rel => exact ⟨k + 1, by omega, by go_num, by rw [HST.out]; exact OC.out⟩
        · obtain rfl : k = ls.length := by omega
          rw [List.take_length] at OW2 ⊢
          go_wp2
          go_ret
          exact ⟨_, rfl, OW2.out⟩
end Go.Proofs.YtnngemdpoemhgaaDoor
