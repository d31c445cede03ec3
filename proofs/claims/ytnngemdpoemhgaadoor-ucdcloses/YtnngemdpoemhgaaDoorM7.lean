/- Texts of this proof, one behind the other: what each says stands ahead of it. -/
import Derived.Test.YtnngemdpoemhgaaDoorM5
import Derived.Test.YtnngemdpoemhgaaDoorM6
/- Close of a set: what it answers; condition: the two tables lie there. -/
namespace Go.Proofs.YtnngemdpoemhgaaDoor
open Go.RowKit

theorem OwE.keeps {W0 wr w1 : World} {v : Value} {s : List R2} {o : Obj} {pb : Nat} {cs : Array Value} {t : TypeId} (h : OwE W0 wr 33 v s) (hb : wr.heap[pb]? = some (.cells cs t (0, 0))) (ht : t ≠ 33) (hg : (wr.alloc o).grownBy w1 v.ownBlock) : w1.heap[pb]? = some (.cells cs t (0, 0)) := by
  have hlt := lt_of_block hb
  rw [hg.block pb (by simp; omega) (fun k => ?_), Below.heap_alloc _ _ _ hlt]
  · exact hb
  · rcases h.own.2 with ⟨rfl, _⟩ | ⟨g4, cap4, cur4, rfl, _, hh4, _⟩
    · simp [Value.ownBlock] at k
    · simp [Value.ownBlock] at k
      subst k
      rw [hb] at hh4
      simp at hh4
      exact ht hh4.2

/-- So many numbers from one on. -/
def run (x : Int) (j : Nat) : List Int := (List.range j).map fun i : Nat => x + (i : Int)
theorem run_step (x : Int) (j : Nat) : run x (j + 1) = run x j ++ [x + (j : Int)] := by
  unfold run
  rw [List.range_succ, List.map_append]
  rfl
/-- The capital letters of the first pairs. -/
def capsTo (k : Nat) : List Int := (pairsL.take k).flatMap fun p => run p.1 (p.2.1 - p.1 + 1).toNat
theorem caps_step (k : Nat) (x y z : Int) (h : pairsL[k]? = some (x, y, z)) : capsTo (k + 1) = capsTo k ++ run x (y - x + 1).toNat := by
  have hk : k < pairsL.length := by
    rcases Nat.lt_or_ge k pairsL.length with q | q
    · exact q
    · rw [List.getElem?_eq_none q] at h; cases h
  rw [List.getElem?_eq_getElem hk] at h
  unfold capsTo
  rw [List.take_succ_eq_append_getElem hk, Option.some.inj h, List.flatMap_append]
  simp
/-- What a capital letter adds. -/
def addC (s : List R2) (c : Int) : List R2 := if (orbS (capOf c)).any (fun y => hasB y s) = true then (orbS (capOf c)).map (fun y => (y, y)) else []
def moreL (s : List R2) (l : List Int) : List R2 := l.flatMap (addC s)
theorem more_step (s : List R2) (l : List Int) (c : Int) : moreL s (l ++ [c]) = moreL s l ++ addC s c := by simp [moreL]
theorem orbS_len (c : Int) : (orbS c).length ≤ 13 := by
  have h : (orbU c).length ≤ 13 := by
    unfold orbU smalls others
    simp only [List.length_append, List.length_cons, List.length_nil, List.length_map]
    have h1 := List.length_filter_le (isGreat c) (pairsL.take 7)
    have h2 := List.length_filter_le (ofGreat c) (thirdsL.take 5)
    have e1 : (pairsL.take 7).length = 7 := rfl
    have e2 : (thirdsL.take 5).length = 5 := rfl
    omega
  unfold orbS
  split
  · unfold three3
    split
    · simp
    · split <;> simp
  · exact h
theorem add_len (s : List R2) (c : Int) : (addC s c).length ≤ 13 := by
  unfold addC
  split
  · rw [List.length_map]; exact orbS_len _
  · simp
theorem more_len (s : List R2) : ∀ l : List Int, (moreL s l).length ≤ 13 * l.length
  | [] => by simp [moreL]
  | c :: l => by
    have h1 := more_len s l
    have h2 := add_len s c
    unfold moreL at h1 ⊢
    rw [List.flatMap_cons, List.length_append, List.length_cons]
    omega
theorem caps_len (k : Nat) (h : k ≤ 7) : (capsTo k).length ≤ 152 := by
  rcases (show k = 0 ∨ k = 1 ∨ k = 2 ∨ k = 3 ∨ k = 4 ∨ k = 5 ∨ k = 6 ∨ k = 7 by omega) with rfl | rfl | rfl | rfl | rfl | rfl | rfl | rfl <;> decide +kernel
theorem run_len (x : Int) (j : Nat) : (run x j).length = j := by simp [run]
theorem row_small (k : Nat) (x y z : Int) (h : pairsL[k]? = some (x, y, z)) : 0 ≤ x ∧ x ≤ y ∧ y ≤ x + 40 ∧ y ≤ 100000 := by
  have hk : k < 7 := by
    rcases Nat.lt_or_ge k 7 with q | q
    · exact q
    · rw [List.getElem?_eq_none (by simpa [pairsL] using q)] at h; cases h
  rcases (show k = 0 ∨ k = 1 ∨ k = 2 ∨ k = 3 ∨ k = 4 ∨ k = 5 ∨ k = 6 by omega) with rfl | rfl | rfl | rfl | rfl | rfl | rfl <;>
    (simp [pairsL] at h
     omega)
theorem cells_of {w : World} {b i : Nat} {cs : Array Value} {t : TypeId} (h : w.heap[b]? = some (.cells cs t (0, 0))) : w.cell? ⟨b, i, none⟩ = cs[i]? := by simp [World.cell?, h]
theorem OwI.block {W0 wr : World} {v : Value} {e : List Int} (h : OwI W0 wr v e) (h0 : e ≠ []) : ∃ g cap cur, v = .slice (some ⟨g, 0, none⟩) e.length cap ∧ wr.heap[g]? = some (.cells cur 3 (0, 0)) ∧ ∀ i (hi : i < e.length), cur[i]? = some (.int .i64 e[i]) := by
  obtain ⟨a, c, hv, b, rfl, _, hc⟩ := h.ig h0
  rcases h.own.2 with ⟨rfl, k⟩ | ⟨g, cap, cur, hv2, hg, hh, rest⟩
  · exact absurd (List.eq_nil_of_length_eq_zero k) h0
  · rw [hv2] at hv
    simp only [Value.slice.injEq, Option.some.injEq, Addr.mk.injEq, and_true] at hv
    obtain ⟨rfl, _, rfl⟩ := hv
    exact ⟨g, cap, cur, hv2, hh, fun i hi => by rw [← cells_of hh]; exact hc i hi⟩
theorem orbS_some (c : Int) : orbS c ≠ [] := by
  unfold orbS
  split
  · unfold three3
    split
    · simp
    · split <;> simp
  · unfold orbU; simp

set_option maxRecDepth 100000 in
set_option maxHeartbeats 16000000 in
theorem close_any (sa : Option Addr) (sc : Nat) (s : List R2) (w : World) (ht : Tabs w) (hs : Rg w sa s) (hc : Canon s) :
    Calls Tryd.prog 13 #[.slice sa s.length sc] w fun e w' => ∃ v n, e = .returned v ∧ Canon n ∧ (∀ x, In x n ↔ In x s ∨ ((0 ≤ x ∧ x ≤ 1114111) ∧ In x (moreL s (capsTo 7)))) ∧ OwE w w' 33 v n := by
  obtain ⟨i0, hi33, hz0, hz1, hz2⟩ := info_parts info33
  have HT := hid ht
  have HS := hid hs
  have HC := hid hc
  obtain ⟨⟨t0, h0⟩, _⟩ := ht
  clear hs hc
  go_enter Tryd.func13, Tryd.ntmps13
  go_wp2_with (first | refine wpList_load_row rfl 48 _ rfl 0 rfl t0 pairsC (0, 0) _ h0 Tryd.underlying48 rfl (by kernel_rfl) ?_ | fail)
  go_loopg [3, 11] 7 (fun gk v i wr => ∃ k : Nat, k + gk = 7 ∧ i = .int .i64 (k : Nat) ∧ OwE w wr 33 v (moreL s (capsTo k)))
  case atStart => exact ⟨0, rfl, rfl, OwE.nil _ _⟩
  case round =>
    obtain ⟨k, hk, rfl, how⟩ := hrel
    clear h0
    obtain ⟨G, hG⟩ : ∃ G, G = gk := ⟨_, rfl⟩
    have HG := hid hG
    clear hG
    have OW := hid how
    obtain ⟨av, cv, hav⟩ := own_shape how.own
    subst hav
    clear how
    by_cases hlt : k < 7
    · obtain ⟨⟨x, y, z⟩, hxy⟩ : ∃ p, pairsL[k]? = some p := ⟨pairsL[k]'(by simpa [pairsL] using hlt), List.getElem?_eq_getElem _⟩
      have hix := run_index48 k x y z wr hlt hxy
      have hsm := row_small k x y z hxy
      have HCS := hid (caps_step k x y z hxy)
      have hcl := caps_len k (by omega)
      have hkI : (k : Int) < 7 := by omega
      clear hxy
      have B2 := hid (three_block wr (.int .i64 x) (.int .i64 y) (.int .i64 z) 47)
      have TA := hid ((Touch.refl (fun _ => False) wr).alloc (.cells #[.int .i64 x, .int .i64 y, .int .i64 z] 47))
      go_upto_region 5 with fail
      generalize (wr.alloc (.cells #[.int .i64 x, .int .i64 y, .int .i64 z] 47)) = wA at *
      have OA := hid (OW.out.still TA.out)
      have c0 : wA.cell? ⟨wr.heap.size, 0, none⟩ = some (.int .i64 x) := by simp [World.cell?, B2.out]
      generalize wr.heap.size = pb at *
      clear hix OW TA
      go_wp2_with fail
      go_loopg [3, 6] (y - x + 1).toNat (fun g2 v c wq => ∃ j : Nat, (j : Int) + (g2 : Int) = y - x + 1 ∧ c = .int .i64 (x + (j : Int)) ∧ wq.heap[pb]? = some (.cells #[.int .i64 x, .int .i64 y, .int .i64 z] 47 (0, 0)) ∧ OwE w wq 33 v (moreL s (capsTo k ++ run x j)))
      case atStart => exact ⟨0, by omega, by simp, B2.out, by simpa [run] using OA.out⟩
      case round =>
        obtain ⟨j, hj, rfl, hpb, how⟩ := hrel
        obtain ⟨G2, hG2⟩ : ∃ G, G = gk := ⟨_, rfl⟩
        have HG2 := hid hG2
        clear hG2 c0
        have OQ := hid how
        have BQ := hid hpb
        have c1 : wr.cell? ⟨pb, 1, none⟩ = some (.int .i64 y) := by simp [World.cell?, hpb]
        obtain ⟨av2, cv2, hav⟩ := own_shape how.own
        subst hav
        clear how hpb
        have hml := more_len s (capsTo k ++ run x j)
        rw [List.length_append, run_len] at hml
        by_cases hjy : x + (j : Int) ≤ y
        · obtain ⟨L, hL⟩ : ∃ L, L = orbS (capOf (x + (j : Int))) := ⟨_, rfl⟩
          have KO := hid (orbit_all (x + (j : Int)) wr (HT.out.new OQ.out.touch) (by omega))
          rw [← hL] at KO
          have hLl : L.length ≤ 13 := by rw [hL]; exact orbS_len _
          have hL0 : L ≠ [] := by rw [hL]; exact orbS_some _
          have HMS := hid (show moreL s (capsTo k ++ run x (j + 1)) = moreL s (capsTo k ++ run x j) ++ (if L.any (fun y => hasB y s) = true then L.map (fun y => (y, y)) else []) by rw [run_step, ← List.append_assoc, more_step, hL]; rfl)
          obtain ⟨M, hM⟩ : ∃ M, M = moreL s (capsTo k ++ run x j) := ⟨_, rfl⟩
          rw [← hM] at OQ hml HMS ⊢
          clear hM hL
          go_wp2_with fail
          refine KO.out.mono ?_
          rintro e w2 ⟨v7, rfl, owi⟩
          obtain ⟨ob, oc, cur, hv7, hob, hcur⟩ := owi.block hL0
          obtain ⟨oa', oc', hv7', hig⟩ := owi.ig hL0
          rw [hv7] at hv7'
          simp only [Value.slice.injEq] at hv7'
          obtain ⟨rfl, _, rfl⟩ := hv7'
          subst hv7
          have O2 := hid (OQ.out.still owi.touch)
          have B2' := hid ((owi.touch.block pb (lt_of_block BQ.out) id).trans BQ.out)
          have HOB := hid hob
          have HCU := hid hcur
          have KC := hid (contains_has _ oc L sa sc s w2 hig (HS.out.new O2.out.touch) HC.out (by omega))
          clear owi hob hcur hig KO OQ BQ c1
          go_wp2_with fail
          refine KC.out.mono ?_
          rintro e w3 ⟨rfl, tq⟩
          have O3 := hid (O2.out.still tq)
          have B3 := hid ((tq.block pb (lt_of_block B2'.out) id).trans B2'.out)
          have HO3 := hid ((tq.block ob (lt_of_block HOB.out) id).trans HOB.out)
          clear tq KC O2 B2' HOB
          obtain ⟨A, hA⟩ : ∃ A, L.any (fun y => hasB y s) = A := ⟨_, rfl⟩
          rw [hA] at HMS ⊢
          clear hA
          cases A
          · have HM2 := hid (show moreL s (capsTo k ++ run x (j + 1)) = M by rw [HMS.out]; simp)
            go_wp2_with fail
            go_roundg (G2 - 1)
            case measure => have := HG2.out; omega
            case rel => exact ⟨j + 1, by have := HG2.out; omega, by go_num, B3.out, by rw [HM2.out]; exact O3.out⟩
          · have HM2 := hid (show moreL s (capsTo k ++ run x (j + 1)) = M ++ L.map (fun y => (y, y)) by rw [HMS.out]; simp)
            clear HMS
            go_wp2_with fail
            go_loopg [3, 30] L.length (fun g3 v i wq => ∃ q : Nat, q + g3 = L.length ∧ i = .int .i64 (q : Nat) ∧ wq.heap[pb]? = some (.cells #[.int .i64 x, .int .i64 y, .int .i64 z] 47 (0, 0)) ∧ wq.heap[ob]? = some (.cells cur 3 (0, 0)) ∧ OwE w wq 33 v (M ++ (L.take q).map (fun y => (y, y))))
            case atStart => exact ⟨0, by omega, rfl, B3.out, HO3.out, by simpa using O3.out⟩
            case round =>
              obtain ⟨q, hq, rfl, hpb, hob, how⟩ := hrel
              have OR := hid how
              have BR := hid hpb
              have HOR := hid hob
              obtain ⟨av3, cv3, hav⟩ := own_shape how.own
              subst hav
              have hNl : (M ++ (L.take q).map (fun y => (y, y))).length ≤ 10000 := by rw [List.length_append, List.length_map, List.length_take]; omega
              clear how hpb hob
              by_cases hql : q < L.length
              · have d0 : wr.cell? ⟨ob, q, none⟩ = some (.int .i64 L[q]) := by rw [cells_of HOR.out]; exact HCU.out q hql
                have HTK := hid (show (L.take (q + 1)).map (fun y => (y, y)) = (L.take q).map (fun y => (y, y)) ++ [(L[q], L[q])] by rw [List.take_succ_eq_append_getElem hql, List.map_append]; rfl)
                generalize L[q] = u at *
                have hqI : (q : Int) < (L.length : Int) := by omega
                obtain ⟨N, hN⟩ : ∃ N, N = M ++ (L.take q).map (fun y => (y, y)) := ⟨_, rfl⟩
                rw [← hN] at OR hNl ⊢
                have HN := hid hN
                clear hN
                go_wp2_with (at_builtin; refine wpList_append_own_at _ rfl _ _ 26 rfl 0 33 i0 (.agg #[.int .i64 0, .int .i64 0]) 2 16 Tryd.underlying26 hi33 hz0 hz1 hz2 rfl (by decide) _ _ _ rfl (OR.out.own.alloc _) ⟨wr.heap.size, 0, none⟩ 1 1 [.int .i64 u, .int .i64 u] rfl rfl (row_new wr [.int .i64 u, .int .i64 u] 33) (by intro a ha; simp at ha; subst ha; rfl) (by unfold maxLen; omega) (by omega) (Nat.zero_le _) ?_)
                intro v' w4 hown hgrow _ hat
                have OC := hid (OR.out.more (xs := [(u, u)]) hown hgrow hat)
                have B4 := hid (OR.out.keeps BR.out (by decide) hgrow)
                have HO4 := hid (OR.out.keeps HOR.out (by decide) hgrow)
                clear hown hgrow hat
                go_wp2
                go_roundg (gk - 1)
                case measure => omega
                case rel => exact ⟨q + 1, by omega, by go_num, B4.out, HO4.out, by rw [HTK.out, ← List.append_assoc, ← HN.out]; exact OC.out⟩
              · obtain rfl : q = L.length := by omega
                have OR2 := hid (show OwE w wr 33 (.slice av3 (M ++ (L.take L.length).map (fun y => (y, y))).length cv3) (M ++ L.map (fun y => (y, y))) by have := OR.out; rw [List.take_length] at this ⊢; exact this)
                go_wp2_with fail
                go_roundg (G2 - 1)
                case measure => have := HG2.out; omega
                case rel => exact ⟨j + 1, by have := HG2.out; omega, by go_num, BR.out, by rw [HM2.out]; exact OR2.out⟩
        · have HJ := hid (show j = (y - x + 1).toNat by omega)
          have HQ := hid (show moreL s (capsTo (k + 1)) = moreL s (capsTo k ++ run x j) by rw [HCS.out, HJ.out])
          go_wp2_with fail
          go_roundg (G - 1)
          case measure => have := HG.out; omega
          case rel => exact ⟨k + 1, by have := HG.out; omega, by go_num, by rw [HQ.out]; exact OQ.out⟩
    · obtain rfl : k = 7 := by omega
      have hml := more_len s (capsTo 7)
      have hcl := caps_len 7 (by omega)
      obtain ⟨M, hM⟩ : ∃ M, M = moreL s (capsTo 7) := ⟨_, rfl⟩
      rw [← hM] at OW hml ⊢
      have HM := hid hM
      clear hM
      obtain ⟨a5, c5, hv5, hrg⟩ := OW.out.rg
      simp only [Value.slice.injEq] at hv5
      obtain ⟨rfl, _, rfl⟩ := hv5
      have K := hid (of_says av cv M wr hrg (by omega))
      clear hrg
      go_wp2_with fail
      refine K.out.mono ?_
      rintro e w1 ⟨v, m, rfl, hcm, him, ow⟩
      obtain ⟨ma, mc, hv, hrm⟩ := own_rg ow.own
      subst hv
      have T1 := hid (OW.out.touch.trans ow.touch (fun _ _ e => e))
      have HIM := hid him
      have KR := hid (or_says sa ma sc mc s m w1 (HS.out.new T1.out) hrm HC.out hcm)
      clear ow hcm him hrm K
      go_wp2_with fail
      refine KR.out.mono ?_
      rintro e w2 ⟨v, n, rfl, hcn, hin, ow⟩
      have O2 := hid ow
      have HCN := hid hcn
      have HIN := hid hin
      obtain ⟨a2, c2, hav⟩ := own_shape ow.own
      subst hav
      clear ow hcn hin KR
      go_wp2
      go_ret
      exact ⟨_, n, rfl, HCN.out, fun x => by rw [HIN.out x, HIM.out x, HM.out], ⟨O2.out.own, fun g e => Nat.le_trans T1.out.size (O2.out.new g e), T1.out.trans O2.out.touch (fun _ _ e => e)⟩⟩
end Go.Proofs.YtnngemdpoemhgaaDoor

/- What closing a set adds, plain facts; no condition beside those told. -/
namespace Go.Proofs.YtnngemdpoemhgaaDoor

/-- What closing a set adds, told by its numbers. -/
theorem in_add (x c : Int) (s : List R2) : In x (addC s c) ↔ (∃ y ∈ orbS (capOf c), In y s) ∧ x ∈ orbS (capOf c) := by
  unfold addC
  split
  · rename_i h
    obtain ⟨y, hy, k⟩ := List.any_eq_true.1 h
    have k2 := hasB_iff.1 k
    constructor
    · rintro ⟨r, hr, h1, h2⟩
      obtain ⟨z, hz, rfl⟩ := List.mem_map.1 hr
      dsimp only at h1 h2
      obtain rfl : x = z := by omega
      exact ⟨⟨y, hy, k2⟩, hz⟩
    · rintro ⟨_, hx⟩
      exact ⟨(x, x), List.mem_map.2 ⟨x, hx, rfl⟩, Int.le_refl _, Int.le_refl _⟩
  · rename_i h
    constructor
    · exact fun k => absurd k (in_nil x)
    · rintro ⟨⟨y, hy, k⟩, _⟩
      exact absurd (List.any_eq_true.2 ⟨y, hy, hasB_iff.2 k⟩) h
theorem in_more (x : Int) (s : List R2) : ∀ l : List Int, In x (moreL s l) ↔ ∃ c ∈ l, (∃ y ∈ orbS (capOf c), In y s) ∧ x ∈ orbS (capOf c)
  | [] => by simp [moreL, in_nil]
  | c :: l => by
    have e : moreL s (c :: l) = addC s c ++ moreL s l := by simp [moreL]
    rw [e, in_append, in_add, in_more x s l]
    simp only [List.mem_cons, exists_eq_or_imp]
/-- A number in the closed set. -/
def Clo (s : List R2) (x : Int) : Prop := In x s ∨ ((0 ≤ x ∧ x ≤ 1114111) ∧ In x (moreL s (capsTo 7)))
theorem clo_or {s t o : List R2} (h : ∀ x, In x o ↔ In x s ∨ In x t) (x : Int) : Clo o x ↔ Clo s x ∨ Clo t x := by
  unfold Clo
  rw [h, in_more, in_more, in_more]
  simp only [h]
  constructor
  · rintro ((k | k) | ⟨k, c, hc, ⟨y, hy, (j | j)⟩, hx⟩)
    · exact .inl (.inl k)
    · exact .inr (.inl k)
    · exact .inl (.inr ⟨k, c, hc, ⟨y, hy, j⟩, hx⟩)
    · exact .inr (.inr ⟨k, c, hc, ⟨y, hy, j⟩, hx⟩)
  · rintro ((k | ⟨k, c, hc, ⟨y, hy, j⟩, hx⟩) | (k | ⟨k, c, hc, ⟨y, hy, j⟩, hx⟩))
    · exact .inl (.inl k)
    · exact .inr ⟨k, c, hc, ⟨y, hy, .inl j⟩, hx⟩
    · exact .inl (.inr k)
    · exact .inr ⟨k, c, hc, ⟨y, hy, .inr j⟩, hx⟩
theorem canon_none {n : List R2} (hn : Canon n) (h : ∀ x, ¬ In x n) : n = [] := canon_one hn ⟨by simp, List.Pairwise.nil⟩ (fun x => ⟨fun k => absurd k (h x), fun k => absurd k (in_nil x)⟩)
end Go.Proofs.YtnngemdpoemhgaaDoor

/- The document's orbit of a number is the program's, plain facts; no condition. -/
namespace Go.Proofs.YtnngemdpoemhgaaDoor

/-- Capital letters of the pairs that stand 32 apart. -/
def lOne : List R2 := [(65, 90), (192, 214), (216, 222), (913, 929), (931, 937), (1040, 1071)]
def ringsL : List (List Int) := [[75, 107, 8490], [83, 115, 383], [197, 229, 8491], [181, 924, 956], [931, 962, 963]]
def ringB (a b : Int) : Bool := ringsL.any fun g => g.contains a && g.contains b
/-- Are two numbers, the less one first, one by one rule? -/
def oneU (a b : Int) : Bool := (a == b) || ((b - a == 32) && hasB a lOne) || ((b - a == 40) && (decide (66560 ≤ a) && decide (a ≤ 66599))) || ringB a b
def oneB (a b : Int) : Bool := if b < a then oneU b a else oneU a b
/-- A number into a rising list. -/
def addL (l : List Int) (n : Int) : List Int := l.takeWhile (fun y => decide (y < n)) ++ n :: (match l.dropWhile (fun y => decide (y < n)) with | [] => [] | y :: r => if y = n then r else y :: r)
def triesL (r : Int) : List Int := [r - 40, r - 32, r, r + 32, r + 40, 75, 107, 8490, 83, 115, 383, 197, 229, 8491, 181, 924, 956, 931, 962, 963]
def hitB (r t k : Int) : Bool := (t == r) || (decide (0 ≤ k) && (oneB r k && oneB k t))
def rowD (r t : Int) (ks : List Int) (o : List Int) : List Int := ks.foldl (fun o k => if hitB r t k = true then addL o t else o) o
def orbD (r : Int) (ts : List Int) : List Int := ts.foldl (fun o t => rowD r t (triesL r) o) []
theorem takeWhile_app (p : Int → Bool) : ∀ (l : List Int) (n : Int) (m : List Int), p n = false → (l.takeWhile p ++ n :: m).takeWhile p = l.takeWhile p ∧ (l.takeWhile p ++ n :: m).dropWhile p = n :: m
  | [], n, m, h => by simp [h]
  | x :: l, n, m, h => by
    cases hx : p x
    · simp [hx, h]
    · have := takeWhile_app p l n m h
      simp [hx, this]
theorem add_twice (l : List Int) (n : Int) : addL (addL l n) n = addL l n := by
  unfold addL
  generalize (match l.dropWhile (fun y => decide (y < n)) with | [] => [] | y :: r => if y = n then r else y :: r) = m
  have h := takeWhile_app (fun y => decide (y < n)) l n m (by simp)
  rw [h.1, h.2]
  simp
theorem row_once (r t : Int) : ∀ (ks o : List Int), rowD r t ks o = if ks.any (hitB r t) = true then addL o t else o
  | [], o => rfl
  | k :: ks, o => by
    unfold rowD
    rw [List.foldl_cons]
    have ih := row_once r t ks
    unfold rowD at ih
    rw [ih, List.any_cons]
    cases hitB r t k
    · simp
    · simp only [if_true, Bool.true_or]
      split
      · exact add_twice _ _
      · rfl
/-- The same, quicker. -/
def nearK (r : Int) : List Int := (triesL r).filter fun k => decide (0 ≤ k) && oneB r k
def hitQ (r t : Int) : Bool := (t == r) || (nearK r).any fun k => oneB k t
def orbE (r : Int) (ts : List Int) : List Int := ts.foldl (fun o t => if hitQ r t = true then addL o t else o) []
theorem hit_any (r t : Int) : (triesL r).any (hitB r t) = hitQ r t := by
  rw [Bool.eq_iff_iff]
  unfold hitQ nearK hitB
  simp only [List.any_eq_true, Bool.or_eq_true, Bool.and_eq_true, List.mem_filter, decide_eq_true_eq]
  constructor
  · rintro ⟨k, hk, (h | ⟨h1, h2, h3⟩)⟩
    · exact .inl h
    · exact .inr ⟨k, ⟨hk, h1, h2⟩, h3⟩
  · rintro (h | ⟨k, ⟨hk, h1, h2⟩, h3⟩)
    · exact ⟨r, by simp [triesL], .inl h⟩
    · exact ⟨k, hk, .inr ⟨h1, h2, h3⟩⟩
theorem orb_quick (r : Int) (ts : List Int) : orbD r ts = orbE r ts := by
  unfold orbD orbE
  congr 1
  funext o t
  rw [row_once, hit_any]
/-- The numbers that have others that are one with them lie in these. -/
def relL : List R2 := [(65, 122), (181, 181), (192, 254), (383, 383), (913, 969), (1040, 1103), (8490, 8491), (66560, 66639)]
theorem ring_rel {a b : Int} (h : ringB a b = true) : In a relL ∧ In b relL := by
  obtain ⟨g, hg, h⟩ := List.any_eq_true.1 h
  simp only [Bool.and_eq_true, List.contains_iff_mem] at h
  obtain ⟨ha, hb⟩ := h
  have key : ∀ g ∈ ringsL, ∀ x ∈ g, hasB x relL = true := by decide
  exact ⟨hasB_iff.1 (key g hg a ha), hasB_iff.1 (key g hg b hb)⟩
theorem in_rel (a : Int) : In a relL ↔ (65 ≤ a ∧ a ≤ 122) ∨ a = 181 ∨ (192 ≤ a ∧ a ≤ 254) ∨ a = 383 ∨ (913 ≤ a ∧ a ≤ 969) ∨ (1040 ≤ a ∧ a ≤ 1103) ∨ (8490 ≤ a ∧ a ≤ 8491) ∨ (66560 ≤ a ∧ a ≤ 66639) := by
  unfold relL
  simp only [in_cons, in_nil, or_false]
  omega
theorem in_lOne (a : Int) : In a lOne ↔ (65 ≤ a ∧ a ≤ 90) ∨ (192 ≤ a ∧ a ≤ 214) ∨ (216 ≤ a ∧ a ≤ 222) ∨ (913 ≤ a ∧ a ≤ 929) ∨ (931 ≤ a ∧ a ≤ 937) ∨ (1040 ≤ a ∧ a ≤ 1071) := by
  unfold lOne
  simp only [in_cons, in_nil, or_false]
theorem oneU_rel {a b : Int} (h : oneU a b = true) : a = b ∨ (In a relL ∧ In b relL) := by
  unfold oneU at h
  simp only [Bool.or_eq_true, Bool.and_eq_true, beq_iff_eq, decide_eq_true_eq, hasB_iff] at h
  rcases h with ((h | ⟨h1, h2⟩) | ⟨h1, h2, h3⟩) | h
  · exact .inl h
  · rw [in_lOne] at h2
    rw [in_rel, in_rel]
    omega
  · rw [in_rel, in_rel]
    omega
  · exact .inr (ring_rel h)
theorem one_rel {a b : Int} (h : oneB a b = true) : a = b ∨ (In a relL ∧ In b relL) := by
  unfold oneB at h
  split at h
  · rcases oneU_rel h with k | k
    · exact .inl k.symm
    · exact .inr ⟨k.2, k.1⟩
  · exact oneU_rel h
theorem add_self (n : Int) : addL [] n = [n] ∧ addL [n] n = [n] := by
  unfold addL
  simp
theorem hit_far {r t : Int} (hr : ¬ In r relL) (h : hitQ r t = true) : t = r := by
  unfold hitQ nearK at h
  simp only [Bool.or_eq_true, List.any_eq_true, List.mem_filter, Bool.and_eq_true, decide_eq_true_eq, beq_iff_eq] at h
  rcases h with h | ⟨k, ⟨_, _, h1⟩, h2⟩
  · exact h
  · rcases one_rel h1 with e | e
    · subst e
      rcases one_rel h2 with e | e
      · exact e.symm
      · exact absurd e.1 hr
    · exact absurd e.1 hr
theorem fold_far (r : Int) (hr : ¬ In r relL) : ∀ (ts : List Int) (o : List Int), (o = [] ∨ o = [r]) → r ∈ ts ∨ o = [r] → ts.foldl (fun o t => if hitQ r t = true then addL o t else o) o = [r]
  | [], o, _, h => by
    rcases h with h | h
    · simp at h
    · exact h
  | t :: ts, o, ho, h => by
    rw [List.foldl_cons]
    have hrr : hitQ r r = true := by unfold hitQ; simp
    by_cases ht : t = r
    · subst ht
      rw [if_pos hrr]
      have e : addL o t = [t] := by
        rcases ho with rfl | rfl
        · exact (add_self t).1
        · exact (add_self t).2
      rw [e]
      exact fold_far t hr ts [t] (.inr rfl) (.inr rfl)
    · rw [if_neg (fun k => ht (hit_far hr k))]
      refine fold_far r hr ts o ho ?_
      rcases h with h | h
      · rcases List.mem_cons.1 h with e | e
        · exact absurd e.symm ht
        · exact .inl e
      · exact .inr h
theorem orb_far {r : Int} (hr : ¬ In r relL) : orbD r (triesL r) = [r] := by
  rw [orb_quick]
  exact fold_far r hr _ [] (.inl rfl) (.inl (by simp [triesL]))
theorem cap_far {r : Int} (hr : ¬ In r relL) : capOf r = r := by
  rw [in_rel] at hr
  unfold capOf
  have h1 : thirdsL.find? (isThird r) = none := by
    rw [List.find?_eq_none]
    intro t ht
    simp only [thirdsL, List.mem_cons, List.not_mem_nil, or_false] at ht
    simp only [isThird, beq_iff_eq]
    rcases ht with rfl | rfl | rfl | rfl | rfl <;> dsimp only <;> omega
  have h2 : pairsL.find? (isSmall r) = none := by
    rw [List.find?_eq_none]
    intro p hp
    simp only [pairsL, List.mem_cons, List.not_mem_nil, or_false] at hp
    simp only [isSmall, Bool.and_eq_true, decide_eq_true_eq]
    rcases hp with rfl | rfl | rfl | rfl | rfl | rfl | rfl <;> dsimp only <;> omega
  rw [h1, h2]
theorem orbS_far {r : Int} (hr : ¬ In r relL) : orbS r = [r] := by
  have e : orbU r = [r] := by
    unfold orbU
    rw [others_none r (by rw [in_rel] at hr; omega)]
    have : smalls r 7 = [] := by
      have e : smalls r 7 = (pairsL.filter (isGreat r)).map fun p => r + p.2.2 := rfl
      rw [e, List.map_eq_nil_iff, List.filter_eq_nil_iff]
      intro p hp
      rw [in_rel] at hr
      simp only [pairsL, List.mem_cons, List.not_mem_nil, or_false] at hp
      simp only [isGreat, Bool.and_eq_true, decide_eq_true_eq]
      rcases hp with rfl | rfl | rfl | rfl | rfl | rfl | rfl <;> dsimp only <;> omega
    rw [this]
    rfl
  unfold orbS
  rw [e]
/-- All numbers of the ranges, one by one. -/
def allOf (l : List R2) : List Int := l.flatMap fun p => run p.1 (p.2 - p.1 + 1).toNat
theorem mem_run (x a : Int) (n : Nat) : x ∈ run a n ↔ a ≤ x ∧ x < a + n := by
  unfold run
  simp only [List.mem_map, List.mem_range]
  constructor
  · rintro ⟨i, hi, rfl⟩; omega
  · rintro ⟨h1, h2⟩
    exact ⟨(x - a).toNat, by omega, by omega⟩
theorem mem_all {x : Int} {l : List R2} (h : In x l) : x ∈ allOf l := by
  obtain ⟨r, hr, h1, h2⟩ := h
  unfold allOf
  rw [List.mem_flatMap]
  exact ⟨r, hr, (mem_run _ _ _).2 ⟨h1, by omega⟩⟩
def goodR (r : Int) : Bool := (orbE r (triesL r) == orbS (capOf r)) && (orbS (capOf r)).all (fun y => (capOf y == capOf r) && decide (0 ≤ y) && decide (y ≤ 1114111)) && decide ((orbS (capOf r)).length ≤ 3) && (orbS (capOf r)).contains r && ((orbS (capOf r) == [r]) || (capsTo 7).contains (capOf r))
set_option maxRecDepth 1000000 in
theorem all_good : (allOf relL).all goodR = true := by decide +kernel
end Go.Proofs.YtnngemdpoemhgaaDoor
