/- Texts of this proof, one behind the other: what each says stands ahead of it. -/
import Derived.Test.YtflonocoihihaaaDoorM6
import Derived.Test.YtflonocoihihaaaDoorM5
/- Close of a set: what it answers; condition: the two tables lie there. -/
namespace Go.Proofs.YtflonocoihihaaaDoor
open Go.RowKit

theorem OwE.keeps {W0 wr w1 : World} {v : Value} {s : List R2} {o : Obj} {pb : Nat} {cs : Array Value} {t : TypeId} (h : OwE W0 wr 26 v s) (hb : wr.heap[pb]? = some (.cells cs t (0, 0))) (ht : t ≠ 26) (hg : (wr.alloc o).grownBy w1 v.ownBlock) : w1.heap[pb]? = some (.cells cs t (0, 0)) := by
  have hlt := lt_of_block hb
  rw [hg.block pb (by simp; omega) (fun k => ?_), Below.heap_alloc _ _ _ hlt]
  · exact hb
  · rcases h.own.2 with ⟨rfl, _⟩ | ⟨g4, cap4, cur4, rfl, _, hh4, _⟩
    · simp [Value.ownBlock] at k
    · simp [Value.ownBlock] at k
      subst k
      rw [hb] at hh4
      simp at hh4
      exact ht hh4.2

/-- So many numbers from one on. -/
def run (x : Int) (j : Nat) : List Int := (List.range j).map fun i : Nat => x + (i : Int)
theorem run_step (x : Int) (j : Nat) : run x (j + 1) = run x j ++ [x + (j : Int)] := by
  unfold run
  rw [List.range_succ, List.map_append]
  rfl
/-- The capital letters of the first pairs. -/
def capsTo (k : Nat) : List Int := (pairsL.take k).flatMap fun p => run p.1 (p.2.1 - p.1 + 1).toNat
theorem caps_step (k : Nat) (x y z : Int) (h : pairsL[k]? = some (x, y, z)) : capsTo (k + 1) = capsTo k ++ run x (y - x + 1).toNat := by
  have hk : k < pairsL.length := by
    rcases Nat.lt_or_ge k pairsL.length with q | q
    · exact q
    · rw [List.getElem?_eq_none q] at h; cases h
  rw [List.getElem?_eq_getElem hk] at h
  unfold capsTo
  rw [List.take_succ_eq_append_getElem hk, Option.some.inj h, List.flatMap_append]
  simp
/-- What a capital letter adds. -/
def addC (s : List R2) (c : Int) : List R2 := if (orbS (capOf c)).any (fun y => hasB y s) = true then (orbS (capOf c)).map (fun y => (y, y)) else []
def moreL (s : List R2) (l : List Int) : List R2 := l.flatMap (addC s)
theorem more_step (s : List R2) (l : List Int) (c : Int) : moreL s (l ++ [c]) = moreL s l ++ addC s c := by simp [moreL]
theorem orbS_len (c : Int) : (orbS c).length ≤ 13 := by
  have h : (orbU c).length ≤ 13 := by
    unfold orbU smalls others
    simp only [List.length_append, List.length_cons, List.length_nil, List.length_map]
    have h1 := List.length_filter_le (isGreat c) (pairsL.take 7)
    have h2 := List.length_filter_le (ofGreat c) (thirdsL.take 5)
    have e1 : (pairsL.take 7).length = 7 := rfl
    have e2 : (thirdsL.take 5).length = 5 := rfl
    omega
  unfold orbS
  split
  · unfold three3
    split
    · simp
    · split <;> simp
  · exact h
theorem add_len (s : List R2) (c : Int) : (addC s c).length ≤ 13 := by
  unfold addC
  split
  · rw [List.length_map]; exact orbS_len _
  · simp
theorem more_len (s : List R2) : ∀ l : List Int, (moreL s l).length ≤ 13 * l.length
  | [] => by simp [moreL]
  | c :: l => by
    have h1 := more_len s l
    have h2 := add_len s c
    unfold moreL at h1 ⊢
    rw [List.flatMap_cons, List.length_append, List.length_cons]
    omega
theorem caps_len (k : Nat) (h : k ≤ 7) : (capsTo k).length ≤ 152 := by
  rcases (show k = 0 ∨ k = 1 ∨ k = 2 ∨ k = 3 ∨ k = 4 ∨ k = 5 ∨ k = 6 ∨ k = 7 by omega) with rfl | rfl | rfl | rfl | rfl | rfl | rfl | rfl <;> decide +kernel
theorem run_len (x : Int) (j : Nat) : (run x j).length = j := by simp [run]
theorem row_small (k : Nat) (x y z : Int) (h : pairsL[k]? = some (x, y, z)) : 0 ≤ x ∧ x ≤ y ∧ y ≤ x + 40 ∧ y ≤ 100000 := by
  have hk : k < 7 := by
    rcases Nat.lt_or_ge k 7 with q | q
    · exact q
    · rw [List.getElem?_eq_none (by simpa [pairsL] using q)] at h; cases h
  rcases (show k = 0 ∨ k = 1 ∨ k = 2 ∨ k = 3 ∨ k = 4 ∨ k = 5 ∨ k = 6 by omega) with rfl | rfl | rfl | rfl | rfl | rfl | rfl <;>
    (simp [pairsL] at h
     omega)
theorem cells_of {w : World} {b i : Nat} {cs : Array Value} {t : TypeId} (h : w.heap[b]? = some (.cells cs t (0, 0))) : w.cell? ⟨b, i, none⟩ = cs[i]? := by simp [World.cell?, h]
theorem OwI.block {W0 wr : World} {v : Value} {e : List Int} (h : OwI W0 wr v e) (h0 : e ≠ []) : ∃ g cap cur, v = .slice (some ⟨g, 0, none⟩) e.length cap ∧ wr.heap[g]? = some (.cells cur 3 (0, 0)) ∧ ∀ i (hi : i < e.length), cur[i]? = some (.int .i64 e[i]) := by
  obtain ⟨a, c, hv, b, rfl, _, hc⟩ := h.ig h0
  rcases h.own.2 with ⟨rfl, k⟩ | ⟨g, cap, cur, hv2, hg, hh, rest⟩
  · exact absurd (List.eq_nil_of_length_eq_zero k) h0
  · rw [hv2] at hv
    simp only [Value.slice.injEq, Option.some.injEq, Addr.mk.injEq, and_true] at hv
    obtain ⟨rfl, _, rfl⟩ := hv
    exact ⟨g, cap, cur, hv2, hh, fun i hi => by rw [← cells_of hh]; exact hc i hi⟩
theorem orbS_some (c : Int) : orbS c ≠ [] := by
  unfold orbS
  split
  · unfold three3
    split
    · simp
    · split <;> simp
  · unfold orbU; simp

set_option maxRecDepth 100000 in
set_option maxHeartbeats 16000000 in
theorem close_any (sa : Option Addr) (sc : Nat) (s : List R2) (w : World) (ht : Tabs w) (hs : Rg w sa s) (hc : Canon s) :
    Calls Tryd.prog 6 #[.slice sa s.length sc] w fun e w' => ∃ v n, e = .returned v ∧ Canon n ∧ (∀ x, In x n ↔ In x s ∨ ((0 ≤ x ∧ x ≤ 1114111) ∧ In x (moreL s (capsTo 7)))) ∧ OwE w w' 26 v n := by
  obtain ⟨i0, hi33, hz0, hz1, hz2⟩ := info_parts info33
  have HT := hid ht
  have HS := hid hs
  have HC := hid hc
  obtain ⟨⟨t0, h0⟩, _⟩ := ht
  clear hs hc
  go_enter Tryd.func6, Tryd.ntmps6
  go_wp2_with (first | refine wpList_load_row rfl 43 _ rfl 0 rfl t0 pairsC (0, 0) _ h0 Tryd.underlying43 rfl (by kernel_rfl) ?_ | fail)
  go_loopg [3, 11] 7 (fun gk v i wr => ∃ k : Nat, k + gk = 7 ∧ i = .int .i64 (k : Nat) ∧ OwE w wr 26 v (moreL s (capsTo k)))
  case atStart => exact ⟨0, rfl, rfl, OwE.nil _ _⟩
  case round =>
    obtain ⟨k, hk, rfl, how⟩ := hrel
    clear h0
    obtain ⟨G, hG⟩ : ∃ G, G = gk := ⟨_, rfl⟩
    have HG := hid hG
    clear hG
    have OW := hid how
    obtain ⟨av, cv, hav⟩ := own_shape how.own
    subst hav
    clear how
    by_cases hlt : k < 7
    · obtain ⟨⟨x, y, z⟩, hxy⟩ : ∃ p, pairsL[k]? = some p := ⟨pairsL[k]'(by simpa [pairsL] using hlt), List.getElem?_eq_getElem _⟩
      have hix := run_index48 k x y z wr hlt hxy
      have hsm := row_small k x y z hxy
      have HCS := hid (caps_step k x y z hxy)
      have hcl := caps_len k (by omega)
      have hkI : (k : Int) < 7 := by omega
      clear hxy
      have B2 := hid (three_block wr (.int .i64 x) (.int .i64 y) (.int .i64 z) 42)
      have TA := hid ((Touch.refl (fun _ => False) wr).alloc (.cells #[.int .i64 x, .int .i64 y, .int .i64 z] 42))
      go_upto_region 5 with fail
      generalize (wr.alloc (.cells #[.int .i64 x, .int .i64 y, .int .i64 z] 42)) = wA at *
      have OA := hid (OW.out.still TA.out)
      have c0 : wA.cell? ⟨wr.heap.size, 0, none⟩ = some (.int .i64 x) := by simp [World.cell?, B2.out]
      generalize wr.heap.size = pb at *
      clear hix OW TA
      go_wp2_with fail
      go_loopg [3, 6] (y - x + 1).toNat (fun g2 v c wq => ∃ j : Nat, (j : Int) + (g2 : Int) = y - x + 1 ∧ c = .int .i64 (x + (j : Int)) ∧ wq.heap[pb]? = some (.cells #[.int .i64 x, .int .i64 y, .int .i64 z] 42 (0, 0)) ∧ OwE w wq 26 v (moreL s (capsTo k ++ run x j)))
      case atStart => exact ⟨0, by omega, by simp, B2.out, by simpa [run] using OA.out⟩
      case round =>
        obtain ⟨j, hj, rfl, hpb, how⟩ := hrel
        obtain ⟨G2, hG2⟩ : ∃ G, G = gk := ⟨_, rfl⟩
        have HG2 := hid hG2
        clear hG2 c0
        have OQ := hid how
        have BQ := hid hpb
        have c1 : wr.cell? ⟨pb, 1, none⟩ = some (.int .i64 y) := by simp [World.cell?, hpb]
        obtain ⟨av2, cv2, hav⟩ := own_shape how.own
        subst hav
        clear how hpb
        have hml := more_len s (capsTo k ++ run x j)
        rw [List.length_append, run_len] at hml
        by_cases hjy : x + (j : Int) ≤ y
        · obtain ⟨L, hL⟩ : ∃ L, L = orbS (capOf (x + (j : Int))) := ⟨_, rfl⟩
          have KO := hid (orbit_all (x + (j : Int)) wr (HT.out.new OQ.out.touch) (by omega))
          rw [← hL] at KO
          have hLl : L.length ≤ 13 := by rw [hL]; exact orbS_len _
          have hL0 : L ≠ [] := by rw [hL]; exact orbS_some _
          have HMS := hid (show moreL s (capsTo k ++ run x (j + 1)) = moreL s (capsTo k ++ run x j) ++ (if L.any (fun y => hasB y s) = true then L.map (fun y => (y, y)) else []) by rw [run_step, ← List.append_assoc, more_step, hL]; rfl)
          obtain ⟨M, hM⟩ : ∃ M, M = moreL s (capsTo k ++ run x j) := ⟨_, rfl⟩
          rw [← hM] at OQ hml HMS ⊢
          clear hM hL
          go_wp2_with fail
          refine KO.out.mono ?_
          rintro e w2 ⟨v7, rfl, owi⟩
          obtain ⟨ob, oc, cur, hv7, hob, hcur⟩ := owi.block hL0
          obtain ⟨oa', oc', hv7', hig⟩ := owi.ig hL0
          rw [hv7] at hv7'
          simp only [Value.slice.injEq] at hv7'
          obtain ⟨rfl, _, rfl⟩ := hv7'
          subst hv7
          have O2 := hid (OQ.out.still owi.touch)
          have B2' := hid ((owi.touch.block pb (lt_of_block BQ.out) id).trans BQ.out)
          have HOB := hid hob
          have HCU := hid hcur
          have KC := hid (contains_has _ oc L sa sc s w2 hig (HS.out.new O2.out.touch) HC.out (by omega))
          clear owi hob hcur hig KO OQ BQ c1
          go_wp2_with fail
          refine KC.out.mono ?_
          rintro e w3 ⟨rfl, tq⟩
          have O3 := hid (O2.out.still tq)
          have B3 := hid ((tq.block pb (lt_of_block B2'.out) id).trans B2'.out)
          have HO3 := hid ((tq.block ob (lt_of_block HOB.out) id).trans HOB.out)
          clear tq KC O2 B2' HOB
          obtain ⟨A, hA⟩ : ∃ A, L.any (fun y => hasB y s) = A := ⟨_, rfl⟩
          rw [hA] at HMS ⊢
          clear hA
          cases A
          · have HM2 := hid (show moreL s (capsTo k ++ run x (j + 1)) = M by rw [HMS.out]; simp)
            go_wp2_with fail
            go_roundg (G2 - 1)
            case measure => have := HG2.out; omega
            case rel => exact ⟨j + 1, by have := HG2.out; omega, by go_num, B3.out, by rw [HM2.out]; exact O3.out⟩
          · have HM2 := hid (show moreL s (capsTo k ++ run x (j + 1)) = M ++ L.map (fun y => (y, y)) by rw [HMS.out]; simp)
            clear HMS
            go_wp2_with fail
            go_loopg [3, 30] L.length (fun g3 v i wq => ∃ q : Nat, q + g3 = L.length ∧ i = .int .i64 (q : Nat) ∧ wq.heap[pb]? = some (.cells #[.int .i64 x, .int .i64 y, .int .i64 z] 42 (0, 0)) ∧ wq.heap[ob]? = some (.cells cur 3 (0, 0)) ∧ OwE w wq 26 v (M ++ (L.take q).map (fun y => (y, y))))
            case atStart => exact ⟨0, by omega, rfl, B3.out, HO3.out, by simpa using O3.out⟩
            case round =>
              obtain ⟨q, hq, rfl, hpb, hob, how⟩ := hrel
              have OR := hid how
              have BR := hid hpb
              have HOR := hid hob
              obtain ⟨av3, cv3, hav⟩ := own_shape how.own
              subst hav
              have hNl : (M ++ (L.take q).map (fun y => (y, y))).length ≤ 10000 := by rw [List.length_append, List.length_map, List.length_take]; omega
              clear how hpb hob
              by_cases hql : q < L.length
              · have d0 : wr.cell? ⟨ob, q, none⟩ = some (.int .i64 L[q]) := by rw [cells_of HOR.out]; exact HCU.out q hql
                have HTK := hid (show (L.take (q + 1)).map (fun y => (y, y)) = (L.take q).map (fun y => (y, y)) ++ [(L[q], L[q])] by rw [List.take_succ_eq_append_getElem hql, List.map_append]; rfl)
                generalize L[q] = u at *
                have hqI : (q : Int) < (L.length : Int) := by omega
                obtain ⟨N, hN⟩ : ∃ N, N = M ++ (L.take q).map (fun y => (y, y)) := ⟨_, rfl⟩
                rw [← hN] at OR hNl ⊢
                have HN := hid hN
                clear hN
                go_wp2_with (at_builtin; refine wpList_append_own_at _ rfl _ _ 24 rfl 0 26 i0 (.agg #[.int .i64 0, .int .i64 0]) 2 16 Tryd.underlying24 hi33 hz0 hz1 hz2 rfl (by decide) _ _ _ rfl (OR.out.own.alloc _) ⟨wr.heap.size, 0, none⟩ 1 1 [.int .i64 u, .int .i64 u] rfl rfl (row_new wr [.int .i64 u, .int .i64 u] 26) (by intro a ha; simp at ha; subst ha; rfl) (by unfold maxLen; omega) (by omega) (Nat.zero_le _) ?_)
                intro v' w4 hown hgrow _ hat
                have OC := hid (OR.out.more (xs := [(u, u)]) hown hgrow hat)
                have B4 := hid (OR.out.keeps BR.out (by decide) hgrow)
                have HO4 := hid (OR.out.keeps HOR.out (by decide) hgrow)
                clear hown hgrow hat
                go_wp2
                go_roundg (gk - 1)
                case measure => omega
                case rel => exact ⟨q + 1, by omega, by go_num, B4.out, HO4.out, by rw [HTK.out, ← List.append_assoc, ← HN.out]; exact OC.out⟩
              · obtain rfl : q = L.length := by omega
                have OR2 := hid (show OwE w wr 26 (.slice av3 (M ++ (L.take L.length).map (fun y => (y, y))).length cv3) (M ++ L.map (fun y => (y, y))) by have := OR.out; rw [List.take_length] at this ⊢; exact this)
                go_wp2_with fail
                go_roundg (G2 - 1)
                case measure => have := HG2.out; omega
                case rel => exact ⟨j + 1, by have := HG2.out; omega, by go_num, BR.out, by rw [HM2.out]; exact OR2.out⟩
        · have HJ := hid (show j = (y - x + 1).toNat by omega)
          have HQ := hid (show moreL s (capsTo (k + 1)) = moreL s (capsTo k ++ run x j) by rw [HCS.out, HJ.out])
          go_wp2_with fail
          go_roundg (G - 1)
          case measure => have := HG.out; omega
          case rel => exact ⟨k + 1, by have := HG.out; omega, by go_num, by rw [HQ.out]; exact OQ.out⟩
    · obtain rfl : k = 7 := by omega
      have hml := more_len s (capsTo 7)
      have hcl := caps_len 7 (by omega)
      obtain ⟨M, hM⟩ : ∃ M, M = moreL s (capsTo 7) := ⟨_, rfl⟩
      rw [← hM] at OW hml ⊢
      have HM := hid hM
      clear hM
      obtain ⟨a5, c5, hv5, hrg⟩ := OW.out.rg
      simp only [Value.slice.injEq] at hv5
      obtain ⟨rfl, _, rfl⟩ := hv5
      have K := hid (of_says av cv M wr hrg (by omega))
      clear hrg
      go_wp2_with fail
      refine K.out.mono ?_
      rintro e w1 ⟨v, m, rfl, hcm, him, ow⟩
      obtain ⟨ma, mc, hv, hrm⟩ := own_rg ow.own
      subst hv
      have T1 := hid (OW.out.touch.trans ow.touch (fun _ _ e => e))
      have HIM := hid him
      have KR := hid (or_says sa ma sc mc s m w1 (HS.out.new T1.out) hrm HC.out hcm)
      clear ow hcm him hrm K
      go_wp2_with fail
      refine KR.out.mono ?_
      rintro e w2 ⟨v, n, rfl, hcn, hin, ow⟩
      have O2 := hid ow
      have HCN := hid hcn
      have HIN := hid hin
      obtain ⟨a2, c2, hav⟩ := own_shape ow.own
      subst hav
      clear ow hcn hin KR
      go_wp2
      go_ret
      exact ⟨_, n, rfl, HCN.out, fun x => by rw [HIN.out x, HIM.out x, HM.out], ⟨O2.out.own, fun g e => Nat.le_trans T1.out.size (O2.out.new g e), T1.out.trans O2.out.touch (fun _ _ e => e)⟩⟩
end Go.Proofs.YtflonocoihihaaaDoor

/- What closing a set adds, plain facts; no condition beside those told. -/
namespace Go.Proofs.YtflonocoihihaaaDoor

/-- What closing a set adds, told by its numbers. -/
theorem in_add (x c : Int) (s : List R2) : In x (addC s c) ↔ (∃ y ∈ orbS (capOf c), In y s) ∧ x ∈ orbS (capOf c) := by
  unfold addC
  split
  · rename_i h
    obtain ⟨y, hy, k⟩ := List.any_eq_true.1 h
    have k2 := hasB_iff.1 k
    constructor
    · rintro ⟨r, hr, h1, h2⟩
      obtain ⟨z, hz, rfl⟩ := List.mem_map.1 hr
      dsimp only at h1 h2
      obtain rfl : x = z := by omega
      exact ⟨⟨y, hy, k2⟩, hz⟩
    · rintro ⟨_, hx⟩
      exact ⟨(x, x), List.mem_map.2 ⟨x, hx, rfl⟩, Int.le_refl _, Int.le_refl _⟩
  · rename_i h
    constructor
    · exact fun k => absurd k (in_nil x)
    · rintro ⟨⟨y, hy, k⟩, _⟩
      exact absurd (List.any_eq_true.2 ⟨y, hy, hasB_iff.2 k⟩) h
theorem in_more (x : Int) (s : List R2) : ∀ l : List Int, In x (moreL s l) ↔ ∃ c ∈ l, (∃ y ∈ orbS (capOf c), In y s) ∧ x ∈ orbS (capOf c)
  | [] => by simp [moreL, in_nil]
  | c :: l => by
    have e : moreL s (c :: l) = addC s c ++ moreL s l := by simp [moreL]
    rw [e, in_append, in_add, in_more x s l]
    simp only [List.mem_cons, exists_eq_or_imp]
/-- A number in the closed set. -/
def Clo (s : List R2) (x : Int) : Prop := In x s ∨ ((0 ≤ x ∧ x ≤ 1114111) ∧ In x (moreL s (capsTo 7)))
theorem clo_or {s t o : List R2} (h : ∀ x, In x o ↔ In x s ∨ In x t) (x : Int) : Clo o x ↔ Clo s x ∨ Clo t x := by
  unfold Clo
  rw [h, in_more, in_more, in_more]
  simp only [h]
  constructor
  · rintro ((k | k) | ⟨k, c, hc, ⟨y, hy, (j | j)⟩, hx⟩)
    · exact .inl (.inl k)
    · exact .inr (.inl k)
    · exact .inl (.inr ⟨k, c, hc, ⟨y, hy, j⟩, hx⟩)
    · exact .inr (.inr ⟨k, c, hc, ⟨y, hy, j⟩, hx⟩)
  · rintro ((k | ⟨k, c, hc, ⟨y, hy, j⟩, hx⟩) | (k | ⟨k, c, hc, ⟨y, hy, j⟩, hx⟩))
    · exact .inl (.inl k)
    · exact .inr ⟨k, c, hc, ⟨y, hy, .inl j⟩, hx⟩
    · exact .inl (.inr k)
    · exact .inr ⟨k, c, hc, ⟨y, hy, .inr j⟩, hx⟩
theorem canon_none {n : List R2} (hn : Canon n) (h : ∀ x, ¬ In x n) : n = [] := canon_one hn ⟨by simp, List.Pairwise.nil⟩ (fun x => ⟨fun k => absurd k (h x), fun k => absurd k (in_nil x)⟩)
end Go.Proofs.YtflonocoihihaaaDoor

/- Plain facts: what isn't in a set, and what is in both; no condition beside those told. -/
namespace Go.Proofs.YtflonocoihihaaaDoor

def nstep (p : List R2 × Int) (r : R2) : List R2 × Int := (if p.2 < r.1 then p.1 ++ [(p.2, r.1 - 1)] else p.1, r.2 + 1)
def notAcc (s : List R2) : List R2 × Int := s.foldl nstep ([], 0)
def notL (s : List R2) : List R2 := if (notAcc s).2 ≤ 1114111 then (notAcc s).1 ++ [((notAcc s).2, 1114111)] else (notAcc s).1

theorem canon_snoc {o : List R2} {r : R2} (h : Canon o) (hr : inB r) (hq : ∀ q ∈ o, q.2 + 1 < r.1) : Canon (o ++ [r]) := by
  refine ⟨fun q hq' => ?_, ?_⟩
  · rcases List.mem_append.1 hq' with k | k
    · exact h.in_ q k
    · simp only [List.mem_singleton] at k
      rw [k]
      exact hr
  · rw [List.pairwise_append]
    refine ⟨h.up, List.pairwise_singleton _ _, fun a ha b hb => ?_⟩
    simp only [List.mem_singleton] at hb
    rw [hb]
    exact hq a ha

theorem not_good : ∀ (m o : List R2) (n : Int), Canon o → (∀ q ∈ o, q.2 + 1 < n) → 0 ≤ n → n ≤ 1114112 → (∀ r ∈ m, inB r) → m.Pairwise (fun a b => a.2 + 1 < b.1) → (∀ r ∈ m, n ≤ r.1) →
    Canon (m.foldl nstep (o, n)).1 ∧ (∀ q ∈ (m.foldl nstep (o, n)).1, q.2 + 1 < (m.foldl nstep (o, n)).2) ∧ n ≤ (m.foldl nstep (o, n)).2 ∧ (m.foldl nstep (o, n)).2 ≤ 1114112 ∧ (∀ r ∈ m, r.2 < (m.foldl nstep (o, n)).2) ∧
      ∀ x, In x (m.foldl nstep (o, n)).1 ↔ In x o ∨ (n ≤ x ∧ x < (m.foldl nstep (o, n)).2 ∧ ¬ In x m)
  | [], o, n, hc, hq, h0, h1, _, _, _ => ⟨hc, hq, Int.le_refl _, h1, by simp, fun x => by
      simp only [List.foldl_nil]
      constructor
      · exact .inl
      · rintro (h | h)
        · exact h
        · omega⟩
  | (a, b) :: m, o, n, hc, hq, h0, h1, hin, hup, hle => by
    have hp := List.pairwise_cons.1 hup
    have hr := hin (a, b) (by simp)
    have hn := hle (a, b) (by simp)
    unfold inB at hr
    dsimp only at hr hn hp
    have key : Canon (nstep (o, n) (a, b)).1 ∧ (∀ q ∈ (nstep (o, n) (a, b)).1, q.2 + 1 < b + 1) ∧ ∀ x, In x (nstep (o, n) (a, b)).1 ↔ In x o ∨ (n ≤ x ∧ x < a) := by
      unfold nstep
      dsimp only
      by_cases c : n < a
      · rw [if_pos c]
        refine ⟨canon_snoc hc (by unfold inB; dsimp only; omega) hq, fun q hq' => ?_, fun x => ?_⟩
        · rcases List.mem_append.1 hq' with k | k
          · have := hq q k
            omega
          · simp only [List.mem_singleton] at k
            rw [k]
            dsimp only
            omega
        · rw [in_append, in_one]
          dsimp only
          constructor
          · rintro (h | h)
            · exact .inl h
            · exact .inr (by omega)
          · rintro (h | h)
            · exact .inl h
            · exact .inr (by omega)
      · rw [if_neg c]
        refine ⟨hc, fun q hq' => by have := hq q hq'; omega, fun x => ?_⟩
        constructor
        · exact .inl
        · rintro (h | h)
          · exact h
          · omega
    obtain ⟨k1, k2, k3⟩ := key
    have ih := not_good m (nstep (o, n) (a, b)).1 (b + 1) k1 k2 (by omega) (by omega) (fun r hr' => hin r (by simp [hr'])) hp.2 (fun r hr' => by have := hp.1 r hr'; omega)
    have e : ((a, b) :: m).foldl nstep (o, n) = m.foldl nstep ((nstep (o, n) (a, b)).1, b + 1) := rfl
    rw [e]
    obtain ⟨i1, i2, i3, i4, i5, i6⟩ := ih
    refine ⟨i1, i2, by omega, i4, fun r hr' => ?_, fun x => ?_⟩
    · rcases List.mem_cons.1 hr' with k | k
      · rw [k]
        dsimp only
        omega
      · exact i5 r k
    · rw [i6 x, k3 x, in_cons]
      dsimp only
      have above : In x m → b + 1 < x := fun ⟨r, hr', h1', _⟩ => by have := hp.1 r hr'; omega
      constructor
      · rintro ((h | h) | h)
        · exact .inl h
        · refine .inr ⟨h.1, by omega, ?_⟩
          rintro (k | k)
          · omega
          · have := above k; omega
        · refine .inr ⟨by omega, h.2.1, ?_⟩
          rintro (k | k)
          · omega
          · exact h.2.2 k
      · rintro (h | h)
        · exact .inl (.inl h)
        · rcases Int.lt_or_le x a with k | k
          · exact .inl (.inr ⟨h.1, k⟩)
          · rcases Int.lt_or_le b x with q | q
            · exact .inr ⟨by omega, h.2.1, fun hm => h.2.2 (.inr hm)⟩
            · exact absurd (.inl ⟨k, q⟩) h.2.2

theorem notL_good {s : List R2} (hs : Canon s) : Canon (notL s) ∧ ∀ x, In x (notL s) ↔ (0 ≤ x ∧ x ≤ 1114111) ∧ ¬ In x s := by
  obtain ⟨h1, h2, h3, h4, h5, h6⟩ := not_good s [] 0 ⟨by simp, .nil⟩ (by simp) (by omega) (by omega) hs.in_ hs.up (fun r hr => (hs.in_ r hr).1)
  have up : ∀ x, In x s → x < (notAcc s).2 ∧ 0 ≤ x := fun x ⟨r, hr, k1, k2⟩ => by
    have := h5 r hr
    have := (hs.in_ r hr).1
    unfold notAcc
    omega
  have h6' : ∀ x, In x (notAcc s).1 ↔ (0 ≤ x ∧ x < (notAcc s).2 ∧ ¬ In x s) := fun x => by
    have := h6 x
    simp only [in_nil, false_or] at this
    exact this
  have h4' : (notAcc s).2 ≤ 1114112 := h4
  have h3' : 0 ≤ (notAcc s).2 := h3
  unfold notL
  by_cases c : (notAcc s).2 ≤ 1114111
  · rw [if_pos c]
    refine ⟨canon_snoc h1 (by unfold inB; dsimp only; omega) h2, fun x => ?_⟩
    rw [in_append, in_one, h6' x]
    dsimp only
    constructor
    · rintro (h | h)
      · exact ⟨by omega, h.2.2⟩
      · exact ⟨by omega, fun k => by have := up x k; omega⟩
    · rintro ⟨h, k⟩
      rcases Int.lt_or_le x (notAcc s).2 with q | q
      · exact .inl ⟨h.1, q, k⟩
      · exact .inr (by omega)
  · rw [if_neg c]
    refine ⟨h1, fun x => ?_⟩
    rw [h6' x]
    constructor
    · intro h
      exact ⟨by omega, h.2.2⟩
    · intro h
      exact ⟨by omega, by omega, h.2⟩

/-- What is in both. -/
def andL : List R2 → List R2 → List R2
  | [], _ => []
  | _ :: _, [] => []
  | a :: s, b :: t => (if max a.1 b.1 ≤ min a.2 b.2 then [(max a.1 b.1, min a.2 b.2)] else []) ++ (if a.2 < b.2 then andL s (b :: t) else andL (a :: s) t)
termination_by s t => s.length + t.length

theorem Canon.tail {a : R2} {s : List R2} (h : Canon (a :: s)) : Canon s := ⟨fun r hr => h.in_ r (by simp [hr]), (List.pairwise_cons.1 h.up).2⟩
theorem Canon.above {a : R2} {s : List R2} (h : Canon (a :: s)) {x : Int} (hx : In x s) : a.2 + 1 < x := by
  obtain ⟨r, hr, h1, _⟩ := hx
  have := (List.pairwise_cons.1 h.up).1 r hr
  omega

theorem andL_good : ∀ (s t : List R2), Canon s → Canon t → Canon (andL s t) ∧ ∀ x, In x (andL s t) ↔ In x s ∧ In x t
  | [], t, _, _ => by
    rw [andL]
    exact ⟨⟨by simp, .nil⟩, fun x => ⟨fun h => absurd h (in_nil x), fun h => absurd h.1 (in_nil x)⟩⟩
  | _ :: _, [], _, _ => by
    rw [andL]
    exact ⟨⟨by simp, .nil⟩, fun x => ⟨fun h => absurd h (in_nil x), fun h => absurd h.2 (in_nil x)⟩⟩
  | (a, b) :: s, (c, d) :: t, hs, ht => by
    have hi := hs.in_ (a, b) (by simp)
    have hj := ht.in_ (c, d) (by simp)
    unfold inB at hi hj
    dsimp only at hi hj
    have aS : ∀ x, In x s → b + 1 < x := fun x h => hs.above h
    have aT : ∀ x, In x t → d + 1 < x := fun x h => ht.above h
    rw [andL]
    dsimp only
    obtain ⟨R, hR, g1, g2⟩ : ∃ R, R = (if b < d then andL s ((c, d) :: t) else andL ((a, b) :: s) t) ∧ Canon R ∧ ∀ x, In x R ↔ (In x ((a, b) :: s) ∧ In x ((c, d) :: t)) ∧ min b d < x := by
      by_cases k : b < d
      · obtain ⟨h1, h2⟩ := andL_good s ((c, d) :: t) hs.tail ht
        refine ⟨_, rfl, by rw [if_pos k]; exact h1, fun x => ?_⟩
        rw [if_pos k, h2 x, in_cons, in_cons]
        dsimp only
        constructor
        · rintro ⟨p, q⟩
          have := aS x p
          exact ⟨⟨.inr p, q⟩, by omega⟩
        · rintro ⟨⟨p, q⟩, r⟩
          rcases p with p | p
          · omega
          · exact ⟨p, q⟩
      · obtain ⟨h1, h2⟩ := andL_good ((a, b) :: s) t hs ht.tail
        refine ⟨_, rfl, by rw [if_neg k]; exact h1, fun x => ?_⟩
        rw [if_neg k, h2 x, in_cons, in_cons]
        dsimp only
        constructor
        · rintro ⟨p, q⟩
          have := aT x q
          exact ⟨⟨p, .inr q⟩, by omega⟩
        · rintro ⟨⟨p, q⟩, r⟩
          rcases q with q | q
          · omega
          · exact ⟨p, q⟩
    rw [← hR]
    have low : ∀ x, In x R → min b d + 1 < x := fun x h => by
      obtain ⟨⟨p, q⟩, r⟩ := (g2 x).1 h
      rcases in_cons.1 p with p | p <;> rcases in_cons.1 q with q | q
      · dsimp only at p q; omega
      · have := aT x q; dsimp only at p; omega
      · have := aS x p; dsimp only at q; omega
      · have := aS x p; have := aT x q; omega
    have iff : ∀ x, (In x ((a, b) :: s) ∧ In x ((c, d) :: t)) ↔ (max a c ≤ x ∧ x ≤ min b d) ∨ In x R := fun x => by
      rw [g2 x]
      constructor
      · rintro ⟨p, q⟩
        rcases Int.lt_or_le (min b d) x with k | k
        · exact .inr ⟨⟨p, q⟩, k⟩
        · left
          rcases in_cons.1 p with p' | p'
          · rcases in_cons.1 q with q' | q'
            · dsimp only at p' q'; omega
            · have := aT x q'; dsimp only at p'; omega
          · have := aS x p'
            rcases in_cons.1 q with q' | q'
            · dsimp only at q'; omega
            · have := aT x q'; omega
      · rintro (h | h)
        · exact ⟨in_cons.2 (.inl (by dsimp only; omega)), in_cons.2 (.inl (by dsimp only; omega))⟩
        · exact h.1
    by_cases e : max a c ≤ min b d
    · rw [if_pos e]
      refine ⟨⟨fun r hr => ?_, ?_⟩, fun x => ?_⟩
      · rcases List.mem_append.1 hr with k | k
        · simp only [List.mem_singleton] at k
          rw [k]
          unfold inB
          dsimp only
          omega
        · exact g1.in_ r k
      · rw [List.singleton_append, List.pairwise_cons]
        refine ⟨fun r hr => ?_, g1.up⟩
        have hri := g1.in_ r hr
        unfold inB at hri
        exact low r.1 ⟨r, hr, Int.le_refl _, hri.2.1⟩
      · rw [in_append, in_one, iff x]
    · rw [if_neg e, List.nil_append]
      refine ⟨g1, fun x => ?_⟩
      rw [iff x]
      constructor
      · exact .inr
      · rintro (h | h)
        · omega
        · exact h
termination_by s t => s.length + t.length
end Go.Proofs.YtflonocoihihaaaDoor
