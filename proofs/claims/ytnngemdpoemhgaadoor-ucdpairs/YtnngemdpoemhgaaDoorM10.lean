/- Texts of this proof, one behind the other: what each says stands ahead of it. -/
import Derived.Test.YtnngemdpoemhgaaDoorM9
/- UcdPairs, the walk; condition: the two tables lie there. -/
namespace Go.Proofs.YtnngemdpoemhgaaDoor
open Go.RowKit

theorem one_set {s : List R2} {q : Int} (hq : 65 ≤ q ∧ q ≤ 90) (hs : Canon s) (h : ∀ x, In x s ↔ (0 ≤ x ∧ x ≤ 1114111) ∧ In x [(q, q)]) : s = [(q, q)] := by
  refine canon_one hs ⟨by simp [inB]; omega, List.pairwise_singleton _ _⟩ (fun x => ?_)
  rw [h x, in_one]
  exact ⟨fun k => k.2, fun k => ⟨by dsimp only at k; omega, k⟩⟩
theorem close_set {n : List R2} {q : Int} (L : Letter q) (hn : Canon n) (h : ∀ x, In x n ↔ In x [(q, q)] ∨ ((0 ≤ x ∧ x ≤ 1114111) ∧ In x (moreL [(q, q)] (capsTo 7)))) : n = ones (orbS q) := by
  refine canon_one hn L.canon (fun x => ?_)
  rw [h x, L.more]
  constructor
  · rintro (k | k)
    · rw [in_one] at k
      obtain rfl : x = q := by dsimp only at k; omega
      rw [in_ones]
      exact List.mem_of_getElem? L.o0
    · exact k.2
  · intro k
    refine .inr ⟨?_, k⟩
    obtain ⟨r, hr, h1, h2⟩ := k
    have := L.canon.in_ r hr
    unfold inB at this
    omega

theorem tmod_in (r : Int) : -26 < r.tmod 26 ∧ r.tmod 26 < 26 := by
  rcases Int.le_total 0 r with h | h
  · rw [Int.tmod_eq_emod_of_nonneg h]
    omega
  · obtain ⟨m, rfl⟩ : ∃ m, r = -m := ⟨-r, by omega⟩
    rw [Int.neg_tmod, Int.tmod_eq_emod_of_nonneg (by omega)]
    omega
theorem rem_letter (r : Int) : 65 ≤ wrap64 (65 + (wrap64 (r.tmod 26 + 26)).tmod 26) ∧ wrap64 (65 + (wrap64 (r.tmod 26 + 26)).tmod 26) ≤ 90 := by
  have h := tmod_in r
  generalize r.tmod 26 = m at *
  rw [IntWalk.wrap64_in (m + 26) (by omega), Int.tmod_eq_emod_of_nonneg (by omega), IntWalk.wrap64_in _ (by omega)]
  omega

set_option maxRecDepth 100000 in
set_option maxHeartbeats 8000000 in
theorem ucdPairs_walk (r : Int) (w : World) (ht : Tabs w) : Calls Tryd.prog 4 #[.int .i64 r] w fun e w' => e = .returned (.bool true) ∧ Touch (fun _ => False) w w' := by
  have HT := hid ht
  clear ht
  go_enter Tryd.func4, Tryd.ntmps4
  go_wp2_with fail
  refine (speaks_yes w HT.out).mono ?_
  rintro e w1 ⟨rfl, tc⟩
  have T := hid tc
  clear tc
  go_upto_region 3 with fail
  go_cut [0] (fun v wd => ∃ q : Int, v = .int .i64 q ∧ 65 ≤ q ∧ q ≤ 90 ∧ w1 = wd)
  case first =>
    go_wp2
    go_meet
    case rel => exact ⟨_, rfl, (rem_letter r).1, (rem_letter r).2, rfl⟩
  obtain ⟨q, rfl, hq1, hq2, rfl⟩ := hcut
  have L := hid (letter q ⟨hq1, hq2⟩)
  go_wp2_with fail
  refine (class_any ⟨#[76, 117]⟩ lLu spans_Lu (by decide) (by decide) w1).mono ?_
  rintro e w2 ⟨v, a, rfl, hca, hia, owa⟩
  replace T := hid (T.out.trans owa.touch (fun _ _ e => e))
  obtain ⟨aa, ac, hv, hra⟩ := owa.rg
  subst hv
  have CA := hid hca
  have IA := hid (has_set hia (by decide))
  have RA := hid hra
  clear owa hca hia hra
  go_wp2_with fail
  refine (class_any ⟨#[76, 108]⟩ lLl spans_Ll (by decide) (by decide) w2).mono ?_
  rintro e w3 ⟨v, b, rfl, hcb, hib, owb⟩
  replace T := hid (T.out.trans owb.touch (fun _ _ e => e))
  obtain ⟨ba, bc, hv, hrb⟩ := owb.rg
  subst hv
  have CB := hid hcb
  have IB := hid (has_set hib (by decide))
  have RB := hid hrb
  replace RA := hid (RA.out.new owb.touch)
  clear owb hcb hib hrb
  have KO := hid (orbit_all q w3 (HT.out.new T.out) (by omega))
  rw [L.out.cap] at KO
  go_wp2_with fail
  refine KO.out.mono ?_
  rintro e w4 ⟨v, rfl, owi⟩
  replace T := hid (T.out.trans owi.touch (fun _ _ e => e))
  replace RA := hid (RA.out.new owi.touch)
  replace RB := hid (RB.out.new owi.touch)
  obtain ⟨oa, oc, hv, hig⟩ := owi.ig (orbS_some q)
  subst hv
  obtain ⟨ob, rfl, hob, hcl⟩ := hig
  have IG := hid (show Ig w4 (some ⟨ob, 0, none⟩) (orbS q) from ⟨ob, rfl, hob, hcl⟩)
  clear owi hcl hob KO
  have RG := hid (rg_alloc w4 [(q, q)] 33)
  have TA := hid ((Touch.refl (fun _ => False) w4).alloc (.cells #[.int .i64 q, .int .i64 q] 33))
  go_wp2_with fail
  change Calls Tryd.prog 14 #[_] (w4.alloc (.cells #[.int .i64 q, .int .i64 q] 33)) _
  have RG2 := hid (show Rg (w4.alloc (.cells #[.int .i64 q, .int .i64 q] 33)) (some ⟨w4.heap.size, 0, none⟩) [(q, q)] from RG.out)
  clear RG
  generalize (w4.alloc (.cells #[.int .i64 q, .int .i64 q] 33)) = w5 at *
  refine (of_says (some ⟨w4.heap.size, 0, none⟩) 1 [(q, q)] w5 RG2.out (by simp)).mono ?_
  rintro e w6 ⟨v, s, rfl, hcs, his, ows⟩
  obtain rfl : s = [(q, q)] := one_set ⟨hq1, hq2⟩ hcs his
  obtain ⟨ssa, ssc, hv, hrs⟩ := own_rg ows.own
  subst hv
  have T6 := hid (TA.out.trans ows.touch (fun _ _ e => e))
  have KC := hid (close_any ssa ssc [(q, q)] w6 (HT.out.new (T.out.trans T6.out (fun _ _ e => e))) hrs hcs)
  clear hcs his ows hrs RG2
  go_wp2_with fail
  refine KC.out.mono ?_
  rintro e w7 ⟨v, n, rfl, hcn, hin, own⟩
  obtain rfl : n = ones (orbS q) := close_set L.out hcn hin
  have T7 := hid (T6.out.trans own.touch (fun _ _ e => e))
  obtain ⟨na, nc, hv, hrn⟩ := own.rg
  subst hv
  have CN := hid hcn
  have RN := hid hrn
  clear own hcn hin hrn KC
  have K1 := hid (fun wq (tq : Touch (fun _ => False) w4 wq) => has_says aa ac a q wq (RA.out.new tq) CA.out)
  rw [IA.out q, L.out.up] at K1
  have K2 := hid (fun wq (tq : Touch (fun _ => False) w4 wq) => has_says ba bc b (q + 32) wq (RB.out.new tq) CB.out)
  rw [IB.out (q + 32), L.out.low] at K2
  have K3 := hid (fun wq (tq : Touch (fun _ => False) w4 wq) => has_says aa ac a (q + 32) wq (RA.out.new tq) CA.out)
  rw [IA.out (q + 32), L.out.notUp] at K3
  have HH := hid (show hasB (q + 32) (ones (orbS q)) = true by rw [hasB_iff, in_ones]; exact List.mem_of_getElem? L.out.o1)
  have K4 := hid (fun wq (tq : Touch (fun _ => False) w7 wq) => has_says na nc (ones (orbS q)) (q + 32) wq (RN.out.new tq) CN.out)
  rw [HH.out] at K4
  have K5 := hid (fun wq (tq : Touch (fun _ => False) w7 wq) => size_says na nc (ones (orbS q)) wq (RN.out.new tq) CN.out)
  rw [L.out.size] at K5
  have ho0 := L.out.o0
  have ho1 := L.out.o1
  have HO0 := hid ho0
  have HO1 := hid ho1
  have hfew := L.out.few
  have hlen : 2 ≤ (orbS q).length := by
    rcases Nat.lt_or_ge 1 (orbS q).length with h | h
    · exact h
    · rw [List.getElem?_eq_none h] at ho1; cases ho1
  have hle : (ones (orbS q)).length = (orbS q).length := by simp [ones]
  generalize orbS q = O at *
  generalize ones O = N at *
  have HLE := hid hle
  clear ho0 ho1 hle HH CN RN CA CB IA IB RA RB HT
  have hlI : (2 : Int) ≤ (O.length : Int) := by omega
  go_wp2_with fail
  refine (K1.out w7 T7.out).mono ?_
  rintro e w8 ⟨rfl, tq⟩
  have T8 := hid (T7.out.trans tq (fun _ _ e => e))
  have T78 := hid tq
  clear tq K1
  go_wp2_with fail
  refine (K2.out w8 T8.out).mono ?_
  rintro e w9 ⟨rfl, tq⟩
  have T9 := hid (T8.out.trans tq (fun _ _ e => e))
  have T79 := hid (T78.out.trans tq (fun _ _ e => e))
  clear tq K2 T78 T8
  go_wp2_with fail
  refine (K3.out w9 T9.out).mono ?_
  rintro e w10 ⟨rfl, tq⟩
  have T10 := hid (T9.out.trans tq (fun _ _ e => e))
  have T710 := hid (T79.out.trans tq (fun _ _ e => e))
  clear tq K3 T79 T9
  obtain ⟨ob2, hob2, _, hcl⟩ := IG.out.new T10.out
  simp only [Option.some.injEq, Addr.mk.injEq, and_true] at hob2
  subst hob2
  have d0 : w10.cell? ⟨ob, 0, none⟩ = some (.int .i64 q) := by
    rw [hcl 0 (by omega)]
    have := HO0.out
    rw [List.getElem?_eq_getElem (by omega)] at this
    rw [Option.some.inj this]
  have d1 : w10.cell? ⟨ob, 1, none⟩ = some (.int .i64 (q + 32)) := by
    rw [hcl 1 (by omega)]
    have := HO1.out
    rw [List.getElem?_eq_getElem (by omega)] at this
    rw [Option.some.inj this]
  clear hcl
  go_wp2_with fail
  refine (K4.out w10 T710.out).mono ?_
  rintro e w11 ⟨rfl, tq⟩
  have T711 := hid (T710.out.trans tq (fun _ _ e => e))
  clear tq K4
  go_wp2_with fail
  refine (K5.out w11 T711.out).mono ?_
  rintro e w12 ⟨rfl, tq⟩
  have T12 := hid (T.out.trans (T7.out.trans (T711.out.trans tq (fun _ _ e => e)) (fun _ _ e => e)) (fun _ _ e => e))
  clear tq K5
  go_wp2
  go_ret
  exact ⟨by simp, T12.out⟩
end Go.Proofs.YtnngemdpoemhgaaDoor
