/- Texts of this proof, one behind the other: what each says stands ahead of it. -/
import Derived.Test.YtnngemdpoemhgaaDoorM8
import Derived.Test.YtnngemdpoemhgaaDoorM9
import Derived.Deep.QuietTactic
import Derived.BigQuiet
/- The document's Orbit of every number that there is; no condition beside that. -/
namespace Go.Proofs.YtnngemdpoemhgaaDoor
open Go.RowKit Go.BigFrame

theorem OwI.in {W0 wr : World} {a : Option Addr} {len cap : Nat} {e : List Int} (h : OwI W0 wr (.slice a len cap) e) : ((e = [] ∧ a = none ∧ cap = 0) ∨ Ig wr a e) ∧ e.length ≤ cap ∧ len = e.length := by
  rcases h.own.2 with ⟨hv, h0⟩ | ⟨g, cap', cur, hv, hg, hh, hle, rest⟩
  · simp only [Value.slice.injEq] at hv
    obtain ⟨rfl, rfl, rfl⟩ := hv
    exact ⟨.inl ⟨List.eq_nil_of_length_eq_zero h0, rfl, rfl⟩, by omega, by omega⟩
  · simp only [Value.slice.injEq] at hv
    obtain ⟨rfl, rfl, rfl⟩ := hv
    refine ⟨.inr ⟨g, rfl, lt_of_block hh, fun i hi => ?_⟩, by omega, rfl⟩
    have := h.own.cells (g := g) rfl i (.int .i64 e[i]) (by simp [encI, hi])
    rwa [add_g] at this
/-- A region that draws its order, all of whose operations leave a class of worlds and yield one value in each: one walk. -/
theorem wp_region_class {P : Program} {id : Nat} {Q : Exit → Act → World → Prop} {a : Act} {w : World} {l : List Oper} (C : World → Prop) (hm : P.follows .mixedOrders = true) (hB : Region.lexB .any l.toArray = true) (hC : C w.drew)
    (h : wpQuiet P l.toArray C (fun a' => ∀ w', C w' → Q .normal a' w') l a) : (Code.region id l.toArray true).wp P Q a w :=
  wp_region_quiet (C := C) hm hB hC (by simpa using h)
theorem add_length (l : List Int) (n : Int) : (addL l n).length ≤ l.length + 1 := by
  have h1 := congrArg List.length (List.takeWhile_append_dropWhile (p := fun y => decide (y < n)) (l := l))
  rw [List.length_append] at h1
  unfold addL
  rw [List.length_append, List.length_cons]
  split
  · rename_i h
    rw [h] at h1
    simp only [List.length_nil] at h1 ⊢
    omega
  · rename_i y r h
    rw [h] at h1
    simp only [List.length_cons] at h1
    split
    · omega
    · simp only [List.length_cons]; omega
theorem row_step (r t : Int) (ks o : List Int) (k : Int) : rowD r t (ks ++ [k]) o = if hitB r t k = true then addL (rowD r t ks o) t else rowD r t ks o := by
  unfold rowD
  rw [List.foldl_append]
  rfl
theorem row_length (r t : Int) : ∀ (ks o : List Int), (rowD r t ks o).length ≤ o.length + ks.length
  | [], o => Nat.le_refl _
  | k :: ks, o => by
    unfold rowD
    rw [List.foldl_cons]
    have ih := row_length r t ks (if hitB r t k = true then addL o t else o)
    unfold rowD at ih
    have h := add_length o t
    rw [List.length_cons]
    split at ih <;> simp_all <;> omega
theorem orb_step (r : Int) (ts : List Int) (t : Int) : orbD r (ts ++ [t]) = rowD r t (triesL r) (orbD r ts) := by
  unfold orbD
  rw [List.foldl_append]
  rfl
theorem tries_in (r : Int) (hr : 0 ≤ r ∧ r ≤ 1114111) : ∀ t ∈ triesL r, -1000 ≤ t ∧ t ≤ 2000000 := by
  intro t ht
  simp only [triesL, List.mem_cons, List.not_mem_nil, or_false] at ht
  omega
theorem tries_len (r : Int) : (triesL r).length = 20 := rfl

set_option maxRecDepth 100000 in
set_option maxHeartbeats 8000000 in
theorem docOrbit_walk (r : Int) (w : World) (hr : 0 ≤ r ∧ r ≤ 1114111) :
    Calls Tryd.prog 11 #[.int .i64 r] w fun e w' => ∃ v, e = .returned v ∧ OwI w w' v (orbD r (triesL r)) := by
  have HB := hid (tries_in r hr)
  have HTL := hid (tries_len r)
  obtain ⟨hr0, hr1⟩ := hr
  go_enter Tryd.func11, Tryd.ntmps11
  go_upto_region 5 with fail
  change Code.wp Tryd.prog _ _ _ (w.alloc (.cells ((triesL r).map (Value.int .i64)).toArray 3))
  have IG := hid (ig_alloc w (triesL r) 3)
  have TA := hid ((Touch.refl (fun _ => False) w).alloc (.cells ((triesL r).map (Value.int .i64)).toArray 3))
  generalize (w.alloc (.cells ((triesL r).map (Value.int .i64)).toArray 3)) = w1 at *
  obtain ⟨n, hn⟩ : ∃ n, n = w.heap.size := ⟨_, rfl⟩
  rw [← hn] at IG ⊢
  clear hn
  obtain ⟨TS, hTS⟩ : ∃ TS, TS = triesL r := ⟨_, rfl⟩
  rw [← hTS] at IG HB HTL
  have HTS := hid hTS
  clear hTS
  go_wp2_with fail
  go_loopg [3, 5] 20 (fun gk v i wq => ∃ k : Nat, k + gk = 20 ∧ i = .int .i64 (k : Nat) ∧ (orbD r (TS.take k)).length ≤ 20 * k ∧ OwI w1 wq v (orbD r (TS.take k)))
  case atStart => exact ⟨0, rfl, rfl, Nat.zero_le _, OwI.nil _⟩
  case round =>
    obtain ⟨k, hk, rfl, hlen, how⟩ := hrel
    have OW := hid how
    obtain ⟨av, cv, hav⟩ := own_shape how.own
    subst hav
    obtain ⟨G, hG⟩ : ∃ G, G = gk := ⟨_, rfl⟩
    have HG := hid hG
    clear hG how
    by_cases hlt : k < 20
    · have hkt : k < TS.length := by rw [HTL.out]; exact hlt
      obtain ⟨t, ht⟩ : ∃ t, TS[k] = t := ⟨_, rfl⟩
      have HT := hid ht
      have htb := HB.out t (by rw [← ht]; exact List.getElem_mem _)
      have HOS := hid (show orbD r (TS.take (k + 1)) = rowD r t TS (orbD r (TS.take k)) by rw [List.take_succ_eq_append_getElem hkt, ht, orb_step, HTS.out])
      obtain ⟨O, hO⟩ : ∃ O, O = orbD r (TS.take k) := ⟨_, rfl⟩
      rw [← hO] at OW hlen HOS ⊢
      have hkI : (k : Int) < 20 := by omega
      clear ht hO
      go_wp2_with fail
      go_loopg [3, 6] 20 (fun g2 v i wq => ∃ j : Nat, j + g2 = 20 ∧ i = .int .i64 (j : Nat) ∧ OwI w1 wq v (rowD r t (TS.take j) O))
      case atStart => exact ⟨0, rfl, rfl, OW.out⟩
      case round =>
        obtain ⟨j, hj, rfl, how⟩ := hrel
        have OR := hid how
        have IGR := hid (IG.out.new how.touch)
        obtain ⟨av2, cv2, hav⟩ := own_shape how.own
        subst hav
        clear how OW
        have hrl := row_length r t (TS.take j) O
        by_cases hjl : j < 20
        · have hjt : j < TS.length := by rw [HTL.out]; exact hjl
          have HJ := hid (show (TS.take j).length = j by rw [List.length_take]; omega)
          rw [HJ.out] at hrl
          obtain ⟨q, hq⟩ : ∃ q, TS[j] = q := ⟨_, rfl⟩
          have hqb := HB.out q (by rw [← hq]; exact List.getElem_mem _)
          have HRS := hid (show rowD r t (TS.take (j + 1)) O = if hitB r t q = true then addL (rowD r t (TS.take j) O) t else rowD r t (TS.take j) O by rw [List.take_succ_eq_append_getElem hjt, hq, row_step])
          have HQ := hid hq
          obtain ⟨P, hP⟩ : ∃ P, P = rowD r t (TS.take j) O := ⟨_, rfl⟩
          rw [← hP] at OR hrl HRS ⊢
          have hjI : (j : Int) < 20 := by omega
          clear hq hP
          have CELL := hid (fun wq (tq : Touch (fun _ => False) wr wq) => show wq.cell? ⟨n, k, none⟩ = some (.int .i64 t) ∧ wq.cell? ⟨n, j, none⟩ = some (.int .i64 q) from by
            obtain ⟨b, hb, _, hc⟩ := IGR.out.new tq
            simp only [Option.some.injEq, Addr.mk.injEq, and_true] at hb
            subst hb
            have h1 := hc k hkt
            have h2 := hc j hjt
            rw [HT.out] at h1
            rw [HQ.out] at h2
            exact ⟨h1, h2⟩)
          go_upto_region 11 with fail
          go_cut [66] (fun v wd => ∃ B : Bool, v = .bool B ∧ hitB r t q = B ∧ Touch (fun _ => False) wr wd)
          case first =>
            obtain ⟨c0, c1⟩ := CELL.out wr.drew (Touch.refl _ wr).drew
            obtain ⟨e0, e1⟩ := CELL.out wr (Touch.refl _ wr)
            by_cases htr : t = r
            · subst htr
              have HH := hid (show hitB t t q = true by unfold hitB; simp)
              go_quiet (fail)
              all_goals
                go_wp2
                go_meet
                case rel => exact ⟨_, rfl, HH.out, (Touch.refl _ wr).drewN _⟩
            · have x1 : (t == r) = false := by simpa using htr
              have x2 : decide (t = r) = false := decide_eq_false htr
              by_cases hq0 : 0 ≤ q
              · have HO1 := hid (fun wq => one_any r q wq (by omega) hqb)
                have HO2 := hid (fun wq => one_any q t wq hqb htb)
                have HH := hid (show hitB r t q = (oneB r q && oneB q t) by unfold hitB; rw [x1, decide_eq_true hq0]; simp)
                obtain ⟨B1, hB1⟩ : ∃ B, oneB r q = B := ⟨_, rfl⟩
                obtain ⟨B2, hB2⟩ : ∃ B, oneB q t = B := ⟨_, rfl⟩
                rw [hB1] at HO1 HH
                rw [hB2] at HO2 HH
                clear hB1 hB2
                clear HOS HRS HG HT HQ HB HTL HTS IGR OR
                cases B1
                · refine wp_region_class (fun w' => Touch (fun _ => False) wr w') (by kernel_rfl) (by kernel_rfl) (Touch.refl _ wr).drew ?_
                  go_big_quiet_want
                  go_big_quiet_op
                  go_big_quiet_on
                  go_big_quiet_want
                  go_big_quiet_op
                  go_big_quiet_on
                  go_big_quiet_want
                  go_big_quiet_op
                  refine ⟨_, fun _ _ => rfl, ?_⟩
                  go_big_quiet_on
                  go_big_quiet_want
                  go_big_quiet_op
                  refine ⟨.int .i64 t, fun w hw => ?_, ?_⟩
                  · obtain ⟨g0, g1⟩ := CELL.out w hw
                    go_simp
                  go_big_quiet_on
                  go_big_quiet_want
                  go_big_quiet_op
                  go_big_quiet_on
                  go_big_quiet_want
                  go_big_quiet_op
                  refine ⟨_, fun _ _ => rfl, ?_⟩
                  go_big_quiet_on
                  go_big_quiet_want
                  go_big_quiet_op
                  go_big_quiet_on
                  go_big_quiet_want
                  go_big_quiet_op
                  go_big_quiet_on
                  go_big_quiet_want
                  go_big_quiet_op
                  go_big_quiet_on
                  go_big_quiet_want
                  go_big_quiet_op
                  refine ⟨_, fun _ _ => rfl, ?_⟩
                  go_big_quiet_on
                  go_big_quiet_want
                  go_big_quiet_op
                  refine ⟨.int .i64 q, fun w hw => ?_, ?_⟩
                  · obtain ⟨g0, g1⟩ := CELL.out w hw
                    go_simp
                  go_big_quiet_on
                  go_big_quiet_want
                  go_big_quiet_op
                  refine ⟨_, fun _ _ => rfl, ?_⟩
                  go_big_quiet_on
                  go_big_quiet_want
                  go_big_quiet_op
                  go_big_quiet_on
                  go_big_quiet_want
                  go_big_quiet_op
                  go_big_quiet_on
                  go_big_quiet_want
                  go_big_quiet_op
                  go_big_quiet_on
                  go_big_quiet_want
                  go_big_quiet_op
                  go_big_quiet_on
                  go_big_quiet_want
                  go_big_quiet_op
                  refine ⟨_, fun _ _ => rfl, ?_⟩
                  go_big_quiet_on
                  go_big_quiet_want
                  go_big_quiet_op
                  refine ⟨.int .i64 q, fun w hw => ?_, ?_⟩
                  · obtain ⟨g0, g1⟩ := CELL.out w hw
                    go_simp
                  go_big_quiet_on
                  go_big_quiet_want
                  go_big_quiet_op
                  refine ⟨.bool false, fun w hw => (HO1.out w).mono (fun _ _ hh => ⟨hh.1, hw.trans hh.2 (fun _ _ e => e)⟩), ?_⟩
                  go_big_quiet_on
                  go_big_quiet_want
                  go_big_quiet_op
                  refine ⟨_, fun _ _ => rfl, ?_⟩
                  go_big_quiet_on
                  go_big_quiet_want
                  go_big_quiet_op
                  go_big_quiet_on
                  go_big_quiet_skip
                  go_big_quiet_skip
                  go_big_quiet_skip
                  go_big_quiet_skip
                  go_big_quiet_skip
                  go_big_quiet_skip
                  go_big_quiet_skip
                  go_big_quiet_skip
                  go_big_quiet_skip
                  go_big_quiet_want
                  go_big_quiet_op
                  refine ⟨_, fun _ _ => rfl, ?_⟩
                  go_big_quiet_on
                  go_big_quiet_want
                  go_big_quiet_op
                  refine ⟨_, fun _ _ => rfl, ?_⟩
                  go_big_quiet_on
                  refine wpQuiet_nil ?_
                  intro wq TQ
                  go_wp2
                  go_meet
                  case rel => exact ⟨_, rfl, HH.out, TQ⟩
                · refine wp_region_class (fun w' => Touch (fun _ => False) wr w') (by kernel_rfl) (by kernel_rfl) (Touch.refl _ wr).drew ?_
                  go_big_quiet_want
                  go_big_quiet_op
                  go_big_quiet_on
                  go_big_quiet_want
                  go_big_quiet_op
                  go_big_quiet_on
                  go_big_quiet_want
                  go_big_quiet_op
                  refine ⟨_, fun _ _ => rfl, ?_⟩
                  go_big_quiet_on
                  go_big_quiet_want
                  go_big_quiet_op
                  refine ⟨.int .i64 t, fun w hw => ?_, ?_⟩
                  · obtain ⟨g0, g1⟩ := CELL.out w hw
                    go_simp
                  go_big_quiet_on
                  go_big_quiet_want
                  go_big_quiet_op
                  go_big_quiet_on
                  go_big_quiet_want
                  go_big_quiet_op
                  refine ⟨_, fun _ _ => rfl, ?_⟩
                  go_big_quiet_on
                  go_big_quiet_want
                  go_big_quiet_op
                  go_big_quiet_on
                  go_big_quiet_want
                  go_big_quiet_op
                  go_big_quiet_on
                  go_big_quiet_want
                  go_big_quiet_op
                  go_big_quiet_on
                  go_big_quiet_want
                  go_big_quiet_op
                  refine ⟨_, fun _ _ => rfl, ?_⟩
                  go_big_quiet_on
                  go_big_quiet_want
                  go_big_quiet_op
                  refine ⟨.int .i64 q, fun w hw => ?_, ?_⟩
                  · obtain ⟨g0, g1⟩ := CELL.out w hw
                    go_simp
                  go_big_quiet_on
                  go_big_quiet_want
                  go_big_quiet_op
                  refine ⟨_, fun _ _ => rfl, ?_⟩
                  go_big_quiet_on
                  go_big_quiet_want
                  go_big_quiet_op
                  go_big_quiet_on
                  go_big_quiet_want
                  go_big_quiet_op
                  go_big_quiet_on
                  go_big_quiet_want
                  go_big_quiet_op
                  go_big_quiet_on
                  go_big_quiet_want
                  go_big_quiet_op
                  go_big_quiet_on
                  go_big_quiet_want
                  go_big_quiet_op
                  refine ⟨_, fun _ _ => rfl, ?_⟩
                  go_big_quiet_on
                  go_big_quiet_want
                  go_big_quiet_op
                  refine ⟨.int .i64 q, fun w hw => ?_, ?_⟩
                  · obtain ⟨g0, g1⟩ := CELL.out w hw
                    go_simp
                  go_big_quiet_on
                  go_big_quiet_want
                  go_big_quiet_op
                  refine ⟨.bool true, fun w hw => (HO1.out w).mono (fun _ _ hh => ⟨hh.1, hw.trans hh.2 (fun _ _ e => e)⟩), ?_⟩
                  go_big_quiet_on
                  go_big_quiet_want
                  go_big_quiet_op
                  refine ⟨_, fun _ _ => rfl, ?_⟩
                  go_big_quiet_on
                  go_big_quiet_want
                  go_big_quiet_op
                  go_big_quiet_on
                  go_big_quiet_want
                  go_big_quiet_op
                  go_big_quiet_on
                  go_big_quiet_want
                  go_big_quiet_op
                  go_big_quiet_on
                  go_big_quiet_want
                  go_big_quiet_op
                  refine ⟨_, fun _ _ => rfl, ?_⟩
                  go_big_quiet_on
                  go_big_quiet_want
                  go_big_quiet_op
                  refine ⟨.int .i64 q, fun w hw => ?_, ?_⟩
                  · obtain ⟨g0, g1⟩ := CELL.out w hw
                    go_simp
                  go_big_quiet_on
                  go_big_quiet_want
                  go_big_quiet_op
                  go_big_quiet_on
                  go_big_quiet_want
                  go_big_quiet_op
                  go_big_quiet_on
                  go_big_quiet_want
                  go_big_quiet_op
                  refine ⟨_, fun _ _ => rfl, ?_⟩
                  go_big_quiet_on
                  go_big_quiet_want
                  go_big_quiet_op
                  refine ⟨.int .i64 t, fun w hw => ?_, ?_⟩
                  · obtain ⟨g0, g1⟩ := CELL.out w hw
                    go_simp
                  go_big_quiet_on
                  go_big_quiet_want
                  go_big_quiet_op
                  refine ⟨.bool B2, fun w hw => (HO2.out w).mono (fun _ _ hh => ⟨hh.1, hw.trans hh.2 (fun _ _ e => e)⟩), ?_⟩
                  go_big_quiet_on
                  go_big_quiet_want
                  go_big_quiet_op
                  refine ⟨_, fun _ _ => rfl, ?_⟩
                  go_big_quiet_on
                  go_big_quiet_want
                  go_big_quiet_op
                  refine ⟨_, fun _ _ => rfl, ?_⟩
                  go_big_quiet_on
                  refine wpQuiet_nil ?_
                  intro wq TQ
                  go_wp2
                  go_meet
                  case rel => exact ⟨_, rfl, HH.out, TQ⟩
              · have HH := hid (show hitB r t q = false by unfold hitB; rw [x1, decide_eq_false hq0]; rfl)
                have x3 : decide (0 ≤ q) = false := decide_eq_false hq0
                go_quiet (fail)
                all_goals
                  go_wp2
                  go_meet
                  case rel => exact ⟨_, rfl, HH.out, (Touch.refl _ wr).drewN _⟩
          obtain ⟨B, rfl, hB, tc⟩ := hcut
          rw [hB] at HRS
          have TC := hid tc
          obtain ⟨e0, e1⟩ := CELL.out wc tc
          have OC := hid (OR.out.still tc)
          clear tc hB OR CELL IGR
          cases B
          · have HRF := hid (show rowD r t (TS.take (j + 1)) O = P by rw [HRS.out]; rfl)
            go_wp2_with fail
            go_roundg (gk - 1)
            case measure => omega
            case rel => exact ⟨j + 1, by omega, by go_num, by rw [HRF.out]; exact OC.out⟩
          · have HRT := hid (show rowD r t (TS.take (j + 1)) O = addL P t by rw [HRS.out]; rfl)
            obtain ⟨hin, hcp, _⟩ := OC.out.in
            have KA := hid (add_any av2 cv2 P t wc hin hcp (by omega))
            clear hin hcp
            go_wp2_with fail
            refine KA.out.mono ?_
            rintro e w5 ⟨v5, rfl, ow5⟩
            have O5 := hid (ow5.from OC.out.touch)
            obtain ⟨a5, c5, hv5⟩ := own_shape ow5.own
            subst hv5
            clear ow5 KA
            go_wp2_with fail
            go_roundg (gk - 1)
            case measure => omega
            case rel => exact ⟨j + 1, by omega, by go_num, by rw [HRT.out]; exact O5.out⟩
        · obtain rfl : j = 20 := by omega
          have HTT := hid (show TS.take 20 = TS by rw [← HTL.out, List.take_length])
          have hrl2 : (rowD r t TS O).length ≤ O.length + 20 := by
            have := row_length r t TS O
            rw [HTL.out] at this
            exact this
          have OE := hid (show OwI w1 wr (.slice av2 (rowD r t (TS.take 20) O).length cv2) (rowD r t TS O) by have := OR.out; rw [HTT.out] at this ⊢; exact this)
          clear OR hrl
          go_wp2_with fail
          go_roundg (G - 1)
          case measure => have := HG.out; omega
          case rel => exact ⟨k + 1, by have := HG.out; omega, by go_num, by rw [HOS.out]; omega, by rw [HOS.out]; exact OE.out⟩
    · obtain rfl : k = 20 := by omega
      have HTT := hid (show TS.take 20 = TS by rw [← HTL.out, List.take_length])
      have OE := hid (show OwI w1 wr (.slice av (orbD r (TS.take 20)).length cv) (orbD r (triesL r)) by have := OW.out; rw [HTT.out] at this ⊢; rw [← HTS.out]; exact this)
      go_wp2
      go_ret
      exact ⟨_, rfl, OE.out.from TA.out⟩
end Go.Proofs.YtnngemdpoemhgaaDoor

/- Orbit and the document's Orbit of numbers that there are not, and the document's told as the program's; no condition beside those told. -/
namespace Go.Proofs.YtnngemdpoemhgaaDoor
open Go.RowKit

theorem docOrbit_all (r : Int) (w : World) (hr : 0 ≤ r ∧ r ≤ 1114111) :
    Calls Tryd.prog 11 #[.int .i64 r] w fun e w' => ∃ v, e = .returned v ∧ OwI w w' v (orbS (capOf r)) := by
  have := docOrbit_walk r w hr
  rwa [(orb_facts r hr).doc] at this
set_option maxRecDepth 100000 in
theorem orbit_out (r : Int) (w : World) (hr : r < 0 ∨ (0 ≤ r ∧ 1114111 < r)) :
    Calls Tryd.prog 10 #[.int .i64 r] w fun e w' => e = .returned (.slice none 0 0) ∧ w = w' := by
  go_enter Tryd.func10, Tryd.ntmps10
  rcases hr with h | ⟨h0, h⟩
  · go_wp2
    go_ret
    exact ⟨rfl, rfl⟩
  · go_wp2
    go_ret
    exact ⟨rfl, rfl⟩
set_option maxRecDepth 100000 in
theorem docOrbit_out (r : Int) (w : World) (hr : r < 0 ∨ (0 ≤ r ∧ 1114111 < r)) :
    Calls Tryd.prog 11 #[.int .i64 r] w fun e w' => e = .returned (.slice none 0 0) ∧ w = w' := by
  go_enter Tryd.func11, Tryd.ntmps11
  rcases hr with h | ⟨h0, h⟩
  · go_wp2
    go_ret
    exact ⟨rfl, rfl⟩
  · go_wp2
    go_ret
    exact ⟨rfl, rfl⟩
theorem orb_out (r : Int) : (0 ≤ r ∧ r ≤ 1114111) ∨ r < 0 ∨ (0 ≤ r ∧ 1114111 < r) := by omega
end Go.Proofs.YtnngemdpoemhgaaDoor
