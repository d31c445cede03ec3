/- And of two sets, and Less: what they answer; no condition beside those told. -/
import Derived.Test.YtdhhcefmmojcmaaGreatDoorM5
namespace Go.Proofs.YtdhhcefmmojcmaaGreatDoor
open Go.RowKit

theorem andL_nil (s : List R2) : andL s [] = [] := by
  cases s <;> rw [andL]
theorem Rg.head {w : World} {a : Option Addr} {x : R2} {s : List R2} (h : Rg w a (x :: s)) : ∃ b o, a = some ⟨b, o, none⟩ ∧ b < w.heap.size ∧ w.cell? ⟨b, o, none⟩ = some (.int .i64 x.1) ∧ w.cell? ⟨b, o + 1, none⟩ = some (.int .i64 x.2) ∧ Rg w (some ⟨b, o + 2, none⟩) s := by
  rcases h with h | ⟨b, o, rfl, hb, hc⟩
  · simp at h
  · have h0 := hc 0 (by simp)
    simp only [Nat.zero_mul, Nat.add_zero, List.getElem_cons_zero] at h0
    refine ⟨b, o, rfl, hb, h0.1, h0.2, .inr ⟨b, o + 2, rfl, hb, fun i hi => ?_⟩⟩
    have := hc (i + 1) (by simpa using hi)
    rw [show o + (i + 1) * 2 = o + 2 + i * 2 by omega] at this
    simpa using this

set_option maxRecDepth 100000 in
set_option maxHeartbeats 4000000 in
theorem and_any (a1 a2 : Option Addr) (c1 c2 : Nat) (s t : List R2) (w : World) (h1 : Rg w a1 s) (h2 : Rg w a2 t) (k1 : s.length ≤ c1) (k2 : t.length ≤ c2) (hb : s.length + t.length ≤ 4194304) :
    Calls Tryz.prog 133 #[.slice a1 s.length c1, .slice a2 t.length c2] w fun e w' => ∃ v, e = .returned v ∧ OwE w w' 60 v (andL s t) := by
  obtain ⟨i0, hi33, hz0, hz1, hz2⟩ := info_parts info33
  have H1 := hid h1
  have H2 := hid h2
  have K1 := hid k1
  have K2 := hid k2
  clear h1 h2 k1 k2
  go_enter Tryz.func133, Tryz.ntmps133
  go_wp2_with fail
  go_loopg [0, 1, 5] (s.length + t.length) (fun gk v0 v1 v wr => ∃ (p q o : List R2) (b1 b2 : Option Addr) (d1 d2 : Nat), p.length + q.length = gk ∧ v0 = .slice b1 p.length d1 ∧ v1 = .slice b2 q.length d2 ∧ p.length ≤ d1 ∧ q.length ≤ d2 ∧ Rg w b1 p ∧ Rg w b2 q ∧ o.length + p.length + q.length ≤ s.length + t.length ∧ o ++ andL p q = andL s t ∧ OwE w wr 60 v o)
  case atStart => exact ⟨s, t, [], a1, a2, c1, c2, rfl, rfl, rfl, K1.out, K2.out, H1.out, H2.out, by simp, rfl, OwE.nil _ _⟩
  case round =>
    obtain ⟨p, q, o, b1, b2, d1, d2, hgk, rfl, rfl, l1, l2, r1, r2, hol, heq, how⟩ := hrel
    have OW := hid how
    have HE := hid heq
    have R1 := hid (r1.new how.touch)
    have R2 := hid (r2.new how.touch)
    have R01 := hid r1
    have R02 := hid r2
    obtain ⟨av, cv, hav⟩ := own_shape how.own
    subst hav
    clear how r1 r2 heq
    obtain ⟨M, hM⟩ : ∃ M, M = o.length := ⟨_, rfl⟩
    rw [← hM] at OW ⊢
    have HM := hid hM
    clear hM
    cases p with
    | nil =>
      have HEE := hid (show o = andL s t from by have := HE.out; rw [andL, List.append_nil] at this; exact this)
      go_wp2
      go_ret
      refine ⟨_, rfl, ?_⟩
      rw [← HEE.out]
      exact OW.out
    | cons x p =>
      cases q with
      | nil =>
        have HEE := hid (show o = andL s t from by have := HE.out; rw [andL_nil, List.append_nil] at this; exact this)
        go_wp2
        go_ret
        refine ⟨_, rfl, ?_⟩
        rw [← HEE.out]
        exact OW.out
      | cons y q =>
        obtain ⟨xa, xb⟩ := x
        obtain ⟨ya, yb⟩ := y
        obtain ⟨e1, o1, hb1, _, x0, x1, rp⟩ := R1.out.head
        obtain ⟨e2, o2, hb2, _, y0, y1, rq⟩ := R2.out.head
        obtain ⟨_, _, hb1', _, _, _, rp0⟩ := R01.out.head
        obtain ⟨_, _, hb2', _, _, _, rq0⟩ := R02.out.head
        subst hb1
        subst hb2
        simp only [Option.some.injEq, Addr.mk.injEq, and_true] at hb1' hb2'
        obtain ⟨rfl, rfl⟩ := hb1'
        obtain ⟨rfl, rfl⟩ := hb2'
        have RP := hid rp0
        have RQ := hid rq0
        dsimp only at x0 x1 y0 y1
        clear rp rq rp0 rq0
        simp only [List.length_cons] at hgk l1 l2 hol ⊢
        have CA := hid (fun wq => common_any xa xb ya yb wq)
        obtain ⟨cx, hcx⟩ : ∃ cx, cx = max xa ya := ⟨_, rfl⟩
        obtain ⟨cy, hcy⟩ : ∃ cy, cy = min xb yb := ⟨_, rfl⟩
        rw [← hcx, ← hcy] at CA
        have HAL := hid (show andL ((xa, xb) :: p) ((ya, yb) :: q) = (if cx ≤ cy then [(cx, cy)] else []) ++ (if xb < yb then andL p ((ya, yb) :: q) else andL ((xa, xb) :: p) q) from by rw [andL, hcx, hcy])
        clear hcx hcy
        go_upto_region 3 with fail
        go_cut [6] (fun v wd => ∃ rb, v = .pointer (some ⟨rb, 0, none⟩) ∧ wd.heap[rb]? = some (.cells #[.int .i64 cx, .int .i64 cy] 60 (0, 0)) ∧ Touch (fun _ => False) wr wd ∧ wr.heap.size ≤ rb)
        case first =>
          go_region_with (go_at_call 33; refine (CA.out _).mono ?_; rintro e w1 ⟨rfl, tc⟩; have TC := hid tc; (try (have jb : w1.heap[wr.heap.size]? = some (.cells #[.int .i64 0, .int .i64 0] 60 (0, 0)) := (tc.block _ (by simp) id).trans (by show (wr.heap.push _)[_]? = _; simp); have JB := hid jb; have j0 := cell_two0 jb; have j1 := cell_two1 jb; have jf0 := free_two (i := 0) jb; have jf1 := free_two (i := 1) jb; clear jb)); clear tc)
          all_goals
            go_wp2
            go_meet
            case rel =>
              first
              | exact ⟨_, rfl, three_new _ _ _, ((Touch.refl _ wr).drew.trans TC.out (fun _ _ e => e)).alloc _, TC.out.size⟩
              | exact ⟨_, rfl, two_set1 (two_set0 JB.out), ((((Touch.refl (fun _ => False) wr).drew.alloc (.cells #[.int .i64 0, .int .i64 0] 60)).trans TC.out (fun _ _ e => e)).setCell (p := ⟨wr.heap.size, 0, none⟩) (fun h => absurd h (Nat.lt_irrefl _)) _).setCell (p := ⟨wr.heap.size, 1, none⟩) (fun h => absurd h (Nat.lt_irrefl _)) _, Nat.le_refl _⟩
        obtain ⟨rb, rfl, hrb, tcw, hge⟩ := hcut
        have RB := hid hrb
        have OA := hid (OW.out.still tcw)
        have HOWN := hid (show ∀ g, (Value.slice av M cv).ownBlock = some g → g ≠ rb from fun g e => by
          have := (OW.out.own.lt g e).2
          omega)
        have z0 := cell_two0 hrb
        have z1 := cell_two1 hrb
        have hMb : M ≤ 4194304 := by rw [HM.out]; omega
        have hob : o.length ≤ 4194304 := by omega
        clear hrb tcw OW x0 x1 y0 y1 R1 R2
        go_upto_if 26 with fail
        go_cut [5] (fun v wd => OwE w wd 60 v (o ++ (if cx ≤ cy then [(cx, cy)] else [])) ∧ Touch (fun k => w.heap.size ≤ k) wc wd)
        case first =>
          by_cases hc : cx ≤ cy
          · rw [decide_eq_true hc]
            go_wp2_with (at_builtin; refine wpList_append_own_at _ rfl _ _ 25 rfl 0 60 i0 (.agg #[.int .i64 0, .int .i64 0]) 2 16 Tryz.underlying25 hi33 hz0 hz1 hz2 rfl (by decide) _ _ _ rfl (OA.out.own.alloc _) ⟨wc.heap.size, 0, none⟩ 1 1 [.int .i64 cx, .int .i64 cy] rfl rfl (row_new wc [.int .i64 cx, .int .i64 cy] 60) (by intro u hu; simp at hu; rcases hu with rfl | rfl <;> rfl) (by unfold maxLen; omega) (by omega) (Nat.zero_le _) ?_)
            intro v' w4 hown hgrow _ hat
            have OC := hid (OA.out.more (xs := [(cx, cy)]) hown hgrow hat)
            have TG := hid (((Touch.refl (fun k => w.heap.size ≤ k) wc).alloc (.cells #[.int .i64 cx, .int .i64 cy] 60)).grown hgrow (fun k e hk => OA.out.new k e))
            have HC := hid hc
            clear hown hgrow hat hc
            go_wp2
            go_meet
            case rel =>
              rw [if_pos HC.out]
              exact ⟨OC.out, TG.out⟩
          · have HC := hid hc
            rw [decide_eq_false hc]
            clear hc
            go_wp2
            go_meet
            case rel =>
              rw [if_neg (by have := HC.out; omega), List.append_nil]
              exact ⟨OA.out, Touch.refl _ _⟩
        obtain ⟨owx, _⟩ := hcut
        have ol2 : (o ++ (if cx ≤ cy then [(cx, cy)] else [])).length ≤ o.length + 1 := by
          rw [List.length_append]
          split <;> simp
        obtain ⟨o2, ho2⟩ : ∃ o2, o2 = o ++ (if cx ≤ cy then [(cx, cy)] else []) := ⟨_, rfl⟩
        rw [← ho2] at owx ol2
        have HE2 := hid (show o2 ++ (if xb < yb then andL p ((ya, yb) :: q) else andL ((xa, xb) :: p) q) = andL s t from by rw [← HE.out, HAL.out, ho2, List.append_assoc])
        have OX := hid owx
        obtain ⟨av5, cv5, hv5⟩ := own_shape owx.own
        subst hv5
        have Q1 := (R01.out.new owx.touch).head
        have Q2 := (R02.out.new owx.touch).head
        obtain ⟨f1, g1, hb1, _, x0, x1, _⟩ := Q1
        obtain ⟨f2, g2, hb2, _, y0, y1, _⟩ := Q2
        simp only [Option.some.injEq, Addr.mk.injEq, and_true] at hb1 hb2
        obtain ⟨rfl, rfl⟩ := hb1
        obtain ⟨rfl, rfl⟩ := hb2
        dsimp only at x0 x1 y0 y1
        clear ho2 owx z0 z1
        go_upto_region 6 with fail
        go_cut [39] (fun v wd => v = .bool (decide (xb < yb)) ∧ Touch (fun _ => False) wc wd)
        case first =>
          go_quiet (fail)
          go_wp2
          go_meet
          case rel => exact ⟨rfl, (Touch.refl _ _).drewN _⟩
        obtain ⟨rfl, tcz⟩ := hcut
        have OZ := hid (OX.out.still tcz)
        clear tcz x0 x1 y0 y1
        by_cases hxy : xb < yb
        · rw [decide_eq_true hxy]
          have HXY := hid hxy
          clear hxy
          by_cases hd : d1 = 1
          · have hp0 : p = [] := List.eq_nil_of_length_eq_zero (by omega)
            subst hp0
            subst hd
            go_wp2_with fail
            go_roundg (gk - 1)
            case measure => omega
            case rel =>
              refine ⟨[], (ya, yb) :: q, o2, _, _, _, _, ?_, rfl, rfl, Nat.zero_le _, by simpa using l2, .inl rfl, R02.out, ?_, ?_, OZ.out⟩
              · simp; simp at hgk; omega
              · simp; simp at hol; omega
              · have := HE2.out
                rw [if_pos HXY.out] at this
                exact this
          · have g1' : (1 : Int) ≤ ((p.length + 1 : Nat) : Int) := by omega
            have g2' : (1 : Int) ≤ (d1 : Int) := by omega
            go_wp2_with fail
            go_roundg (gk - 1)
            case measure => omega
            case rel =>
              refine ⟨p, (ya, yb) :: q, o2, _, _, _, _, ?_, rfl, rfl, by omega, by simpa using l2, RP.out, R02.out, ?_, ?_, OZ.out⟩
              · simp; omega
              · simp; omega
              · have := HE2.out
                rw [if_pos HXY.out] at this
                exact this
        · rw [decide_eq_false hxy]
          have HXY := hid hxy
          clear hxy
          by_cases hd : d2 = 1
          · have hp0 : q = [] := List.eq_nil_of_length_eq_zero (by omega)
            subst hp0
            subst hd
            go_wp2_with fail
            go_roundg (gk - 1)
            case measure => omega
            case rel =>
              refine ⟨(xa, xb) :: p, [], o2, _, _, _, _, ?_, rfl, rfl, by simpa using l1, Nat.zero_le _, R01.out, .inl rfl, ?_, ?_, OZ.out⟩
              · simp; simp at hgk; omega
              · simp; simp at hol; omega
              · have := HE2.out
                rw [if_neg (by have := HXY.out; omega)] at this
                exact this
          · have g1' : (1 : Int) ≤ ((q.length + 1 : Nat) : Int) := by omega
            have g2' : (1 : Int) ≤ (d2 : Int) := by omega
            go_wp2_with fail
            go_roundg (gk - 1)
            case measure => omega
            case rel =>
              refine ⟨(xa, xb) :: p, q, o2, _, _, _, _, ?_, rfl, rfl, by simpa using l1, by omega, R01.out, RQ.out, ?_, ?_, OZ.out⟩
              · simp; omega
              · simp; omega
              · have := HE2.out
                rw [if_neg (by have := HXY.out; omega)] at this
                exact this

theorem and_says (a1 a2 : Option Addr) (c1 c2 : Nat) (s t : List R2) (w : World) (h1 : Rg w a1 s) (h2 : Rg w a2 t) (k1 : s.length ≤ c1) (k2 : t.length ≤ c2) (hs : Canon s) (ht : Canon t) :
    Calls Tryz.prog 133 #[.slice a1 s.length c1, .slice a2 t.length c2] w fun e w' => ∃ v n, e = .returned v ∧ Canon n ∧ (∀ x, In x n ↔ In x s ∧ In x t) ∧ OwE w w' 60 v n := by
  refine (and_any a1 a2 c1 c2 s t w h1 h2 k1 k2 (by have := canon_len hs; have := canon_len ht; omega)).mono ?_
  rintro e w' ⟨v, rfl, ow⟩
  have h := andL_good s t hs ht
  exact ⟨v, andL s t, rfl, h.1, h.2, ow⟩

theorem OwE.cap {W0 wr : World} {e n cap : Nat} {a : Option Addr} {s : List R2} (h : OwE W0 wr e (.slice a n cap) s) : s.length ≤ cap := by
  rcases h.own.2 with ⟨_, h0⟩ | ⟨g, cap', cur, hv, _, _, hle, _⟩
  · omega
  · simp only [Value.slice.injEq] at hv
    omega

set_option maxRecDepth 100000 in
set_option maxHeartbeats 4000000 in
theorem less_says (a1 a2 : Option Addr) (c1 c2 : Nat) (s t : List R2) (w : World) (h1 : Rg w a1 s) (h2 : Rg w a2 t) (k1 : s.length ≤ c1) (hs : Canon s) (ht : Canon t) :
    Calls Tryz.prog 115 #[.slice a1 s.length c1, .slice a2 t.length c2] w fun e w' => ∃ v n, e = .returned v ∧ Canon n ∧ (∀ x, In x n ↔ In x s ∧ ¬ In x t) ∧ OwE w w' 60 v n := by
  have K := hid (not_says a2 c2 t w h2 ht)
  have H1 := hid h1
  have KK := hid k1
  clear h1 h2 k1
  go_enter Tryz.func115, Tryz.ntmps115
  go_wp2_with fail
  refine K.out.mono ?_
  rintro e w1 ⟨v, n, rfl, hcn, hin, ow⟩
  obtain ⟨a3, c3, hv, hrg⟩ := ow.rg
  subst hv
  have K2 := hid (and_says a1 a3 c1 c3 s n w1 (H1.out.new ow.touch) hrg KK.out ow.cap hs hcn)
  have T1 := hid ow.touch
  have HIN := hid hin
  clear hrg ow hcn hin K
  go_wp2_with fail
  refine K2.out.mono ?_
  rintro e w2 ⟨v2, m, rfl, hcm, him, ow2⟩
  obtain ⟨a4, c4, hv⟩ := own_shape ow2.own
  subst hv
  have OW2 := hid ow2
  have HCM := hid hcm
  have HIM := hid him
  clear ow2 hcm him K2
  go_wp2
  go_ret
  refine ⟨_, m, rfl, HCM.out, fun x => ?_, ⟨OW2.out.own, fun g e => Nat.le_trans T1.out.size (OW2.out.new g e), T1.out.trans OW2.out.touch (fun _ _ e => e)⟩⟩
  rw [HIM.out x, HIN.out x]
  constructor
  · exact fun h => ⟨h.1, h.2.2⟩
  · refine fun h => ⟨h.1, ?_, h.2⟩
    obtain ⟨r, hr, q1, q2⟩ := h.1
    have := hs.in_ r hr
    unfold inB at this
    omega
end Go.Proofs.YtdhhcefmmojcmaaGreatDoor
