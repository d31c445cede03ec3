/- Texts of this proof, one behind the other: what each says stands ahead of it. -/
import Derived.Test.YtnngemdpoemhgaaDoorM4
import Derived.Test.YtnngemdpoemhgaaDoorM0
import Derived.Test.YtnngemdpoemhgaaDoorM2
/- And of two sets, and Less: what they answer; no condition beside those told. -/
namespace Go.Proofs.YtnngemdpoemhgaaDoor
open Go.RowKit

theorem andL_nil (s : List R2) : andL s [] = [] := by
  cases s <;> rw [andL]
theorem Rg.head {w : World} {a : Option Addr} {x : R2} {s : List R2} (h : Rg w a (x :: s)) : ∃ b o, a = some ⟨b, o, none⟩ ∧ b < w.heap.size ∧ w.cell? ⟨b, o, none⟩ = some (.int .i64 x.1) ∧ w.cell? ⟨b, o + 1, none⟩ = some (.int .i64 x.2) ∧ Rg w (some ⟨b, o + 2, none⟩) s := by
  rcases h with h | ⟨b, o, rfl, hb, hc⟩
  · simp at h
  · have h0 := hc 0 (by simp)
    simp only [Nat.zero_mul, Nat.add_zero, List.getElem_cons_zero] at h0
    refine ⟨b, o, rfl, hb, h0.1, h0.2, .inr ⟨b, o + 2, rfl, hb, fun i hi => ?_⟩⟩
    have := hc (i + 1) (by simpa using hi)
    rw [show o + (i + 1) * 2 = o + 2 + i * 2 by omega] at this
    simpa using this

set_option maxRecDepth 100000 in
set_option maxHeartbeats 4000000 in
theorem and_any (a1 a2 : Option Addr) (c1 c2 : Nat) (s t : List R2) (w : World) (h1 : Rg w a1 s) (h2 : Rg w a2 t) (k1 : s.length ≤ c1) (k2 : t.length ≤ c2) (hb : s.length + t.length ≤ 4194304) :
    Calls Tryd.prog 18 #[.slice a1 s.length c1, .slice a2 t.length c2] w fun e w' => ∃ v, e = .returned v ∧ OwE w w' 33 v (andL s t) := by
  obtain ⟨i0, hi33, hz0, hz1, hz2⟩ := info_parts info33
  have H1 := hid h1
  have H2 := hid h2
  have K1 := hid k1
  have K2 := hid k2
  clear h1 h2 k1 k2
  go_enter Tryd.func18, Tryd.ntmps18
  go_wp2_with fail
  go_loopg [0, 1, 5] (s.length + t.length) (fun gk v0 v1 v wr => ∃ (p q o : List R2) (b1 b2 : Option Addr) (d1 d2 : Nat), p.length + q.length = gk ∧ v0 = .slice b1 p.length d1 ∧ v1 = .slice b2 q.length d2 ∧ p.length ≤ d1 ∧ q.length ≤ d2 ∧ Rg w b1 p ∧ Rg w b2 q ∧ o.length + p.length + q.length ≤ s.length + t.length ∧ o ++ andL p q = andL s t ∧ OwE w wr 33 v o)
  case atStart => exact ⟨s, t, [], a1, a2, c1, c2, rfl, rfl, rfl, K1.out, K2.out, H1.out, H2.out, by simp, rfl, OwE.nil _ _⟩
  case round =>
    obtain ⟨p, q, o, b1, b2, d1, d2, hgk, rfl, rfl, l1, l2, r1, r2, hol, heq, how⟩ := hrel
    have OW := hid how
    have HE := hid heq
    have R1 := hid (r1.new how.touch)
    have R2 := hid (r2.new how.touch)
    have R01 := hid r1
    have R02 := hid r2
    obtain ⟨av, cv, hav⟩ := own_shape how.own
    subst hav
    clear how r1 r2 heq
    obtain ⟨M, hM⟩ : ∃ M, M = o.length := ⟨_, rfl⟩
    rw [← hM] at OW ⊢
    have HM := hid hM
    clear hM
    cases p with
    | nil =>
      have HEE := hid (show o = andL s t from by have := HE.out; rw [andL, List.append_nil] at this; exact this)
      go_wp2
      go_ret
      refine ⟨_, rfl, ?_⟩
      rw [← HEE.out]
      exact OW.out
    | cons x p =>
      cases q with
      | nil =>
        have HEE := hid (show o = andL s t from by have := HE.out; rw [andL_nil, List.append_nil] at this; exact this)
        go_wp2
        go_ret
        refine ⟨_, rfl, ?_⟩
        rw [← HEE.out]
        exact OW.out
      | cons y q =>
        obtain ⟨xa, xb⟩ := x
        obtain ⟨ya, yb⟩ := y
        obtain ⟨e1, o1, hb1, _, x0, x1, rp⟩ := R1.out.head
        obtain ⟨e2, o2, hb2, _, y0, y1, rq⟩ := R2.out.head
        obtain ⟨_, _, hb1', _, _, _, rp0⟩ := R01.out.head
        obtain ⟨_, _, hb2', _, _, _, rq0⟩ := R02.out.head
        subst hb1
        subst hb2
        simp only [Option.some.injEq, Addr.mk.injEq, and_true] at hb1' hb2'
        obtain ⟨rfl, rfl⟩ := hb1'
        obtain ⟨rfl, rfl⟩ := hb2'
        have RP := hid rp0
        have RQ := hid rq0
        dsimp only at x0 x1 y0 y1
        clear rp rq rp0 rq0
        simp only [List.length_cons] at hgk l1 l2 hol ⊢
        have CA := hid (fun wq => common_any xa xb ya yb wq)
        obtain ⟨cx, hcx⟩ : ∃ cx, cx = max xa ya := ⟨_, rfl⟩
        obtain ⟨cy, hcy⟩ : ∃ cy, cy = min xb yb := ⟨_, rfl⟩
        rw [← hcx, ← hcy] at CA
        have HAL := hid (show andL ((xa, xb) :: p) ((ya, yb) :: q) = (if cx ≤ cy then [(cx, cy)] else []) ++ (if xb < yb then andL p ((ya, yb) :: q) else andL ((xa, xb) :: p) q) from by rw [andL, hcx, hcy])
        clear hcx hcy
        go_upto_region 3 with fail
        go_cut [6] (fun v wd => ∃ rb, v = .pointer (some ⟨rb, 0, none⟩) ∧ wd.heap[rb]? = some (.cells #[.int .i64 cx, .int .i64 cy] 33 (0, 0)) ∧ Touch (fun _ => False) wr wd ∧ wr.heap.size ≤ rb)
        case first =>
          go_region_with (go_at_call 32; refine (CA.out _).mono ?_; rintro e w1 ⟨rfl, tc⟩; have TC := hid tc; (try (have jb : w1.heap[wr.heap.size]? = some (.cells #[.int .i64 0, .int .i64 0] 33 (0, 0)) := (tc.block _ (by simp) id).trans (by show (wr.heap.push _)[_]? = _; simp); have JB := hid jb; have j0 := cell_two0 jb; have j1 := cell_two1 jb; have jf0 := free_two (i := 0) jb; have jf1 := free_two (i := 1) jb; clear jb)); clear tc)
          all_goals
            go_wp2
            go_meet
            case rel =>
              first
              | exact ⟨_, rfl, three_new _ _ _, ((Touch.refl _ wr).drew.trans TC.out (fun _ _ e => e)).alloc _, TC.out.size⟩
              | exact ⟨_, rfl, two_set1 (two_set0 JB.out), ((((Touch.refl (fun _ => False) wr).drew.alloc (.cells #[.int .i64 0, .int .i64 0] 33)).trans TC.out (fun _ _ e => e)).setCell (p := ⟨wr.heap.size, 0, none⟩) (fun h => absurd h (Nat.lt_irrefl _)) _).setCell (p := ⟨wr.heap.size, 1, none⟩) (fun h => absurd h (Nat.lt_irrefl _)) _, Nat.le_refl _⟩
        obtain ⟨rb, rfl, hrb, tcw, hge⟩ := hcut
        have RB := hid hrb
        have OA := hid (OW.out.still tcw)
        have HOWN := hid (show ∀ g, (Value.slice av M cv).ownBlock = some g → g ≠ rb from fun g e => by
          have := (OW.out.own.lt g e).2
          omega)
        have z0 := cell_two0 hrb
        have z1 := cell_two1 hrb
        have hMb : M ≤ 4194304 := by rw [HM.out]; omega
        have hob : o.length ≤ 4194304 := by omega
        clear hrb tcw OW x0 x1 y0 y1 R1 R2
        go_upto_if 26 with fail
        go_cut [5] (fun v wd => OwE w wd 33 v (o ++ (if cx ≤ cy then [(cx, cy)] else [])) ∧ Touch (fun k => w.heap.size ≤ k) wc wd)
        case first =>
          by_cases hc : cx ≤ cy
          · rw [decide_eq_true hc]
            go_wp2_with (at_builtin; refine wpList_append_own_at _ rfl _ _ 27 rfl 0 33 i0 (.agg #[.int .i64 0, .int .i64 0]) 2 16 Tryd.underlying27 hi33 hz0 hz1 hz2 rfl (by decide) _ _ _ rfl (OA.out.own.alloc _) ⟨wc.heap.size, 0, none⟩ 1 1 [.int .i64 cx, .int .i64 cy] rfl rfl (row_new wc [.int .i64 cx, .int .i64 cy] 33) (by intro u hu; simp at hu; rcases hu with rfl | rfl <;> rfl) (by unfold maxLen; omega) (by omega) (Nat.zero_le _) ?_)
            intro v' w4 hown hgrow _ hat
            have OC := hid (OA.out.more (xs := [(cx, cy)]) hown hgrow hat)
            have TG := hid (((Touch.refl (fun k => w.heap.size ≤ k) wc).alloc (.cells #[.int .i64 cx, .int .i64 cy] 33)).grown hgrow (fun k e hk => OA.out.new k e))
            have HC := hid hc
            clear hown hgrow hat hc
            go_wp2
            go_meet
            case rel =>
              rw [if_pos HC.out]
              exact ⟨OC.out, TG.out⟩
          · have HC := hid hc
            rw [decide_eq_false hc]
            clear hc
            go_wp2
            go_meet
            case rel =>
              rw [if_neg (by have := HC.out; omega), List.append_nil]
              exact ⟨OA.out, Touch.refl _ _⟩
        obtain ⟨owx, _⟩ := hcut
        have ol2 : (o ++ (if cx ≤ cy then [(cx, cy)] else [])).length ≤ o.length + 1 := by
          rw [List.length_append]
          split <;> simp
        obtain ⟨o2, ho2⟩ : ∃ o2, o2 = o ++ (if cx ≤ cy then [(cx, cy)] else []) := ⟨_, rfl⟩
        rw [← ho2] at owx ol2
        have HE2 := hid (show o2 ++ (if xb < yb then andL p ((ya, yb) :: q) else andL ((xa, xb) :: p) q) = andL s t from by rw [← HE.out, HAL.out, ho2, List.append_assoc])
        have OX := hid owx
        obtain ⟨av5, cv5, hv5⟩ := own_shape owx.own
        subst hv5
        have Q1 := (R01.out.new owx.touch).head
        have Q2 := (R02.out.new owx.touch).head
        obtain ⟨f1, g1, hb1, _, x0, x1, _⟩ := Q1
        obtain ⟨f2, g2, hb2, _, y0, y1, _⟩ := Q2
        simp only [Option.some.injEq, Addr.mk.injEq, and_true] at hb1 hb2
        obtain ⟨rfl, rfl⟩ := hb1
        obtain ⟨rfl, rfl⟩ := hb2
        dsimp only at x0 x1 y0 y1
        clear ho2 owx z0 z1
        go_upto_region 6 with fail
        go_cut [39] (fun v wd => v = .bool (decide (xb < yb)) ∧ Touch (fun _ => False) wc wd)
        case first =>
          go_quiet (fail)
          go_wp2
          go_meet
          case rel => exact ⟨rfl, (Touch.refl _ _).drewN _⟩
        obtain ⟨rfl, tcz⟩ := hcut
        have OZ := hid (OX.out.still tcz)
        clear tcz x0 x1 y0 y1
        by_cases hxy : xb < yb
        · rw [decide_eq_true hxy]
          have HXY := hid hxy
          clear hxy
          by_cases hd : d1 = 1
          · have hp0 : p = [] := List.eq_nil_of_length_eq_zero (by omega)
            subst hp0
            subst hd
            go_wp2_with fail
            go_roundg (gk - 1)
            case measure => omega
            case rel =>
              refine ⟨[], (ya, yb) :: q, o2, _, _, _, _, ?_, rfl, rfl, Nat.zero_le _, by simpa using l2, .inl rfl, R02.out, ?_, ?_, OZ.out⟩
              · simp; simp at hgk; omega
              · simp; simp at hol; omega
              · have := HE2.out
                rw [if_pos HXY.out] at this
                exact this
          · have g1' : (1 : Int) ≤ ((p.length + 1 : Nat) : Int) := by omega
            have g2' : (1 : Int) ≤ (d1 : Int) := by omega
            go_wp2_with fail
            go_roundg (gk - 1)
            case measure => omega
            case rel =>
              refine ⟨p, (ya, yb) :: q, o2, _, _, _, _, ?_, rfl, rfl, by omega, by simpa using l2, RP.out, R02.out, ?_, ?_, OZ.out⟩
              · simp; omega
              · simp; omega
              · have := HE2.out
                rw [if_pos HXY.out] at this
                exact this
        · rw [decide_eq_false hxy]
          have HXY := hid hxy
          clear hxy
          by_cases hd : d2 = 1
          · have hp0 : q = [] := List.eq_nil_of_length_eq_zero (by omega)
            subst hp0
            subst hd
            go_wp2_with fail
            go_roundg (gk - 1)
            case measure => omega
            case rel =>
              refine ⟨(xa, xb) :: p, [], o2, _, _, _, _, ?_, rfl, rfl, by simpa using l1, Nat.zero_le _, R01.out, .inl rfl, ?_, ?_, OZ.out⟩
              · simp; simp at hgk; omega
              · simp; simp at hol; omega
              · have := HE2.out
                rw [if_neg (by have := HXY.out; omega)] at this
                exact this
          · have g1' : (1 : Int) ≤ ((q.length + 1 : Nat) : Int) := by omega
            have g2' : (1 : Int) ≤ (d2 : Int) := by omega
            go_wp2_with fail
            go_roundg (gk - 1)
            case measure => omega
            case rel =>
              refine ⟨(xa, xb) :: p, q, o2, _, _, _, _, ?_, rfl, rfl, by simpa using l1, by omega, R01.out, RQ.out, ?_, ?_, OZ.out⟩
              · simp; omega
              · simp; omega
              · have := HE2.out
                rw [if_neg (by have := HXY.out; omega)] at this
                exact this

theorem and_says (a1 a2 : Option Addr) (c1 c2 : Nat) (s t : List R2) (w : World) (h1 : Rg w a1 s) (h2 : Rg w a2 t) (k1 : s.length ≤ c1) (k2 : t.length ≤ c2) (hs : Canon s) (ht : Canon t) :
    Calls Tryd.prog 18 #[.slice a1 s.length c1, .slice a2 t.length c2] w fun e w' => ∃ v n, e = .returned v ∧ Canon n ∧ (∀ x, In x n ↔ In x s ∧ In x t) ∧ OwE w w' 33 v n := by
  refine (and_any a1 a2 c1 c2 s t w h1 h2 k1 k2 (by have := canon_len hs; have := canon_len ht; omega)).mono ?_
  rintro e w' ⟨v, rfl, ow⟩
  have h := andL_good s t hs ht
  exact ⟨v, andL s t, rfl, h.1, h.2, ow⟩

theorem OwE.cap {W0 wr : World} {e n cap : Nat} {a : Option Addr} {s : List R2} (h : OwE W0 wr e (.slice a n cap) s) : s.length ≤ cap := by
  rcases h.own.2 with ⟨_, h0⟩ | ⟨g, cap', cur, hv, _, _, hle, _⟩
  · omega
  · simp only [Value.slice.injEq] at hv
    omega

set_option maxRecDepth 100000 in
set_option maxHeartbeats 4000000 in
theorem less_says (a1 a2 : Option Addr) (c1 c2 : Nat) (s t : List R2) (w : World) (h1 : Rg w a1 s) (h2 : Rg w a2 t) (k1 : s.length ≤ c1) (hs : Canon s) (ht : Canon t) :
    Calls Tryd.prog 19 #[.slice a1 s.length c1, .slice a2 t.length c2] w fun e w' => ∃ v n, e = .returned v ∧ Canon n ∧ (∀ x, In x n ↔ In x s ∧ ¬ In x t) ∧ OwE w w' 33 v n := by
  have K := hid (not_says a2 c2 t w h2 ht)
  have H1 := hid h1
  have KK := hid k1
  clear h1 h2 k1
  go_enter Tryd.func19, Tryd.ntmps19
  go_wp2_with fail
  refine K.out.mono ?_
  rintro e w1 ⟨v, n, rfl, hcn, hin, ow⟩
  obtain ⟨a3, c3, hv, hrg⟩ := ow.rg
  subst hv
  have K2 := hid (and_says a1 a3 c1 c3 s n w1 (H1.out.new ow.touch) hrg KK.out ow.cap hs hcn)
  have T1 := hid ow.touch
  have HIN := hid hin
  clear hrg ow hcn hin K
  go_wp2_with fail
  refine K2.out.mono ?_
  rintro e w2 ⟨v2, m, rfl, hcm, him, ow2⟩
  obtain ⟨a4, c4, hv⟩ := own_shape ow2.own
  subst hv
  have OW2 := hid ow2
  have HCM := hid hcm
  have HIM := hid him
  clear ow2 hcm him K2
  go_wp2
  go_ret
  refine ⟨_, m, rfl, HCM.out, fun x => ?_, ⟨OW2.out.own, fun g e => Nat.le_trans T1.out.size (OW2.out.new g e), T1.out.trans OW2.out.touch (fun _ _ e => e)⟩⟩
  rw [HIM.out x, HIN.out x]
  constructor
  · exact fun h => ⟨h.1, h.2.2⟩
  · refine fun h => ⟨h.1, ?_, h.2⟩
    obtain ⟨r, hr, q1, q2⟩ := h.1
    have := hs.in_ r hr
    unfold inB at this
    omega
end Go.Proofs.YtnngemdpoemhgaaDoor

/- The search for the range in which a number may be; no condition. -/
namespace Go.Proofs.YtnngemdpoemhgaaDoor
open Go.RowKit

set_option maxRecDepth 100000 in
set_option maxHeartbeats 4000000 in
theorem closure29 (br bs : Nat) (r : Int) (a : Option Addr) (cap : Nat) (s : List R2) (i : Nat) (hi : i < s.length) (y : Int) (hy : y = s[i].2) (w : World) (hr : w.cell? ⟨br, 0, none⟩ = some (.int .i64 r)) (hs : w.cell? ⟨bs, 0, none⟩ = some (.slice a s.length cap)) (hl : Rg w a s) :
    Calls Tryd.prog 38 (#[.int .i64 i] ++ #[.pointer (some ⟨br, 0, none⟩), .pointer (some ⟨bs, 0, none⟩)]) w fun e w' => e = .returned (.bool (decide (r ≤ y))) ∧ Touch (fun _ => False) w w' := by
  obtain ⟨b, o, rfl, _, hcell⟩ : ∃ b o, a = some ⟨b, o, none⟩ ∧ b < w.heap.size ∧ ∀ i (h : i < s.length), w.cell? ⟨b, o + i * 2, none⟩ = some (.int .i64 (s[i]).1) ∧ w.cell? ⟨b, o + i * 2 + 1, none⟩ = some (.int .i64 (s[i]).2) := by
    rcases hl with h | h
    · rw [h] at hi; simp at hi
    · exact h
  obtain ⟨d0, d1⟩ := hcell i hi
  generalize s[i].1 = x at d0
  rw [← hy] at d1
  clear hy
  have hiI : (i : Int) < (s.length : Int) := by omega
  clear hcell
  go_enter Tryd.func38, Tryd.ntmps38
  go_wp2_with fail
  go_quiet (fail)
  go_wp2
  go_ret
  exact ⟨rfl, (Touch.refl _ _).drewN _⟩

set_option maxRecDepth 100000 in
set_option maxHeartbeats 4000000 in
theorem search_any (br bs : Nat) (r : Int) (a : Option Addr) (cap : Nat) (s : List R2) (w : World) (hbr : br < w.heap.size) (hbs : bs < w.heap.size) (hr : w.cell? ⟨br, 0, none⟩ = some (.int .i64 r)) (hs : w.cell? ⟨bs, 0, none⟩ = some (.slice a s.length cap)) (hl : Rg w a s)
    (hmono : ∀ i j (hi : i < s.length) (hj : j < s.length), i ≤ j → s[i].2 ≤ s[j].2) (hb : s.length ≤ 4194304) :
    Calls Tryd.prog 37 #[.int .i64 s.length, .func (.func 38) #[] #[.pointer (some ⟨br, 0, none⟩), .pointer (some ⟨bs, 0, none⟩)]] w fun e w' => ∃ k : Nat, e = .returned (.int .i64 k) ∧ k ≤ s.length ∧ (∀ t (_ : t < k) (hl : t < s.length), ¬ r ≤ s[t].2) ∧ (∀ t (_ : k ≤ t) (hl : t < s.length), r ≤ s[t].2) ∧ Touch (fun _ => False) w w' := by
  have HC := hid (fun (wq : World) (tc : Touch (fun _ => False) w wq) (i : Nat) (hi : i < s.length) (y : Int) (hy : y = s[i].2) => closure29 br bs r a cap s i hi y hy wq ((tc.cell (p := ⟨br, 0, none⟩) hbr id).trans hr) ((tc.cell (p := ⟨bs, 0, none⟩) hbs id).trans hs) (hl.new tc))
  have M := hid hmono
  clear hr hs hl hmono hbr hbs
  go_enter Tryd.func37, Tryd.ntmps37
  go_wp2_with fail
  go_loopg [5, 6] s.length (fun gk x y wr => ∃ lo hi : Nat, x = .int .i64 lo ∧ y = .int .i64 hi ∧ lo ≤ hi ∧ hi ≤ s.length ∧ hi - lo ≤ gk ∧ Hid ((∀ t (_ : t < lo) (hl : t < s.length), ¬ r ≤ s[t].2) ∧ (∀ t (_ : hi ≤ t) (hl : t < s.length), r ≤ s[t].2)) ∧ Touch (fun _ => False) w wr)
  case atStart => exact ⟨0, s.length, rfl, rfl, Nat.zero_le _, Nat.le_refl _, by omega, hid ⟨fun t ht => absurd ht (Nat.not_lt_zero _), fun t h1 h2 => by omega⟩, Touch.refl _ _⟩
  case round =>
    obtain ⟨lo, hi, rfl, rfl, hlh, hin, hg, I, htc⟩ := hrel
    have TC := hid htc
    clear htc
    by_cases hlt : lo < hi
    · have hmid : (lo + hi) / 2 < s.length := by omega
      have HMID := hid hmid
      obtain ⟨y, hy⟩ : ∃ y, y = s[(lo + hi) / 2].2 := ⟨_, rfl⟩
      have hc := HC.out wr TC.out ((lo + hi) / 2) hmid y hy
      rw [show (((lo + hi) / 2 : Nat) : Int) = ((lo : Int) + (hi : Int)) / 2 by omega] at hc
      have HY := hid hy
      clear hy hmid
      by_cases hp : r ≤ y
      · rw [decide_eq_true hp] at hc
        have HP := hid hp
        clear hp
        go_wp2_with fail
        refine hc.mono ?_
        rintro e w' ⟨rfl, tc⟩
        have T2 := hid (TC.out.trans tc (fun _ _ e => e))
        clear tc hc
        go_wp2_with fail
        go_roundg ((lo + hi) / 2 - lo)
        case measure => omega
        case rel =>
          exact ⟨lo, (lo + hi) / 2, rfl, by rw [show ((lo : Int) + (hi : Int)) / 2 = (((lo + hi) / 2 : Nat) : Int) by omega], by omega, by omega, Nat.le_refl _, hid ⟨I.out.1, fun t ht htl => by have h1 := M.out _ t HMID.out htl ht; have h2 := HP.out; rw [HY.out] at h2; omega⟩, T2.out⟩
      · rw [decide_eq_false hp] at hc
        have HP := hid hp
        clear hp
        go_wp2_with fail
        refine hc.mono ?_
        rintro e w' ⟨rfl, tc⟩
        have T2 := hid (TC.out.trans tc (fun _ _ e => e))
        clear tc hc
        go_wp2_with fail
        go_roundg (hi - ((lo + hi) / 2 + 1))
        case measure => omega
        case rel =>
          exact ⟨(lo + hi) / 2 + 1, hi, by rw [show ((lo : Int) + (hi : Int)) / 2 + 1 = (((lo + hi) / 2 + 1 : Nat) : Int) by omega], rfl, by omega, hin, Nat.le_refl _, hid ⟨fun t ht htl => by have h1 := M.out t _ htl HMID.out (by omega); have h2 := HP.out; rw [HY.out] at h2; omega, I.out.2⟩, T2.out⟩
    · obtain rfl : hi = lo := by omega
      go_wp2
      go_ret
      exact ⟨hi, rfl, hin, I.out.1, I.out.2, TC.out⟩
end Go.Proofs.YtnngemdpoemhgaaDoor

/- How many numbers a list of ranges has, plain facts; no condition beside those told. -/
namespace Go.Proofs.YtnngemdpoemhgaaDoor

def hasB (x : Int) (s : List R2) : Bool := s.any fun r => decide (r.1 ≤ x) && decide (x ≤ r.2)
theorem hasB_iff {x : Int} {s : List R2} : hasB x s = true ↔ In x s := by
  unfold hasB In
  simp [List.any_eq_true]
theorem hasB_eq {x : Int} {s : List R2} {p : Bool} (h : In x s ↔ p = true) : hasB x s = p := by
  rw [Bool.eq_iff_iff, hasB_iff, h]

def cnt (N : Nat) (p : Nat → Bool) : Nat := (List.range N).countP p
theorem cnt_zero (p : Nat → Bool) : cnt 0 p = 0 := rfl
theorem cnt_succ (N : Nat) (p : Nat → Bool) : cnt (N + 1) p = cnt N p + (if p N = true then 1 else 0) := by
  unfold cnt
  rw [List.range_succ, List.countP_append, List.countP_singleton]
theorem cnt_or (p q : Nat → Bool) : ∀ N, cnt N (fun i => p i || q i) + cnt N (fun i => p i && q i) = cnt N p + cnt N q
  | 0 => rfl
  | N + 1 => by
    have := cnt_or p q N
    rw [cnt_succ, cnt_succ, cnt_succ, cnt_succ]
    cases p N <;> cases q N <;> simp <;> omega
theorem cnt_not (p : Nat → Bool) : ∀ N, cnt N p + cnt N (fun i => !p i) = N
  | 0 => rfl
  | N + 1 => by
    have := cnt_not p N
    rw [cnt_succ, cnt_succ]
    cases p N <;> simp <;> omega
theorem cnt_none (p : Nat → Bool) (h : ∀ i, p i = false) : ∀ N, cnt N p = 0
  | 0 => rfl
  | N + 1 => by rw [cnt_succ, cnt_none p h N, h N]; rfl
theorem cnt_same (p q : Nat → Bool) : ∀ N, (∀ i, i < N → p i = q i) → cnt N p = cnt N q
  | 0, _ => rfl
  | N + 1, h => by rw [cnt_succ, cnt_succ, cnt_same p q N (fun i hi => h i (by omega)), h N (by omega)]
theorem cnt_le (p q : Nat → Bool) : ∀ N, (∀ i, i < N → p i = true → q i = true) → cnt N p ≤ cnt N q
  | 0, _ => Nat.le_refl _
  | N + 1, h => by
    have h1 := cnt_le p q N (fun i hi => h i (by omega))
    have h2 := h N (by omega)
    rw [cnt_succ, cnt_succ]
    cases hp : p N
    · simp; omega
    · rw [h2 hp]; simp; omega
theorem cnt_iv_at (a b : Int) (ha : 0 ≤ a) (hab : a ≤ b + 1) : ∀ N : Nat, (cnt N (fun i => decide (a ≤ (i : Int)) && decide ((i : Int) ≤ b)) : Int) = min (N : Int) (b + 1) - min (N : Int) a
  | 0 => by rw [cnt_zero]; omega
  | N + 1 => by
    have := cnt_iv_at a b ha hab N
    rw [cnt_succ]
    by_cases h1 : a ≤ (N : Int) <;> by_cases h2 : (N : Int) ≤ b
    · simp only [h1, h2, decide_true, Bool.and_self, if_true]
      omega
    · simp only [h1, h2, decide_true, decide_false, Bool.and_false, Bool.false_eq_true, if_false]
      omega
    · simp only [h1, h2, decide_true, decide_false, Bool.false_and, Bool.false_eq_true, if_false]
      omega
    · simp only [h1, h2, decide_false, Bool.false_and, Bool.false_eq_true, if_false]
      omega
def sizeL (s : List R2) : Int := (s.map fun r => r.2 - r.1 + 1).sum
theorem sizeL_nil : sizeL [] = 0 := rfl
theorem sizeL_cons (r : R2) (s : List R2) : sizeL (r :: s) = (r.2 - r.1 + 1) + sizeL s := by simp [sizeL]
theorem sizeL_append (s t : List R2) : sizeL (s ++ t) = sizeL s + sizeL t := by simp [sizeL]

theorem size_cnt_at (N : Nat) : ∀ s : List R2, (∀ r ∈ s, 0 ≤ r.1 ∧ r.1 ≤ r.2 ∧ r.2 < N) → s.Pairwise (fun a b => a.2 + 1 < b.1) → sizeL s = (cnt N (fun i => hasB i s) : Nat)
  | [], _, _ => by
    rw [cnt_none _ (fun i => by simp [hasB]) N]
    rfl
  | r :: s, hin, hup => by
    have hp := List.pairwise_cons.1 hup
    have hr := hin r (by simp)
    have ih := size_cnt_at N s (fun a ha => hin a (by simp [ha])) hp.2
    have h1 := cnt_or (fun i => decide (r.1 ≤ (i : Int)) && decide ((i : Int) ≤ r.2)) (fun i => hasB i s) N
    have h2 : cnt N (fun i => (decide (r.1 ≤ (i : Int)) && decide ((i : Int) ≤ r.2)) && hasB i s) = 0 := by
      refine cnt_none _ (fun i => ?_) N
      by_cases h : (decide (r.1 ≤ (i : Int)) && decide ((i : Int) ≤ r.2)) = true
      · by_cases k : hasB (i : Int) s = true
        · obtain ⟨q, hq, h3, _⟩ := hasB_iff.1 k
          have := hp.1 q hq
          simp only [Bool.and_eq_true, decide_eq_true_eq] at h
          omega
        · simp [k]
      · rw [Bool.not_eq_true] at h
        simp [h]
    have h3 := cnt_iv_at r.1 r.2 hr.1 (by omega) N
    have h4 : cnt N (fun i => hasB i (r :: s)) = cnt N (fun i => (decide (r.1 ≤ (i : Int)) && decide ((i : Int) ≤ r.2)) || hasB i s) := by
      refine cnt_same _ _ N (fun i _ => ?_)
      simp [hasB]
    rw [sizeL_cons, h4, ih]
    rw [h2] at h1
    omega

theorem size_cnt {s : List R2} (h : Canon s) : sizeL s = (cnt 1114112 (fun i => hasB i s) : Nat) := by
  refine size_cnt_at 1114112 s (fun r hr => ?_) h.up
  have := h.in_ r hr
  unfold inB at this
  exact ⟨this.1, by omega, by omega⟩
theorem cnt_top (N : Nat) (p : Nat → Bool) : cnt N p ≤ N := by
  have := cnt_not p N
  omega
theorem sizeL_pos {s : List R2} (h : Canon s) : 0 ≤ sizeL s ∧ sizeL s ≤ 1114112 := by
  rw [size_cnt h]
  have := cnt_top 1114112 (fun i => hasB i s)
  omega
theorem size_not {s n : List R2} (h : Canon s) (k : Canon n) (hn : ∀ x, In x n ↔ (0 ≤ x ∧ x ≤ 1114111) ∧ ¬ In x s) : sizeL s + sizeL n = 1114112 := by
  rw [size_cnt h, size_cnt k, cnt_same (fun i => hasB i n) (fun i => !hasB i s) 1114112 (fun i hi => ?_)]
  · have := cnt_not (fun i => hasB i s) 1114112
    omega
  · refine hasB_eq ?_
    rw [hn, Bool.not_eq_true', ← Bool.not_eq_true, hasB_iff]
    constructor
    · exact fun h => h.2
    · exact fun h => ⟨by omega, h⟩
theorem size_or {s t o a : List R2} (hs : Canon s) (ht : Canon t) (ho : Canon o) (ha : Canon a) (h1 : ∀ x, In x o ↔ In x s ∨ In x t) (h2 : ∀ x, In x a ↔ In x s ∧ In x t) : sizeL o = sizeL s + sizeL t - sizeL a := by
  have := cnt_or (fun i => hasB i s) (fun i => hasB i t) 1114112
  rw [size_cnt hs, size_cnt ht, size_cnt ho, size_cnt ha,
    cnt_same (fun i => hasB i o) (fun i => hasB i s || hasB i t) 1114112 (fun i hi => hasB_eq (by rw [h1, Bool.or_eq_true, hasB_iff, hasB_iff])),
    cnt_same (fun i => hasB i a) (fun i => hasB i s && hasB i t) 1114112 (fun i hi => hasB_eq (by rw [h2, Bool.and_eq_true, hasB_iff, hasB_iff]))]
  omega
end Go.Proofs.YtnngemdpoemhgaaDoor

/- Where a number would be in a list of ranges that rises, plain facts; no condition beside those told. -/
namespace Go.Proofs.YtnngemdpoemhgaaDoor

theorem canon_lt {s : List R2} (h : Canon s) (i j : Nat) (hi : i < s.length) (hj : j < s.length) (hij : i < j) : s[i].2 + 1 < s[j].1 := (List.pairwise_iff_getElem.1 h.up) i j hi hj hij
theorem canon_mono {s : List R2} (h : Canon s) (i j : Nat) (hi : i < s.length) (hj : j < s.length) (hij : i ≤ j) : s[i].2 ≤ s[j].2 := by
  rcases Nat.lt_or_ge i j with k | k
  · have h1 := canon_lt h i j hi hj k
    have h2 := h.in_ s[j] (List.getElem_mem _)
    unfold inB at h2
    omega
  · obtain rfl : i = j := by omega
    exact Int.le_refl _
theorem has_none {s : List R2} (x : Int) (h1 : ∀ t (hl : t < s.length), ¬ x ≤ s[t].2) : hasB x s = false := by
  rw [← Bool.not_eq_true, hasB_iff]
  rintro ⟨r, hr, _, k⟩
  obtain ⟨t, ht, rfl⟩ := List.getElem_of_mem hr
  exact h1 t ht k
theorem has_at {s : List R2} (h : Canon s) (x : Int) (k : Nat) (hk : k < s.length) (h1 : ∀ t (_ : t < k) (hl : t < s.length), ¬ x ≤ s[t].2) (h2 : x ≤ s[k].2) : hasB x s = decide (s[k].1 ≤ x) := by
  refine hasB_eq ?_
  rw [decide_eq_true_eq]
  constructor
  · rintro ⟨r, hr, k1, k2⟩
    obtain ⟨t, ht, rfl⟩ := List.getElem_of_mem hr
    rcases Nat.lt_trichotomy t k with q | q | q
    · exact absurd k2 (h1 t q ht)
    · subst q
      exact k1
    · have := canon_lt h k t hk ht q
      omega
  · exact fun q => ⟨s[k], List.getElem_mem _, q, h2⟩
end Go.Proofs.YtnngemdpoemhgaaDoor
