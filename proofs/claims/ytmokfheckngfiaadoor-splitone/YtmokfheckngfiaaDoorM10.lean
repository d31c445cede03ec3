/- Texts of this proof, one behind the other: what each says stands ahead of it. -/
import Derived.Test.YtmokfheckngfiaaDoorM9
import Derived.Test.YtmokfheckngfiaaDoorM8
import Derived.Test.YtmokfheckngfiaaDoorM6
/- And of two sets, and Less: what they answer; no condition beside those told. -/
namespace Go.Proofs.YtmokfheckngfiaaDoor.S
open Go.RowKit

theorem andL_nil (s : List R2) : andL s [] = [] := by
  cases s <;> rw [andL]
theorem Rg.head {w : World} {a : Option Addr} {x : R2} {s : List R2} (h : Rg w a (x :: s)) : ∃ b o, a = some ⟨b, o, none⟩ ∧ b < w.heap.size ∧ w.cell? ⟨b, o, none⟩ = some (.int .i64 x.1) ∧ w.cell? ⟨b, o + 1, none⟩ = some (.int .i64 x.2) ∧ Rg w (some ⟨b, o + 2, none⟩) s := by
  rcases h with h | ⟨b, o, rfl, hb, hc⟩
  · simp at h
  · have h0 := hc 0 (by simp)
    simp only [Nat.zero_mul, Nat.add_zero, List.getElem_cons_zero] at h0
    refine ⟨b, o, rfl, hb, h0.1, h0.2, .inr ⟨b, o + 2, rfl, hb, fun i hi => ?_⟩⟩
    have := hc (i + 1) (by simpa using hi)
    rw [show o + (i + 1) * 2 = o + 2 + i * 2 by omega] at this
    simpa using this

set_option maxRecDepth 100000 in
set_option maxHeartbeats 4000000 in
theorem and_any (a1 a2 : Option Addr) (c1 c2 : Nat) (s t : List R2) (w : World) (h1 : Rg w a1 s) (h2 : Rg w a2 t) (k1 : s.length ≤ c1) (k2 : t.length ≤ c2) (hb : s.length + t.length ≤ 4194304) :
    Calls Tryd.prog 43 #[.slice a1 s.length c1, .slice a2 t.length c2] w fun e w' => ∃ v, e = .returned v ∧ OwE w w' 38 v (andL s t) := by
  obtain ⟨i0, hi33, hz0, hz1, hz2⟩ := info_parts info33
  have H1 := hid h1
  have H2 := hid h2
  have K1 := hid k1
  have K2 := hid k2
  clear h1 h2 k1 k2
  go_enter Tryd.func43, Tryd.ntmps43
  go_wp2_with fail
  go_loopg [0, 1, 5] (s.length + t.length) (fun gk v0 v1 v wr => ∃ (p q o : List R2) (b1 b2 : Option Addr) (d1 d2 : Nat), p.length + q.length = gk ∧ v0 = .slice b1 p.length d1 ∧ v1 = .slice b2 q.length d2 ∧ p.length ≤ d1 ∧ q.length ≤ d2 ∧ Rg w b1 p ∧ Rg w b2 q ∧ o.length + p.length + q.length ≤ s.length + t.length ∧ o ++ andL p q = andL s t ∧ OwE w wr 38 v o)
  case atStart => exact ⟨s, t, [], a1, a2, c1, c2, rfl, rfl, rfl, K1.out, K2.out, H1.out, H2.out, by simp, rfl, OwE.nil _ _⟩
  case round =>
    obtain ⟨p, q, o, b1, b2, d1, d2, hgk, rfl, rfl, l1, l2, r1, r2, hol, heq, how⟩ := hrel
    have OW := hid how
    have HE := hid heq
    have R1 := hid (r1.new how.touch)
    have R2 := hid (r2.new how.touch)
    have R01 := hid r1
    have R02 := hid r2
    obtain ⟨av, cv, hav⟩ := own_shape how.own
    subst hav
    clear how r1 r2 heq
    obtain ⟨M, hM⟩ : ∃ M, M = o.length := ⟨_, rfl⟩
    rw [← hM] at OW ⊢
    have HM := hid hM
    clear hM
    cases p with
    | nil =>
      have HEE := hid (show o = andL s t from by have := HE.out; rw [andL, List.append_nil] at this; exact this)
      go_wp2
      go_ret
      refine ⟨_, rfl, ?_⟩
      rw [← HEE.out]
      exact OW.out
    | cons x p =>
      cases q with
      | nil =>
        have HEE := hid (show o = andL s t from by have := HE.out; rw [andL_nil, List.append_nil] at this; exact this)
        go_wp2
        go_ret
        refine ⟨_, rfl, ?_⟩
        rw [← HEE.out]
        exact OW.out
      | cons y q =>
        obtain ⟨xa, xb⟩ := x
        obtain ⟨ya, yb⟩ := y
        obtain ⟨e1, o1, hb1, _, x0, x1, rp⟩ := R1.out.head
        obtain ⟨e2, o2, hb2, _, y0, y1, rq⟩ := R2.out.head
        obtain ⟨_, _, hb1', _, _, _, rp0⟩ := R01.out.head
        obtain ⟨_, _, hb2', _, _, _, rq0⟩ := R02.out.head
        subst hb1
        subst hb2
        simp only [Option.some.injEq, Addr.mk.injEq, and_true] at hb1' hb2'
        obtain ⟨rfl, rfl⟩ := hb1'
        obtain ⟨rfl, rfl⟩ := hb2'
        have RP := hid rp0
        have RQ := hid rq0
        dsimp only at x0 x1 y0 y1
        clear rp rq rp0 rq0
        simp only [List.length_cons] at hgk l1 l2 hol ⊢
        have CA := hid (fun wq => common_any xa xb ya yb wq)
        obtain ⟨cx, hcx⟩ : ∃ cx, cx = max xa ya := ⟨_, rfl⟩
        obtain ⟨cy, hcy⟩ : ∃ cy, cy = min xb yb := ⟨_, rfl⟩
        rw [← hcx, ← hcy] at CA
        have HAL := hid (show andL ((xa, xb) :: p) ((ya, yb) :: q) = (if cx ≤ cy then [(cx, cy)] else []) ++ (if xb < yb then andL p ((ya, yb) :: q) else andL ((xa, xb) :: p) q) from by rw [andL, hcx, hcy])
        clear hcx hcy
        go_upto_region 3 with fail
        go_cut [6] (fun v wd => ∃ rb, v = .pointer (some ⟨rb, 0, none⟩) ∧ wd.heap[rb]? = some (.cells #[.int .i64 cx, .int .i64 cy] 38 (0, 0)) ∧ Touch (fun _ => False) wr wd ∧ wr.heap.size ≤ rb)
        case first =>
          go_region_with (go_at_call 36; refine (CA.out _).mono ?_; rintro e w1 ⟨rfl, tc⟩; have TC := hid tc; (try (have jb : w1.heap[wr.heap.size]? = some (.cells #[.int .i64 0, .int .i64 0] 38 (0, 0)) := (tc.block _ (by simp) id).trans (by show (wr.heap.push _)[_]? = _; simp); have JB := hid jb; have j0 := cell_two0 jb; have j1 := cell_two1 jb; have jf0 := free_two (i := 0) jb; have jf1 := free_two (i := 1) jb; clear jb)); clear tc)
          all_goals
            go_wp2
            go_meet
            case rel =>
              first
              | exact ⟨_, rfl, three_new _ _ _, ((Touch.refl _ wr).drew.trans TC.out (fun _ _ e => e)).alloc _, TC.out.size⟩
              | exact ⟨_, rfl, two_set1 (two_set0 JB.out), ((((Touch.refl (fun _ => False) wr).drew.alloc (.cells #[.int .i64 0, .int .i64 0] 38)).trans TC.out (fun _ _ e => e)).setCell (p := ⟨wr.heap.size, 0, none⟩) (fun h => absurd h (Nat.lt_irrefl _)) _).setCell (p := ⟨wr.heap.size, 1, none⟩) (fun h => absurd h (Nat.lt_irrefl _)) _, Nat.le_refl _⟩
        obtain ⟨rb, rfl, hrb, tcw, hge⟩ := hcut
        have RB := hid hrb
        have OA := hid (OW.out.still tcw)
        have HOWN := hid (show ∀ g, (Value.slice av M cv).ownBlock = some g → g ≠ rb from fun g e => by
          have := (OW.out.own.lt g e).2
          omega)
        have z0 := cell_two0 hrb
        have z1 := cell_two1 hrb
        have hMb : M ≤ 4194304 := by rw [HM.out]; omega
        have hob : o.length ≤ 4194304 := by omega
        clear hrb tcw OW x0 x1 y0 y1 R1 R2
        go_upto_if 26 with fail
        go_cut [5] (fun v wd => OwE w wd 38 v (o ++ (if cx ≤ cy then [(cx, cy)] else [])) ∧ Touch (fun k => w.heap.size ≤ k) wc wd)
        case first =>
          by_cases hc : cx ≤ cy
          · rw [decide_eq_true hc]
            go_wp2_with (at_builtin; refine wpList_append_own_at _ rfl _ _ 35 rfl 0 38 i0 (.agg #[.int .i64 0, .int .i64 0]) 2 16 Tryd.underlying35 hi33 hz0 hz1 hz2 rfl (by decide) _ _ _ rfl (OA.out.own.alloc _) ⟨wc.heap.size, 0, none⟩ 1 1 [.int .i64 cx, .int .i64 cy] rfl rfl (row_new wc [.int .i64 cx, .int .i64 cy] 38) (by intro u hu; simp at hu; rcases hu with rfl | rfl <;> rfl) (by unfold maxLen; omega) (by omega) (Nat.zero_le _) ?_)
            intro v' w4 hown hgrow _ hat
            have OC := hid (OA.out.more (xs := [(cx, cy)]) hown hgrow hat)
            have TG := hid (((Touch.refl (fun k => w.heap.size ≤ k) wc).alloc (.cells #[.int .i64 cx, .int .i64 cy] 38)).grown hgrow (fun k e hk => OA.out.new k e))
            have HC := hid hc
            clear hown hgrow hat hc
            go_wp2
            go_meet
            case rel =>
              rw [if_pos HC.out]
              exact ⟨OC.out, TG.out⟩
          · have HC := hid hc
            rw [decide_eq_false hc]
            clear hc
            go_wp2
            go_meet
            case rel =>
              rw [if_neg (by have := HC.out; omega), List.append_nil]
              exact ⟨OA.out, Touch.refl _ _⟩
        obtain ⟨owx, _⟩ := hcut
        have ol2 : (o ++ (if cx ≤ cy then [(cx, cy)] else [])).length ≤ o.length + 1 := by
          rw [List.length_append]
          split <;> simp
        obtain ⟨o2, ho2⟩ : ∃ o2, o2 = o ++ (if cx ≤ cy then [(cx, cy)] else []) := ⟨_, rfl⟩
        rw [← ho2] at owx ol2
        have HE2 := hid (show o2 ++ (if xb < yb then andL p ((ya, yb) :: q) else andL ((xa, xb) :: p) q) = andL s t from by rw [← HE.out, HAL.out, ho2, List.append_assoc])
        have OX := hid owx
        obtain ⟨av5, cv5, hv5⟩ := own_shape owx.own
        subst hv5
        have Q1 := (R01.out.new owx.touch).head
        have Q2 := (R02.out.new owx.touch).head
        obtain ⟨f1, g1, hb1, _, x0, x1, _⟩ := Q1
        obtain ⟨f2, g2, hb2, _, y0, y1, _⟩ := Q2
        simp only [Option.some.injEq, Addr.mk.injEq, and_true] at hb1 hb2
        obtain ⟨rfl, rfl⟩ := hb1
        obtain ⟨rfl, rfl⟩ := hb2
        dsimp only at x0 x1 y0 y1
        clear ho2 owx z0 z1
        go_upto_region 6 with fail
        go_cut [39] (fun v wd => v = .bool (decide (xb < yb)) ∧ Touch (fun _ => False) wc wd)
        case first =>
          go_quiet (fail)
          go_wp2
          go_meet
          case rel => exact ⟨rfl, (Touch.refl _ _).drewN _⟩
        obtain ⟨rfl, tcz⟩ := hcut
        have OZ := hid (OX.out.still tcz)
        clear tcz x0 x1 y0 y1
        by_cases hxy : xb < yb
        · rw [decide_eq_true hxy]
          have HXY := hid hxy
          clear hxy
          by_cases hd : d1 = 1
          · have hp0 : p = [] := List.eq_nil_of_length_eq_zero (by omega)
            subst hp0
            subst hd
            go_wp2_with fail
            go_roundg (gk - 1)
            case measure => omega
            case rel =>
              refine ⟨[], (ya, yb) :: q, o2, _, _, _, _, ?_, rfl, rfl, Nat.zero_le _, by simpa using l2, .inl rfl, R02.out, ?_, ?_, OZ.out⟩
              · simp; simp at hgk; omega
              · simp; simp at hol; omega
              · have := HE2.out
                rw [if_pos HXY.out] at this
                exact this
          · have g1' : (1 : Int) ≤ ((p.length + 1 : Nat) : Int) := by omega
            have g2' : (1 : Int) ≤ (d1 : Int) := by omega
            go_wp2_with fail
            go_roundg (gk - 1)
            case measure => omega
            case rel =>
              refine ⟨p, (ya, yb) :: q, o2, _, _, _, _, ?_, rfl, rfl, by omega, by simpa using l2, RP.out, R02.out, ?_, ?_, OZ.out⟩
              · simp; omega
              · simp; omega
              · have := HE2.out
                rw [if_pos HXY.out] at this
                exact this
        · rw [decide_eq_false hxy]
          have HXY := hid hxy
          clear hxy
          by_cases hd : d2 = 1
          · have hp0 : q = [] := List.eq_nil_of_length_eq_zero (by omega)
            subst hp0
            subst hd
            go_wp2_with fail
            go_roundg (gk - 1)
            case measure => omega
            case rel =>
              refine ⟨(xa, xb) :: p, [], o2, _, _, _, _, ?_, rfl, rfl, by simpa using l1, Nat.zero_le _, R01.out, .inl rfl, ?_, ?_, OZ.out⟩
              · simp; simp at hgk; omega
              · simp; simp at hol; omega
              · have := HE2.out
                rw [if_neg (by have := HXY.out; omega)] at this
                exact this
          · have g1' : (1 : Int) ≤ ((q.length + 1 : Nat) : Int) := by omega
            have g2' : (1 : Int) ≤ (d2 : Int) := by omega
            go_wp2_with fail
            go_roundg (gk - 1)
            case measure => omega
            case rel =>
              refine ⟨(xa, xb) :: p, q, o2, _, _, _, _, ?_, rfl, rfl, by simpa using l1, by omega, R01.out, RQ.out, ?_, ?_, OZ.out⟩
              · simp; omega
              · simp; omega
              · have := HE2.out
                rw [if_neg (by have := HXY.out; omega)] at this
                exact this

theorem and_says (a1 a2 : Option Addr) (c1 c2 : Nat) (s t : List R2) (w : World) (h1 : Rg w a1 s) (h2 : Rg w a2 t) (k1 : s.length ≤ c1) (k2 : t.length ≤ c2) (hs : Canon s) (ht : Canon t) :
    Calls Tryd.prog 43 #[.slice a1 s.length c1, .slice a2 t.length c2] w fun e w' => ∃ v n, e = .returned v ∧ Canon n ∧ (∀ x, In x n ↔ In x s ∧ In x t) ∧ OwE w w' 38 v n := by
  refine (and_any a1 a2 c1 c2 s t w h1 h2 k1 k2 (by have := canon_len hs; have := canon_len ht; omega)).mono ?_
  rintro e w' ⟨v, rfl, ow⟩
  have h := andL_good s t hs ht
  exact ⟨v, andL s t, rfl, h.1, h.2, ow⟩

theorem OwE.cap {W0 wr : World} {e n cap : Nat} {a : Option Addr} {s : List R2} (h : OwE W0 wr e (.slice a n cap) s) : s.length ≤ cap := by
  rcases h.own.2 with ⟨_, h0⟩ | ⟨g, cap', cur, hv, _, _, hle, _⟩
  · omega
  · simp only [Value.slice.injEq] at hv
    omega

set_option maxRecDepth 100000 in
set_option maxHeartbeats 4000000 in
theorem less_says (a1 a2 : Option Addr) (c1 c2 : Nat) (s t : List R2) (w : World) (h1 : Rg w a1 s) (h2 : Rg w a2 t) (k1 : s.length ≤ c1) (hs : Canon s) (ht : Canon t) :
    Calls Tryd.prog 23 #[.slice a1 s.length c1, .slice a2 t.length c2] w fun e w' => ∃ v n, e = .returned v ∧ Canon n ∧ (∀ x, In x n ↔ In x s ∧ ¬ In x t) ∧ OwE w w' 38 v n := by
  have K := hid (not_says a2 c2 t w h2 ht)
  have H1 := hid h1
  have KK := hid k1
  clear h1 h2 k1
  go_enter Tryd.func23, Tryd.ntmps23
  go_wp2_with fail
  refine K.out.mono ?_
  rintro e w1 ⟨v, n, rfl, hcn, hin, ow⟩
  obtain ⟨a3, c3, hv, hrg⟩ := ow.rg
  subst hv
  have K2 := hid (and_says a1 a3 c1 c3 s n w1 (H1.out.new ow.touch) hrg KK.out ow.cap hs hcn)
  have T1 := hid ow.touch
  have HIN := hid hin
  clear hrg ow hcn hin K
  go_wp2_with fail
  refine K2.out.mono ?_
  rintro e w2 ⟨v2, m, rfl, hcm, him, ow2⟩
  obtain ⟨a4, c4, hv⟩ := own_shape ow2.own
  subst hv
  have OW2 := hid ow2
  have HCM := hid hcm
  have HIM := hid him
  clear ow2 hcm him K2
  go_wp2
  go_ret
  refine ⟨_, m, rfl, HCM.out, fun x => ?_, ⟨OW2.out.own, fun g e => Nat.le_trans T1.out.size (OW2.out.new g e), T1.out.trans OW2.out.touch (fun _ _ e => e)⟩⟩
  rw [HIM.out x, HIN.out x]
  constructor
  · exact fun h => ⟨h.1, h.2.2⟩
  · refine fun h => ⟨h.1, ?_, h.2⟩
    obtain ⟨r, hr, q1, q2⟩ := h.1
    have := hs.in_ r hr
    unfold inB at this
    omega
end Go.Proofs.YtmokfheckngfiaaDoor.S

/- Split of a set that has one scalar, or none; conditions: those told. -/
namespace Go.Proofs.YtmokfheckngfiaaDoor
open Go.RowKit
open Go.Lib

theorem lit_rg (w : World) (x y : Int) : S.Rg (w.alloc (.cells #[.int .i64 x, .int .i64 y] 38)) (some ⟨w.heap.size, 0, none⟩) [(x, y)] := by
  refine .inr ⟨w.heap.size, 0, rfl, by simp, fun i hi => ?_⟩
  obtain rfl : i = 0 := by simp at hi; omega
  have hb := block_new w #[.int .i64 x, .int .i64 y] 38
  generalize (w.alloc (.cells #[.int .i64 x, .int .i64 y] 38)) = w1 at hb ⊢
  exact ⟨by simp [World.cell?, hb], by simp [World.cell?, hb]⟩
def surL : List S.R2 := [(55296, 57343)]
theorem sur_set {s : List S.R2} (hs : S.Canon s) (h : ∀ x, S.In x s ↔ (0 ≤ x ∧ x ≤ 1114111) ∧ S.In x surL) : s = surL := by
  refine S.canon_one hs ⟨by simp [surL, S.inB], List.pairwise_singleton _ _⟩ (fun x => ?_)
  rw [h x, surL, S.in_one]
  exact ⟨fun k => k.2, fun k => ⟨by dsimp only at k; omega, k⟩⟩
theorem nil_set {s : List S.R2} (hs : S.Canon s) (h : ∀ x, ¬ S.In x s) : s = [] :=
  S.canon_one hs ⟨by simp, List.Pairwise.nil⟩ (fun x => ⟨fun k => absurd k (h x), fun k => absurd k (S.in_nil x)⟩)
theorem one_set {s : List S.R2} {q : Int} (hq : 0 ≤ q ∧ q ≤ 1114111) (hs : S.Canon s) (h : ∀ x, S.In x s ↔ x = q) : s = [(q, q)] := by
  refine S.canon_one hs ⟨by simp [S.inB]; omega, List.pairwise_singleton _ _⟩ (fun x => ?_)
  rw [h x, S.in_one]
  exact ⟨fun k => by dsimp only; omega, fun k => by dsimp only at k; omega⟩
theorem Rb.first (w : World) : Rb (fun k => k = w.heap.size ∨ (Value.slice none 0 0).ownBlock = some k) (w.alloc (.cells #[.slice none 0 0] 32)) (w.alloc (.cells #[.slice none 0 0] 32)) w.heap.size (.slice none 0 0) [] :=
  ⟨World.ownsRow_nil _ _ _ _, fun g hg => by simp [Value.ownBlock] at hg, block_new w _ 32, Touch.refl _ _, .inl rfl⟩
/-- What Split hands back. -/
def NoRows (w : World) (e : Ending) (w' : World) : Prop := e = .returned (.slice none 0 0) ∧ Touch (fun _ => False) w w'
def OneRow (z : List S.R2) (w : World) (e : Ending) (w' : World) : Prop := ∃ b n a c, e = .returned (.slice (some ⟨b, 0, none⟩) 1 n) ∧ b < w'.heap.size ∧ 1 ≤ n ∧ w'.cell? ⟨b, 0, none⟩ = some (.slice a z.length c) ∧ S.Rg w' a z ∧ Touch (fun _ => False) w w'
theorem own_first41 {w : World} {v x : Value} (h : w.ownsRow 0 41 1 v 1 [x]) : ∃ g n, v = .slice (some ⟨g, 0, none⟩) 1 n ∧ g < w.heap.size ∧ 1 ≤ n ∧ w.cell? ⟨g, 0, none⟩ = some x := by
  rcases h.2 with ⟨_, h0⟩ | ⟨g, cap, cur, rfl, hg, hh, hle, rest⟩
  · simp at h0
  · have h1 := h.cells (g := g) rfl 0 x rfl
    rw [S.add_g] at h1
    exact ⟨g, cap, rfl, lt_of_block hh, hle, h1⟩
inductive PutDone (q : Nat) (z : List S.R2) (w w' : World) : Prop
  | mk (v : Value) (a : Option Addr) (c : Nat) (own : w'.ownsRow 0 41 1 v 1 [.slice a z.length c]) (blk : w'.heap[q]? = some (.cells #[v] 32 (0, 0))) (rg : S.Rg w' a z) (tc : Touch (fun k => k = q ∨ (Value.slice none 0 0).ownBlock = some k) w w') : PutDone q z w w'
set_option maxRecDepth 100000 in
set_option maxHeartbeats 8000000 in
theorem split_no (a : Option Addr) (c : Nat) (s : List S.R2) (w : World) (hl : S.Rg w a s) (hs : S.Canon s) (hc : s.length ≤ c) (hbd : Bord w) (hin : ∀ y, S.In y s ∧ ¬ S.In y surL ↔ False) :
    Calls Tryd.prog 15 #[.slice a s.length c] w fun e w' => NoRows w e w' := by
  have RB1 := hid (Rb.first w)
  have TA := hid ((Touch.refl (fun _ => False) w).alloc (.cells #[.slice none 0 0] 32))
  have HL := hid (hl.new TA.out)
  have HBD := hid (hbd.new TA.out)
  have HIN := hid hin
  have HS := hid hs
  have HC := hid hc
  clear hl hbd hin hs hc
  go_enter Tryd.func15, Tryd.ntmps15
  go_upto_region 3 with fail
  generalize (w.alloc (.cells #[.slice none 0 0] 32)) = w1 at *
  obtain ⟨q, hq⟩ : ∃ q, q = w.heap.size := ⟨_, rfl⟩
  have HQ := hid (show w.heap.size ≤ q by omega)
  rw [← hq] at RB1 ⊢
  clear hq
  have RG := hid (lit_rg w1 55296 57343)
  have TB := hid ((Touch.refl (fun _ => False) w1).alloc (.cells #[.int .i64 55296, .int .i64 57343] 38))
  go_wp2_with fail
  change Calls Tryd.prog 16 #[_] (w1.alloc (.cells #[.int .i64 55296, .int .i64 57343] 38)) _
  generalize (w1.alloc (.cells #[.int .i64 55296, .int .i64 57343] 38)) = w2 at *
  refine (S.of_says (some ⟨w1.heap.size, 0, none⟩) 1 [(55296, 57343)] w2 RG.out (by simp)).mono ?_
  rintro e w3 ⟨v, s3, rfl, hcs, his, ows⟩
  obtain rfl : s3 = surL := sur_set hcs his
  obtain ⟨a3, c3, hv, hrs⟩ := S.own_rg ows.own
  subst hv
  have T3 := hid (TB.out.trans ows.touch (fun _ _ e => e))
  have KL := hid (S.less_says a a3 c c3 s surL w3 (HL.out.new T3.out) hrs HC.out HS.out hcs)
  clear hcs his ows hrs RG TB
  go_wp2_with fail
  refine KL.out.mono ?_
  rintro e w4 ⟨v, m, rfl, hcm, him, owm⟩
  obtain rfl : m = [] := nil_set hcm (fun y hy => (HIN.out y).1 ((him y).1 hy))
  obtain ⟨a4, c4, hv, hrm⟩ := owm.rg
  subst hv
  have T4 := hid (T3.out.trans owm.touch (fun _ _ e => e))
  have R4 := hid (RB1.out.still T4.out)
  have RM := hid hrm
  have HCM := hid owm.cap
  have B4 := hid (HBD.out.new T4.out)
  clear hcm him owm hrm T3 KL HL HC HS HIN RB1 HBD
  have bq := R4.out.blk
  have cq : w4.cell? ⟨q, 0, none⟩ = some (.slice none 0 0) := by simp [World.cell?, bq]
  go_wp2_with fail
  go_loopg [14] 0 (fun _ v14 wq => v14 = .int .i64 0 ∧ wq = w4)
  case atStart => exact ⟨rfl, rfl⟩
  case round =>
    obtain ⟨rfl, rfl⟩ := hrel
    go_wp2
    go_ret
    exact ⟨rfl, TA.out.trans T4.out (fun _ _ e => e)⟩
set_option maxRecDepth 100000 in
set_option maxHeartbeats 8000000 in
theorem split_one (x : Nat) (hx : okc 1 (x : Int) = true) (a : Option Addr) (c : Nat) (s : List S.R2) (w : World) (hl : S.Rg w a s) (hs : S.Canon s) (hc : s.length ≤ c) (hbd : Bord w) (hin : ∀ y, S.In y s ∧ ¬ S.In y surL ↔ y = (x : Int)) :
    Calls Tryd.prog 15 #[.slice a s.length c] w fun e w' => OneRow (List.zip (en8 (x : Int)) (en8 (x : Int))) w e w' := by
  have HX := hid hx
  have hxm : x ≤ 1114111 := by have h1 : 0 ≤ (x : Int) ∧ (x : Int) ≤ 1114111 := okc_in hx; omega
  have KB0 := hid (fun q w h1 h2 => cutBL_one x hx q (.slice none 0 0) [] w h1 h2 (by simp))
  generalize List.zip (en8 (x : Int)) (en8 (x : Int)) = z at *
  clear hx
  have RB1 := hid (Rb.first w)
  have TA := hid ((Touch.refl (fun _ => False) w).alloc (.cells #[.slice none 0 0] 32))
  have HL := hid (hl.new TA.out)
  have HBD := hid (hbd.new TA.out)
  have HIN := hid hin
  have HS := hid hs
  have HC := hid hc
  clear hl hbd hin hs hc
  go_enter Tryd.func15, Tryd.ntmps15
  go_upto_region 3 with fail
  generalize (w.alloc (.cells #[.slice none 0 0] 32)) = w1 at *
  obtain ⟨q, hq⟩ : ∃ q, q = w.heap.size := ⟨_, rfl⟩
  have HQ := hid (show w.heap.size ≤ q by omega)
  rw [← hq] at RB1 ⊢
  clear hq
  have RG := hid (lit_rg w1 55296 57343)
  have TB := hid ((Touch.refl (fun _ => False) w1).alloc (.cells #[.int .i64 55296, .int .i64 57343] 38))
  go_wp2_with fail
  change Calls Tryd.prog 16 #[_] (w1.alloc (.cells #[.int .i64 55296, .int .i64 57343] 38)) _
  generalize (w1.alloc (.cells #[.int .i64 55296, .int .i64 57343] 38)) = w2 at *
  refine (S.of_says (some ⟨w1.heap.size, 0, none⟩) 1 [(55296, 57343)] w2 RG.out (by simp)).mono ?_
  rintro e w3 ⟨v, s3, rfl, hcs, his, ows⟩
  obtain rfl : s3 = surL := sur_set hcs his
  obtain ⟨a3, c3, hv, hrs⟩ := S.own_rg ows.own
  subst hv
  have T3 := hid (TB.out.trans ows.touch (fun _ _ e => e))
  have KL := hid (S.less_says a a3 c c3 s surL w3 (HL.out.new T3.out) hrs HC.out HS.out hcs)
  clear hcs his ows hrs RG TB
  go_wp2_with fail
  refine KL.out.mono ?_
  rintro e w4 ⟨v, m, rfl, hcm, him, owm⟩
  obtain rfl : m = [((x : Int), (x : Int))] := one_set (okc_in HX.out) hcm (fun y => (him y).trans (HIN.out y))
  obtain ⟨a4, c4, hv, hrm⟩ := owm.rg
  subst hv
  have T4 := hid (T3.out.trans owm.touch (fun _ _ e => e))
  have R4 := hid (RB1.out.still T4.out)
  have RM := hid hrm
  have HCM := hid owm.cap
  have B4 := hid (HBD.out.new T4.out)
  clear hcm him owm hrm T3 KL HL HC HS HIN RB1 HBD
  go_wp2_with fail
  go_loopg [14] 1 (fun gk v14 wq => (gk = 1 ∧ v14 = .int .i64 0 ∧ wq = w4) ∨ (gk = 0 ∧ v14 = .int .i64 1 ∧ PutDone q z w1 wq))
  case atStart => exact .inl ⟨rfl, rfl, rfl⟩
  case round =>
    rcases hrel with ⟨rfl, rfl, rfl⟩ | ⟨rfl, rfl, hd⟩
    · obtain ⟨b4, o4, ha4, hb4, c0, c1, _⟩ := S.Rg.head RM.out
      subst ha4
      dsimp only at c0 c1
      have hix0 : (0 : Int) < (([((x : Int), (x : Int))] : List S.R2).length : Int) := by simp
      have TC := hid ((Touch.refl (fun _ => False) wr).alloc (.cells #[.int .i64 (x : Nat), .int .i64 (x : Nat)] 38))
      have KK := hid (KB0.out q (wr.alloc (.cells #[.int .i64 (x : Nat), .int .i64 (x : Nat)] 38)) (B4.out.new TC.out) (R4.out.still TC.out).now)
      have T5 := hid (R4.out.still TC.out).touch
      clear RM KB0 B4 R4 TC T4
      go_wp2_with fail
      refine KK.out.mono ?_
      rintro e w6 ⟨rfl, v6, a6, c6, hrb, hrg, _⟩
      have P6 := hid (PutDone.mk v6 a6 c6 hrb.own hrb.blk hrg (T5.out.trans hrb.touch (fun k _ e => e)))
      clear hrb hrg KK c0 c1
      go_wp2
      go_roundg 0
      case measure => omega
      case rel => exact .inr ⟨rfl, rfl, P6.out⟩
    · obtain ⟨v6, a6, c6, hown, hblk, hrg, htc⟩ := hd
      have cq : wr.cell? ⟨q, 0, none⟩ = some v6 := by simp [World.cell?, hblk]
      obtain ⟨g, n, rfl, hg, hn, hcell⟩ := own_first41 hown
      have RG := hid hrg
      have T6 := hid (TA.out.trans htc (fun k hk e => by
        rcases e with e | e
        · have := HQ.out; omega
        · simp [Value.ownBlock] at e))
      clear hrg htc hown hblk
      go_wp2
      go_ret
      exact ⟨g, n, a6, c6, rfl, hg, hn, hcell, RG.out, T6.out⟩
end Go.Proofs.YtmokfheckngfiaaDoor

/- Has of a row: does a text fit; conditions: those told. -/
namespace Go.Proofs.YtmokfheckngfiaaDoor
open Go.RowKit
open Go.Lib

/-- Does a text fit into a row, from a place on? -/
def fitFrom (z : List S.R2) (s : ByteArray) (i : Nat) : Prop := ∀ k (h : k < z.length) (h' : k < s.size), k < i → (z[k]).1 ≤ (s[k].toNat : Int) ∧ (s[k].toNat : Int) ≤ (z[k]).2
set_option maxRecDepth 100000 in
set_option maxHeartbeats 4000000 in
theorem rowHas_short (a : Option Addr) (cap : Nat) (z : List S.R2) (s : ByteArray) (w : World) (hn : s.size ≠ z.length) :
    Calls Tryd.prog 19 #[.slice a z.length cap, .string s] w fun e w' => e = .returned (.bool false) ∧ Touch (fun _ => False) w w' := by
  have hnI : ¬ ((s.size : Int) = (z.length : Int)) := by omega
  go_enter Tryd.func19, Tryd.ntmps19
  go_wp2
  go_ret
  exact ⟨rfl, Touch.refl _ _⟩
def FitR (z : List S.R2) (s : ByteArray) (w : World) (e : Ending) (w' : World) : Prop := (∃ c, e = .returned (.bool c) ∧ (c = true ↔ fitFrom z s z.length)) ∧ Touch (fun _ => False) w w'
set_option maxRecDepth 100000 in
set_option maxHeartbeats 4000000 in
theorem rowHas_any (a : Option Addr) (cap : Nat) (z : List S.R2) (s : ByteArray) (w : World) (hl : S.Rg w a z) (hn : s.size = z.length) (hz : z.length ≤ 4) :
    Calls Tryd.prog 19 #[.slice a z.length cap, .string s] w fun e w' => FitR z s w e w' := by
  have HL := hid hl
  clear hl
  have hnI : (s.size : Int) = (z.length : Int) := by omega
  go_enter Tryd.func19, Tryd.ntmps19
  go_wp2_with fail
  go_loopg [15] z.length (fun gk i wr => ∃ k : Nat, k + gk = z.length ∧ i = .int .i64 (k : Nat) ∧ fitFrom z s k ∧ Touch (fun _ => False) w wr)
  case atStart => exact ⟨0, by omega, rfl, fun k _ _ h => by omega, Touch.refl _ _⟩
  case round =>
    obtain ⟨k, hk, rfl, hfit, htc⟩ := hrel
    have TC := hid htc
    have FT := hid hfit
    have R1 := hid (HL.out.new htc)
    clear htc hfit
    by_cases hlt : k < z.length
    · obtain ⟨b, o, ha, hbl, hcell⟩ : ∃ b o, a = some ⟨b, o, none⟩ ∧ b < wr.heap.size ∧ ∀ i (h : i < z.length), wr.cell? ⟨b, o + i * 2, none⟩ = some (.int .i64 (z[i]).1) ∧ wr.cell? ⟨b, o + i * 2 + 1, none⟩ = some (.int .i64 (z[i]).2) := by
        rcases R1.out with h | h
        · rw [h] at hlt; simp at hlt
        · exact h
      subst ha
      obtain ⟨d0, d1⟩ := hcell k hlt
      have hks : k < s.size := by omega
      have hksI : (k : Int) < (s.size : Int) := by omega
      have hkI : (k : Int) < (z.length : Int) := by omega
      obtain ⟨u, hu⟩ : ∃ u : Nat, u = s[k].toNat := ⟨_, rfl⟩
      have hbu : s[k].toNat = u := hu.symm
      have lu : u < 256 := by rw [hu]; exact UInt8.toNat_lt _
      have wu : IntKind.i64.wrap (u : Int) = (u : Int) := by rw [IntKind.wrap_i64]; omega
      have HU := hid hbu
      obtain ⟨r, hr⟩ : ∃ r, r = z[k] := ⟨_, rfl⟩
      have HR := hid hr
      rw [← hr] at d0 d1
      obtain ⟨x, y⟩ := r
      dsimp only at d0 d1
      clear hcell hr R1 hu
      have hXN := hid (show fitFrom z s (k + 1) ↔ x ≤ (u : Int) ∧ (u : Int) ≤ y from by
        constructor
        · intro h
          have := h k hlt hks (by omega)
          rw [← HR.out, HU.out] at this
          exact this
        · intro h j hj hj' hlt2
          rcases Nat.lt_or_ge j k with q | q
          · exact FT.out j hj hj' q
          · obtain rfl : j = k := by omega
            rw [← HR.out, HU.out]
            exact h)
      have hNO := hid (show ¬ fitFrom z s (k + 1) → ¬ fitFrom z s z.length from fun h g => h (fun j hj hj' _ => g j hj hj' hj))
      by_cases h1 : (u : Int) < x
      · have hNF := hid (hNO.out (fun g => by have := hXN.out.1 g; omega))
        go_wp2
        go_ret
        exact ⟨⟨_, rfl, by simp; exact hNF.out⟩, by first | exact (TC.out.alloc _) | exact ((TC.out.alloc _).drewN _)⟩
      · by_cases h2 : (u : Int) ≤ y
        · have h2' : ¬ (y < (u : Int)) := by omega
          go_wp2_with fail
          go_roundg (gk - 1)
          case measure => omega
          case rel => exact ⟨k + 1, by omega, by go_num, hXN.out.2 ⟨by omega, h2⟩, by first | exact (TC.out.alloc _) | exact ((TC.out.alloc _).drewN _)⟩
        · have h2' : y < (u : Int) := by omega
          have hNF := hid (hNO.out (fun g => by have := hXN.out.1 g; omega))
          go_wp2
          go_ret
          exact ⟨⟨_, rfl, by simp; exact hNF.out⟩, by first | exact (TC.out.alloc _) | exact ((TC.out.alloc _).drewN _)⟩
    · obtain rfl : k = z.length := by omega
      have FT2 := hid FT.out
      go_wp2
      go_ret
      exact ⟨⟨_, rfl, by simp; exact FT2.out⟩, TC.out⟩
end Go.Proofs.YtmokfheckngfiaaDoor
