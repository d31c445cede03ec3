/- Texts of this proof, one behind the other: what each says stands ahead of it. -/
import Derived.Test.YtflonocoihihaaaDoorM0
import Derived.Test.YtflonocoihihaaaDoorM7
import Derived.Test.YtflonocoihihaaaDoorM8
import Derived.ProofKit
import Derived.Deep.Slices
import Derived.Lib.SmallJoins
/- Same: are two lists of ranges one; no condition. -/
namespace Go.Proofs.YtflonocoihihaaaDoor
open Go.RowKit

set_option maxRecDepth 100000 in
set_option maxHeartbeats 4000000 in
theorem equal_same (a a' : Option Addr) (c c' : Nat) (l : List R2) (w : World) (h : Rg w a l) (h' : Rg w a' l) (hb : l.length ≤ 140737488351232) :
    Calls Tryd.prog 20 #[.slice a l.length c, .slice a' l.length c'] w fun e w' => e = .returned (.bool true) ∧ Touch (fun _ => False) w w' := by
  have HL := hid h
  have HL' := hid h'
  clear h h'
  go_enter Tryd.func20, Tryd.ntmps20
  go_wp2_with fail
  go_loopg [13] l.length (fun gk i wr => ∃ k : Nat, k + gk = l.length ∧ i = .int .i64 (k : Nat) ∧ Touch (fun _ => False) w wr)
  case atStart => exact ⟨0, by omega, rfl, Touch.refl _ _⟩
  case round =>
    obtain ⟨k, hk, rfl, htc⟩ := hrel
    have TC := hid htc
    have R1 := hid (HL.out.new htc)
    have R2 := hid (HL'.out.new htc)
    clear htc
    by_cases hlt : k < l.length
    · obtain ⟨b, o, ha, hbl, hcell⟩ : ∃ b o, a = some ⟨b, o, none⟩ ∧ b < wr.heap.size ∧ ∀ i (h : i < l.length), wr.cell? ⟨b, o + i * 2, none⟩ = some (.int .i64 (l[i]).1) ∧ wr.cell? ⟨b, o + i * 2 + 1, none⟩ = some (.int .i64 (l[i]).2) := by
        rcases R1.out with h | h
        · rw [h] at hlt; simp at hlt
        · exact h
      obtain ⟨b', o', ha', hbl', hcell'⟩ : ∃ b o, a' = some ⟨b, o, none⟩ ∧ b < wr.heap.size ∧ ∀ i (h : i < l.length), wr.cell? ⟨b, o + i * 2, none⟩ = some (.int .i64 (l[i]).1) ∧ wr.cell? ⟨b, o + i * 2 + 1, none⟩ = some (.int .i64 (l[i]).2) := by
        rcases R2.out with h | h
        · rw [h] at hlt; simp at hlt
        · exact h
      subst ha
      subst ha'
      obtain ⟨d0, d1⟩ := hcell k hlt
      obtain ⟨e0, e1⟩ := hcell' k hlt
      obtain ⟨r, hr⟩ : ∃ r, r = l[k] := ⟨_, rfl⟩
      rw [← hr] at d0 d1 e0 e1
      obtain ⟨x, y⟩ := r
      dsimp only at d0 d1 e0 e1
      have hkI : (k : Int) < (l.length : Int) := by omega
      clear hcell hcell' hr R1 R2
      go_wp2_with fail
      go_quiet (fail)
      go_wp2
      go_roundg (gk - 1)
      case measure => omega
      case rel => exact ⟨k + 1, by omega, by go_num, TC.out.drewN _⟩
    · obtain rfl : k = l.length := by omega
      go_wp2
      go_ret
      exact ⟨rfl, TC.out⟩

set_option maxRecDepth 100000 in
theorem same_yes (a a' : Option Addr) (c c' : Nat) (l : List R2) (w : World) (h : Rg w a l) (h' : Rg w a' l) (hb : l.length ≤ 140737488351232) :
    Calls Tryd.prog 8 #[.slice a l.length c, .slice a' l.length c'] w fun e w' => e = .returned (.bool true) ∧ Touch (fun _ => False) w w' := by
  have K := hid (equal_same a a' c c' l w h h' hb)
  clear h h'
  go_enter Tryd.func8, Tryd.ntmps8
  go_wp2_with fail
  refine K.out.mono ?_
  rintro e w1 ⟨rfl, tc⟩
  have TC := hid tc
  clear tc K
  go_wp2
  go_ret
  exact ⟨rfl, TC.out⟩
end Go.Proofs.YtflonocoihihaaaDoor

/- UcdGrows, the walk; conditions: the two tables lie there, the lists fit into memory. -/
namespace Go.Proofs.YtflonocoihihaaaDoor
open Go.RowKit

theorem Ow.cap2 {W0 wr : World} {ty : TypeId} {n cap : Nat} {a : Option Addr} {s : List R2} (h : Ow W0 wr ty (.slice a n cap) s) : s.length ≤ cap := by
  rcases h.own.2 with ⟨_, h0⟩ | ⟨g, cap', cur, hv, _, _, hle, _⟩
  · omega
  · simp only [Value.slice.injEq] at hv
    omega

set_option maxRecDepth 100000 in
set_option maxHeartbeats 8000000 in
theorem ucdGrows_walk (a1 : Option Addr) (c1 : Nat) (l : List R2) (a2 : Option Addr) (c2 : Nat) (m : List R2) (w : World) (ht : Tabs w) (hl : Rg w a1 l) (hb : l.length * 16 ≤ 140737488351232) (hm : Rg w a2 m) (hb2 : m.length * 16 ≤ 140737488351232) :
    Calls Tryd.prog 3 #[.slice a1 l.length c1, .slice a2 m.length c2] w fun e w' => e = .returned (.bool true) ∧ Touch (fun _ => False) w w' := by
  obtain ⟨i0, hi26, hz0, hz1, hz2⟩ := info_parts info33
  have HT := hid ht
  have HL := hid hl
  have HM := hid hm
  clear hl hm ht
  go_enter Tryd.func3, Tryd.ntmps3
  go_wp2_with fail
  refine (speaks_yes w HT.out).mono ?_
  rintro e w1 ⟨rfl, tc⟩
  have T := hid tc
  clear tc
  go_wp2_with fail
  go_loopg [5, 7] l.length (fun gk v i wq => ∃ k : Nat, k + gk = l.length ∧ i = .int .i64 (k : Nat) ∧ OwE w1 wq 26 v (l.take k))
  case atStart => exact ⟨0, by omega, rfl, OwE.nil _ _⟩
  case round =>
    obtain ⟨k, hk, rfl, h4⟩ := hrel
    have O4 := hid h4
    have HLR := hid (HL.out.new (T.out.trans h4.touch (fun _ _ e => e)))
    obtain ⟨a4, c4, hv4⟩ := own_shape h4.own
    subst hv4
    clear h4
    have htl : (l.take k).length = k := by rw [List.length_take]; omega
    rw [htl] at O4 ⊢
    by_cases hlt : k < l.length
    · obtain ⟨b, o, ha, hbl, hcell⟩ : ∃ b o, a1 = some ⟨b, o, none⟩ ∧ b < wr.heap.size ∧ ∀ i (h : i < l.length), wr.cell? ⟨b, o + i * 2, none⟩ = some (.int .i64 (l[i]).1) ∧ wr.cell? ⟨b, o + i * 2 + 1, none⟩ = some (.int .i64 (l[i]).2) := by
        rcases HLR.out with h | h
        · rw [h] at hlt; simp at hlt
        · exact h
      subst ha
      obtain ⟨d0, d1⟩ := hcell k hlt
      obtain ⟨r, hr⟩ : ∃ r, r = l[k] := ⟨_, rfl⟩
      have HTK := hid (show l.take (k + 1) = l.take k ++ [r] from by rw [hr, List.take_succ_eq_append_getElem hlt])
      rw [← hr] at d0 d1
      obtain ⟨x, y⟩ := r
      dsimp only at d0 d1
      clear hcell hr htl HLR
      obtain ⟨s, hs⟩ : ∃ s, s = l.take k := ⟨_, rfl⟩
      have hsl : s.length ≤ k := by rw [hs, List.length_take]; omega
      rw [← hs] at O4 HTK
      clear hs
      go_wp2_with (at_builtin; refine wpList_append_own_at _ rfl _ _ 24 rfl 0 26 i0 (.agg #[.int .i64 0, .int .i64 0]) 2 16 Tryd.underlying24 hi26 hz0 hz1 hz2 rfl (by decide) _ _ _ rfl (O4.out.own.alloc _) ⟨wr.heap.size, 0, none⟩ 1 1 [.int .i64 x, .int .i64 y] rfl rfl (row_new wr [.int .i64 x, .int .i64 y] 26) (by intro u hu; simp at hu; rcases hu with rfl | rfl <;> rfl) (by unfold maxLen; omega) (by omega) (Nat.zero_le _) ?_)
      intro v4' w4 hown hgrow _ hat
      have P4 := hid (O4.out.more (xs := [(x, y)]) hown hgrow hat)
      clear hown hgrow hat d0 d1
      go_wp2
      go_roundg (gk - 1)
      case measure => omega
      case rel =>
        refine ⟨k + 1, by omega, by go_num, ?_⟩
        rw [HTK.out]
        exact P4.out
    · obtain rfl : k = l.length := by omega
      rw [List.take_length] at O4
      obtain ⟨a5, c5, hv5, hrg⟩ := O4.out.rg
      simp only [Value.slice.injEq] at hv5
      obtain ⟨rfl, _, rfl⟩ := hv5
      have RA := hid hrg
      replace T := hid (T.out.trans O4.out.touch (fun _ _ e => e))
      clear hrg O4 HLR htl hlt hk
      go_wp2_with fail
      go_loopg [6, 8] m.length (fun gk v i wq => ∃ k : Nat, k + gk = m.length ∧ i = .int .i64 (k : Nat) ∧ OwE wr wq 26 v (m.take k))
      case atStart => exact ⟨0, by omega, rfl, OwE.nil _ _⟩
      case round =>
        obtain ⟨k, hk, rfl, h4⟩ := hrel
        have O4 := hid h4
        have HLR := hid (HM.out.new (T.out.trans h4.touch (fun _ _ e => e)))
        obtain ⟨a4, c4, hv4⟩ := own_shape h4.own
        subst hv4
        clear h4
        have htl : (m.take k).length = k := by rw [List.length_take]; omega
        rw [htl] at O4 ⊢
        by_cases hlt : k < m.length
        · obtain ⟨b, o, ha, hbl, hcell⟩ : ∃ b o, a2 = some ⟨b, o, none⟩ ∧ b < wr.heap.size ∧ ∀ i (h : i < m.length), wr.cell? ⟨b, o + i * 2, none⟩ = some (.int .i64 (m[i]).1) ∧ wr.cell? ⟨b, o + i * 2 + 1, none⟩ = some (.int .i64 (m[i]).2) := by
            rcases HLR.out with h | h
            · rw [h] at hlt; simp at hlt
            · exact h
          subst ha
          obtain ⟨d0, d1⟩ := hcell k hlt
          obtain ⟨r, hr⟩ : ∃ r, r = m[k] := ⟨_, rfl⟩
          have HTK := hid (show m.take (k + 1) = m.take k ++ [r] from by rw [hr, List.take_succ_eq_append_getElem hlt])
          rw [← hr] at d0 d1
          obtain ⟨x, y⟩ := r
          dsimp only at d0 d1
          clear hcell hr htl HLR
          obtain ⟨s, hs⟩ : ∃ s, s = m.take k := ⟨_, rfl⟩
          have hsl : s.length ≤ k := by rw [hs, List.length_take]; omega
          rw [← hs] at O4 HTK
          clear hs
          go_wp2_with (at_builtin; refine wpList_append_own_at _ rfl _ _ 24 rfl 0 26 i0 (.agg #[.int .i64 0, .int .i64 0]) 2 16 Tryd.underlying24 hi26 hz0 hz1 hz2 rfl (by decide) _ _ _ rfl (O4.out.own.alloc _) ⟨wr.heap.size, 0, none⟩ 1 1 [.int .i64 x, .int .i64 y] rfl rfl (row_new wr [.int .i64 x, .int .i64 y] 26) (by intro u hu; simp at hu; rcases hu with rfl | rfl <;> rfl) (by unfold maxLen; omega) (by omega) (Nat.zero_le _) ?_)
          intro v4' w4 hown hgrow _ hat
          have P4 := hid (O4.out.more (xs := [(x, y)]) hown hgrow hat)
          clear hown hgrow hat d0 d1
          go_wp2
          go_roundg (gk - 1)
          case measure => omega
          case rel =>
            refine ⟨k + 1, by omega, by go_num, ?_⟩
            rw [HTK.out]
            exact P4.out
        · obtain rfl : k = m.length := by omega
          rw [List.take_length] at O4
          obtain ⟨a6, c6, hv6, hrg⟩ := O4.out.rg
          simp only [Value.slice.injEq] at hv6
          obtain ⟨rfl, _, rfl⟩ := hv6
          have RB := hid hrg
          replace RA := hid (RA.out.new O4.out.touch)
          replace T := hid (T.out.trans O4.out.touch (fun _ _ e => e))
          clear hrg O4 HLR htl hlt hk
          go_wp2_with fail
          refine (of_says _ _ l _ RA.out hb).mono ?_
          rintro e v1w ⟨v, s, rfl, hcn, hin, ow⟩
          obtain ⟨a_s, c_s, hv, hrg⟩ := own_rg ow.own
          subst hv
          have CP_s := hid ow.cap2
          have C_s := hid hcn
          have I_s := hid hin
          replace RA := hid (RA.out.new ow.touch)
          replace RB := hid (RB.out.new ow.touch)
          replace T := hid (T.out.trans ow.touch (fun _ _ e => e))
          have Rs := hid hrg
          clear ow hcn hin hrg
          clear RA
          go_wp2_with fail
          refine (of_says _ _ m _ RB.out hb2).mono ?_
          rintro e v2w ⟨v, t, rfl, hcn, hin, ow⟩
          obtain ⟨a_t, c_t, hv, hrg⟩ := own_rg ow.own
          subst hv
          have CP_t := hid ow.cap2
          have C_t := hid hcn
          have I_t := hid hin
          replace RB := hid (RB.out.new ow.touch)
          replace Rs := hid (Rs.out.new ow.touch)
          replace T := hid (T.out.trans ow.touch (fun _ _ e => e))
          have Rt := hid hrg
          clear ow hcn hin hrg
          clear RB
          go_wp2_with fail
          refine (or_says a_s a_t c_s c_t s t _ Rs.out Rt.out C_s.out C_t.out).mono ?_
          rintro e v3w ⟨v, o, rfl, hcn, hin, ow⟩
          obtain ⟨a_o, c_o, hv, hrg⟩ := own_rg ow.own
          subst hv
          have CP_o := hid ow.cap
          have C_o := hid hcn
          have I_o := hid hin
          replace Rs := hid (Rs.out.new ow.touch)
          replace Rt := hid (Rt.out.new ow.touch)
          replace T := hid (T.out.trans ow.touch (fun _ _ e => e))
          have Ro := hid hrg
          clear ow hcn hin hrg
          go_wp2_with fail
          refine (close_any a_o c_o o _ (HT.out.new T.out) Ro.out C_o.out).mono ?_
          rintro e v4w ⟨v, both, rfl, hcn, hin, ow⟩
          obtain ⟨a_both, c_both, hv, hrg⟩ := own_rg ow.own
          subst hv
          have CP_both := hid ow.cap
          have C_both := hid hcn
          have I_both := hid hin
          replace Rs := hid (Rs.out.new ow.touch)
          replace Rt := hid (Rt.out.new ow.touch)
          replace Ro := hid (Ro.out.new ow.touch)
          replace T := hid (T.out.trans ow.touch (fun _ _ e => e))
          have Rboth := hid hrg
          clear ow hcn hin hrg
          clear Ro
          go_wp2_with fail
          refine (close_any a_s c_s s _ (HT.out.new T.out) Rs.out C_s.out).mono ?_
          rintro e v5w ⟨v, x, rfl, hcn, hin, ow⟩
          obtain ⟨a_x, c_x, hv, hrg⟩ := own_rg ow.own
          subst hv
          have CP_x := hid ow.cap
          have C_x := hid hcn
          have I_x := hid hin
          replace Rs := hid (Rs.out.new ow.touch)
          replace Rt := hid (Rt.out.new ow.touch)
          replace Rboth := hid (Rboth.out.new ow.touch)
          replace T := hid (T.out.trans ow.touch (fun _ _ e => e))
          have Rx := hid hrg
          clear ow hcn hin hrg
          go_wp2_with fail
          refine (close_any a_t c_t t _ (HT.out.new T.out) Rt.out C_t.out).mono ?_
          rintro e v6w ⟨v, y, rfl, hcn, hin, ow⟩
          obtain ⟨a_y, c_y, hv, hrg⟩ := own_rg ow.own
          subst hv
          have CP_y := hid ow.cap
          have C_y := hid hcn
          have I_y := hid hin
          replace Rs := hid (Rs.out.new ow.touch)
          replace Rt := hid (Rt.out.new ow.touch)
          replace Rboth := hid (Rboth.out.new ow.touch)
          replace Rx := hid (Rx.out.new ow.touch)
          replace T := hid (T.out.trans ow.touch (fun _ _ e => e))
          have Ry := hid hrg
          clear ow hcn hin hrg
          go_wp2_with fail
          refine (or_says a_x a_y c_x c_y x y _ Rx.out Ry.out C_x.out C_y.out).mono ?_
          rintro e v7w ⟨v, z, rfl, hcn, hin, ow⟩
          obtain ⟨a_z, c_z, hv, hrg⟩ := own_rg ow.own
          subst hv
          have CP_z := hid ow.cap
          have C_z := hid hcn
          have I_z := hid hin
          replace Rs := hid (Rs.out.new ow.touch)
          replace Rt := hid (Rt.out.new ow.touch)
          replace Rboth := hid (Rboth.out.new ow.touch)
          replace Rx := hid (Rx.out.new ow.touch)
          replace Ry := hid (Ry.out.new ow.touch)
          replace T := hid (T.out.trans ow.touch (fun _ _ e => e))
          have Rz := hid hrg
          clear ow hcn hin hrg
          obtain rfl : both = z := canon_one C_both.out C_z.out (fun q => by
            rw [I_both.out q, I_z.out q, I_x.out q, I_y.out q]
            exact clo_or I_o.out q)
          go_wp2_with fail
          refine (same_yes a_both a_z c_both c_z both _ Rboth.out Rz.out (by have := canon_len C_both.out; omega)).mono ?_
          rintro e v8w ⟨rfl, tq⟩
          replace Rs := hid (Rs.out.new tq)
          replace Rt := hid (Rt.out.new tq)
          replace Rboth := hid (Rboth.out.new tq)
          replace Rx := hid (Rx.out.new tq)
          replace Ry := hid (Ry.out.new tq)
          replace Rz := hid (Rz.out.new tq)
          replace T := hid (T.out.trans tq (fun _ _ e => e))
          clear tq
          clear Rx Ry Rz I_y C_y CP_y CP_z
          go_wp2_with fail
          refine (close_any a_s c_s s _ (HT.out.new T.out) Rs.out C_s.out).mono ?_
          rintro e v9w ⟨v, x2, rfl, hcn, hin, ow⟩
          obtain ⟨a_x2, c_x2, hv, hrg⟩ := own_rg ow.own
          subst hv
          have CP_x2 := hid ow.cap
          have C_x2 := hid hcn
          have I_x2 := hid hin
          replace Rs := hid (Rs.out.new ow.touch)
          replace Rt := hid (Rt.out.new ow.touch)
          replace Rboth := hid (Rboth.out.new ow.touch)
          replace T := hid (T.out.trans ow.touch (fun _ _ e => e))
          have Rx2 := hid hrg
          clear ow hcn hin hrg
          go_wp2_with fail
          refine (less_says a_x2 a_both c_x2 c_both x2 both _ Rx2.out Rboth.out CP_x2.out C_x2.out C_both.out).mono ?_
          rintro e v10w ⟨v, d, rfl, hcn, hin, ow⟩
          obtain ⟨a_d, c_d, hv, hrg⟩ := own_rg ow.own
          subst hv
          have CP_d := hid ow.cap
          have C_d := hid hcn
          have I_d := hid hin
          replace Rs := hid (Rs.out.new ow.touch)
          replace Rt := hid (Rt.out.new ow.touch)
          replace Rboth := hid (Rboth.out.new ow.touch)
          replace Rx2 := hid (Rx2.out.new ow.touch)
          replace T := hid (T.out.trans ow.touch (fun _ _ e => e))
          have Rd := hid hrg
          clear ow hcn hin hrg
          obtain rfl : d = [] := canon_none C_d.out (fun q h => by
            rw [I_d.out q, I_x2.out q, I_both.out q] at h
            exact h.2 ((clo_or I_o.out q).2 (.inl h.1)))
          have KS := hid (fun wq (h : Rg wq a_d []) => size_says a_d c_d [] wq h C_d.out)
          rw [sizeL_nil] at KS
          go_wp2_with fail
          refine (KS.out _ Rd.out).mono ?_
          rintro e v11w ⟨rfl, tq⟩
          replace Rs := hid (Rs.out.new tq)
          replace Rt := hid (Rt.out.new tq)
          replace Rboth := hid (Rboth.out.new tq)
          replace Rx2 := hid (Rx2.out.new tq)
          replace Rd := hid (Rd.out.new tq)
          replace T := hid (T.out.trans tq (fun _ _ e => e))
          clear tq
          clear Rx2 Rd KS
          go_wp2_with fail
          refine (close_any a_s c_s s _ (HT.out.new T.out) Rs.out C_s.out).mono ?_
          rintro e v12w ⟨v, x3, rfl, hcn, hin, ow⟩
          obtain ⟨a_x3, c_x3, hv, hrg⟩ := own_rg ow.own
          subst hv
          have CP_x3 := hid ow.cap
          have C_x3 := hid hcn
          have I_x3 := hid hin
          replace Rs := hid (Rs.out.new ow.touch)
          replace Rt := hid (Rt.out.new ow.touch)
          replace Rboth := hid (Rboth.out.new ow.touch)
          replace T := hid (T.out.trans ow.touch (fun _ _ e => e))
          have Rx3 := hid hrg
          clear ow hcn hin hrg
          go_wp2_with fail
          refine (less_says a_s a_x3 c_s c_x3 s x3 _ Rs.out Rx3.out CP_s.out C_s.out C_x3.out).mono ?_
          rintro e v13w ⟨v, d2, rfl, hcn, hin, ow⟩
          obtain ⟨a_d2, c_d2, hv, hrg⟩ := own_rg ow.own
          subst hv
          have CP_d2 := hid ow.cap
          have C_d2 := hid hcn
          have I_d2 := hid hin
          replace Rs := hid (Rs.out.new ow.touch)
          replace Rt := hid (Rt.out.new ow.touch)
          replace Rboth := hid (Rboth.out.new ow.touch)
          replace Rx3 := hid (Rx3.out.new ow.touch)
          replace T := hid (T.out.trans ow.touch (fun _ _ e => e))
          have Rd2 := hid hrg
          clear ow hcn hin hrg
          obtain rfl : d2 = [] := canon_none C_d2.out (fun q h => by
            rw [I_d2.out q, I_x3.out q] at h
            exact h.2 (.inl h.1))
          have KS := hid (fun wq (h : Rg wq a_d2 []) => size_says a_d2 c_d2 [] wq h C_d2.out)
          rw [sizeL_nil] at KS
          go_wp2_with fail
          refine (KS.out _ Rd2.out).mono ?_
          rintro e v14w ⟨rfl, tq⟩
          replace Rs := hid (Rs.out.new tq)
          replace Rt := hid (Rt.out.new tq)
          replace Rboth := hid (Rboth.out.new tq)
          replace Rx3 := hid (Rx3.out.new tq)
          replace Rd2 := hid (Rd2.out.new tq)
          replace T := hid (T.out.trans tq (fun _ _ e => e))
          clear tq
          go_wp2
          go_ret
          exact ⟨by simp, T.out⟩
end Go.Proofs.YtflonocoihihaaaDoor

/- A list of ranges that came in, opened; no condition. -/
namespace Go.Proofs.YtflonocoihihaaaDoor
open Go.ChangeShapes Go.WideShapes Go.ChangeAt Go.RowKit Go.Deep Go.Joins

theorem cells27 : Tryd.prog.cellsOf 27 = 2 := by kernel_rfl
theorem cells3 : Tryd.prog.cellsOf 3 = 1 := by kernel_rfl
theorem two_of {l : List Value} (h : l.length = 2) : ∃ a b, l = [a, b] := by
  match l, h with
  | [a, b], _ => exact ⟨a, b, rfl⟩

def rangeD {H : Type} (q : R2) : DataW H := .agg [.lit (.int .i64 q.1), .lit (.int .i64 q.2)]

theorem open_ranges {H : Type} {enc : TypeId × Value → H} {W : World} {a : Option Addr} {len cap : Nat} {d : DataW H} {p : List MemPlace}
    (h : DataW.Trod enc Tryd.prog W 0 (fun _ => true) true 22 (.slice a len cap) d p) :
    (a = none ∧ len = 0 ∧ cap = 0 ∧ d = .nil) ∨ ∃ (x : Addr) (q : Nat → R2) (sp : List (DataW H)), a = some x ∧ len ≤ cap ∧ sp.length = cap - len ∧
      d = .slice ((List.range len).map fun i => rangeD (q i)) sp ∧
      ∀ i, i < len → W.cell? (x.add (i * 2)) = some (.int .i64 (q i).1) ∧ W.cell? (x.add (i * 2 + 1)) = some (.int .i64 (q i).2) := by
  obtain ⟨fuel, hf⟩ := h
  rcases open_slice Tryd.underlying22 hf with ⟨hcs, hx⟩ | ⟨x, l, c, m, n, D, Pl, hcs, _, hl, _, hmm, hx, hel⟩
  · simp [Value.cells] at hcs
    obtain ⟨rfl, rfl, rfl⟩ := hcs
    simp only [Prod.mk.injEq] at hx
    exact .inl ⟨rfl, rfl, rfl, hx.1⟩
  · simp [Value.cells] at hcs
    obtain ⟨rfl, rfl, rfl⟩ := hcs
    simp only [Prod.mk.injEq] at hx
    have each : ∀ i, i < len → ∃ q : R2, D i = rangeD q ∧ W.cell? (x.add (i * 2)) = some (.int .i64 q.1) ∧ W.cell? (x.add (i * 2 + 1)) = some (.int .i64 q.2) := by
      intro i hi
      obtain ⟨cs', h1, h2⟩ := hel i (by rw [hmm]; simp; omega)
      rw [cells27] at h1
      obtain ⟨_, hlen, hcell⟩ := World.cells?_some h1
      obtain ⟨y0, y1, k, hy, _, g0, g1⟩ := trod_struct2 Tryd.underlying27 h2
      obtain ⟨v0, v1, rfl⟩ := two_of hlen
      have e0 := hcell 0 (by omega)
      have e1 := hcell 1 (by omega)
      rw [add_add] at e0 e1
      simp only [cells3, List.drop_zero, List.drop_succ_cons, List.take_succ_cons, List.take_zero] at g0 g1
      obtain ⟨a, ha, ya, _⟩ := DataW.trod_int Tryd.underlying3 g0
      obtain ⟨n', hn, yn, _⟩ := DataW.trod_int Tryd.underlying3 g1
      simp only [List.cons.injEq, and_true] at ha hn
      subst ha hn ya yn
      simp only [Prod.mk.injEq] at hy
      exact ⟨(a, n'), hy.1, by simpa using e0, by simpa using e1⟩
    obtain ⟨q, hq⟩ := choose_lt each
    refine .inr ⟨x, q, (List.range (m - len)).map fun j => D (len + j), rfl, hl, ?_, ?_, fun i hi => (hq i hi).2⟩
    · simp [hmm]
    · rw [hx.1]
      congr 1
      apply List.map_congr_left
      intro i hi
      exact (hq i (by simpa using hi)).1

theorem rg_of {w : World} {x : Addr} {len : Nat} {q : Nat → R2} (h : ∀ i, i < len → w.cell? (x.add (i * 2)) = some (.int .i64 (q i).1) ∧ w.cell? (x.add (i * 2 + 1)) = some (.int .i64 (q i).2)) :
    Rg w (some x) ((List.range len).map q) := by
  by_cases h0 : len = 0
  · subst h0
    exact .inl rfl
  · obtain ⟨b, off, spot⟩ := x
    have hspot : spot = none := by simpa [Addr.add] using World.cell?_spot (h 0 (by omega)).1
    subst hspot
    have e : ∀ j, (⟨b, off, none⟩ : Addr).add j = ⟨b, off + j, none⟩ := by intro j; unfold Addr.add; split <;> simp_all
    refine .inr ⟨b, off, rfl, ?_, fun i hi => ?_⟩
    · have hb := World.block_lt_of_cell? w _ (h 0 (by omega)).1
      rw [e] at hb
      exact hb
    · have hi' : i < len := by simpa using hi
      have := h i hi'
      simp only [e] at this
      simpa [Nat.add_assoc] using this
end Go.Proofs.YtflonocoihihaaaDoor
