/- Texts of this proof, one behind the other: what each says stands ahead of it. -/
import Derived.Test.YtnngemdpoemhgaaDoorM8
import Derived.Test.YtnngemdpoemhgaaDoorM5
import Derived.Test.YtnngemdpoemhgaaDoorM7
import Derived.Test.YtnngemdpoemhgaaDoorM6
/- Not of a set: what it answers; no condition beside those told. -/
namespace Go.Proofs.YtnngemdpoemhgaaDoor
open Go.RowKit

theorem notAcc_step (s : List R2) (k : Nat) (h : k < s.length) : notAcc (s.take (k + 1)) = nstep (notAcc (s.take k)) s[k] := by
  unfold notAcc
  rw [List.take_succ_eq_append_getElem h, List.foldl_append]
  rfl
theorem notAcc_len (s : List R2) : ∀ k, k ≤ s.length → (notAcc (s.take k)).1.length ≤ k
  | 0, _ => by simp [notAcc]
  | k + 1, h => by
    have := notAcc_len s k (by omega)
    rw [notAcc_step s k (by omega)]
    unfold nstep
    dsimp only
    split
    · rw [List.length_append]
      simp
      omega
    · omega
theorem notAcc_next {s : List R2} (hs : ∀ r ∈ s, inB r) : ∀ k, k ≤ s.length → 0 ≤ (notAcc (s.take k)).2 ∧ (notAcc (s.take k)).2 ≤ 1114112
  | 0, _ => by simp [notAcc]
  | k + 1, h => by
    rw [notAcc_step s k (by omega)]
    have := hs s[k] (List.getElem_mem _)
    unfold inB at this
    unfold nstep
    dsimp only
    omega

set_option maxRecDepth 100000 in
set_option maxHeartbeats 4000000 in
theorem not_any (a : Option Addr) (cap : Nat) (s : List R2) (w : World) (hl : Rg w a s) (hs : ∀ r ∈ s, inB r) (hb : s.length ≤ 1048576) :
    Calls Tryd.prog 40 #[.slice a s.length cap] w fun e w' => ∃ v, e = .returned v ∧ OwE w w' 33 v (notL s) := by
  obtain ⟨i0, hi33, hz0, hz1, hz2⟩ := info_parts info33
  have HL := hid hl
  have HIN := hid hs
  clear hl hs
  go_enter Tryd.func40, Tryd.ntmps40
  go_wp2_with fail
  go_loopg [3, 4, 9] s.length (fun gk v n i wr => ∃ k : Nat, k + gk = s.length ∧ i = .int .i64 (k : Nat) ∧ n = .int .i64 (notAcc (s.take k)).2 ∧ OwE w wr 33 v (notAcc (s.take k)).1)
  case atStart => exact ⟨0, by omega, rfl, rfl, OwE.nil _ _⟩
  case round =>
    obtain ⟨k, hk, rfl, rfl, how⟩ := hrel
    have OW := hid how
    have HLR := hid (HL.out.new how.touch)
    have hlen := notAcc_len s k (by omega)
    have hnx := notAcc_next HIN.out k (by omega)
    obtain ⟨av, cv, hav⟩ := own_shape how.own
    subst hav
    clear how
    by_cases hlt : k < s.length
    · obtain ⟨b, o, ha, hbl, hcell⟩ : ∃ b o, a = some ⟨b, o, none⟩ ∧ b < wr.heap.size ∧ ∀ i (h : i < s.length), wr.cell? ⟨b, o + i * 2, none⟩ = some (.int .i64 (s[i]).1) ∧ wr.cell? ⟨b, o + i * 2 + 1, none⟩ = some (.int .i64 (s[i]).2) := by
        rcases HLR.out with h | h
        · rw [h] at hlt; simp at hlt
        · exact h
      subst ha
      obtain ⟨d0, d1⟩ := hcell k hlt
      have hri := HIN.out s[k] (List.getElem_mem hlt)
      have NS := hid (notAcc_step s k hlt)
      obtain ⟨r, hr⟩ : ∃ r, r = s[k] := ⟨_, rfl⟩
      rw [← hr] at d0 d1 hri NS
      obtain ⟨x, y⟩ := r
      unfold inB at hri
      dsimp only at d0 d1 hri
      clear hcell hr
      obtain ⟨q, hq⟩ : ∃ q, q = notAcc (s.take k) := ⟨_, rfl⟩
      rw [← hq] at OW NS hlen hnx ⊢
      obtain ⟨ot, n⟩ := q
      dsimp only at OW NS hlen hnx ⊢
      clear hq
      obtain ⟨M, hM⟩ : ∃ M, M = ot.length := ⟨_, rfl⟩
      rw [← hM] at OW ⊢
      have HM := hid hM
      clear hM
      go_upto_region 6 with fail
      obtain ⟨rb, hrb⟩ : ∃ rb, rb = wr.heap.size := ⟨_, rfl⟩
      have OA := hid (OW.out.still ((Touch.refl _ wr).alloc (.cells #[.int .i64 x, .int .i64 y] 33)))
      have RB := hid (show (wr.alloc (.cells #[.int .i64 x, .int .i64 y] 33)).heap[rb]? = some (.cells #[.int .i64 x, .int .i64 y] 33 (0, 0)) from by rw [hrb]; exact three_new _ _ _)
      have HOWN := hid (show ∀ g, (Value.slice av M cv).ownBlock = some g → g ≠ rb from fun g e => by
        have := (OW.out.own.lt g e).2
        omega)
      rw [← hrb]
      clear hrb OW
      generalize wr.alloc (.cells #[.int .i64 x, .int .i64 y] 33) = wA at *
      have p0 := cell_two0 RB.out
      have p1 := cell_two1 RB.out
      clear d0 d1
      by_cases hc : n < x
      · go_wp2_with (at_builtin; refine wpList_append_own_at _ rfl _ _ 27 rfl 0 33 i0 (.agg #[.int .i64 0, .int .i64 0]) 2 16 Tryd.underlying27 hi33 hz0 hz1 hz2 rfl (by decide) _ _ _ rfl (OA.out.own.alloc _) ⟨wA.heap.size, 0, none⟩ 1 1 [.int .i64 n, .int .i64 (x - 1)] rfl rfl (row_new wA [.int .i64 n, .int .i64 (x - 1)] 33) (by intro u hu; simp at hu; rcases hu with rfl | rfl <;> rfl) (by unfold maxLen; omega) (by omega) (Nat.zero_le _) ?_)
        intro v' w4 hown hgrow _ hat
        have OC := hid (OA.out.more (xs := [(n, x - 1)]) hown hgrow hat)
        have hrbl := lt_of_block RB.out
        have RC := hid (show w4.heap[rb]? = some (.cells #[.int .i64 x, .int .i64 y] 33 (0, 0)) from by
          rw [hgrow.block rb (by simp; omega) (fun e => ?_), Below.heap_alloc _ _ _ hrbl]
          · exact RB.out
          · exact HOWN.out _ e.symm rfl)
        have q1 := cell_two1 RC.out
        clear hown hgrow hat p0 p1
        go_wp2
        go_roundg (gk - 1)
        case measure => omega
        case rel =>
          refine ⟨k + 1, by omega, by go_num, ?_, ?_⟩
          · rw [NS.out]
            rfl
          · rw [NS.out]
            unfold nstep
            dsimp only
            rw [if_pos (by omega)]
            exact OC.out
      · go_wp2
        go_roundg (gk - 1)
        case measure => omega
        case rel =>
          refine ⟨k + 1, by omega, by go_num, ?_, ?_⟩
          · rw [NS.out]
            rfl
          · rw [NS.out]
            unfold nstep
            dsimp only
            rw [if_neg (by omega)]
            exact OA.out
    · obtain rfl : k = s.length := by omega
      rw [List.take_length] at OW hlen hnx ⊢
      have NL := hid (show notL s = if (notAcc s).2 ≤ 1114111 then (notAcc s).1 ++ [((notAcc s).2, 1114111)] else (notAcc s).1 from rfl)
      obtain ⟨q, hq⟩ : ∃ q, q = notAcc s := ⟨_, rfl⟩
      rw [← hq] at OW NL hlen hnx ⊢
      obtain ⟨ot, n⟩ := q
      dsimp only at OW NL hlen hnx ⊢
      clear hq
      obtain ⟨M, hM⟩ : ∃ M, M = ot.length := ⟨_, rfl⟩
      rw [← hM] at OW ⊢
      have HM := hid hM
      clear hM
      by_cases hc : n ≤ 1114111
      · go_wp2_with (at_builtin; refine wpList_append_own_at _ rfl _ _ 27 rfl 0 33 i0 (.agg #[.int .i64 0, .int .i64 0]) 2 16 Tryd.underlying27 hi33 hz0 hz1 hz2 rfl (by decide) _ _ _ rfl (OW.out.own.alloc _) ⟨wr.heap.size, 0, none⟩ 1 1 [.int .i64 n, .int .i64 1114111] rfl rfl (row_new wr [.int .i64 n, .int .i64 1114111] 33) (by intro u hu; simp at hu; rcases hu with rfl | rfl <;> rfl) (by unfold maxLen; omega) (by omega) (Nat.zero_le _) ?_)
        intro v' w4 hown hgrow _ hat
        have OC := hid (OW.out.more (xs := [(n, 1114111)]) hown hgrow hat)
        have HC := hid hc
        clear hown hgrow hat hc
        obtain ⟨a5, c5, hv5⟩ := own_shape OC.out.own
        subst hv5
        go_wp2
        go_ret
        refine ⟨_, rfl, ?_⟩
        rw [NL.out, if_pos HC.out]
        exact OC.out
      · have HC := hid hc
        clear hc
        have hc2 : (1114111 : Int) < n := by have := HC.out; omega
        go_wp2
        go_ret
        refine ⟨_, rfl, ?_⟩
        rw [NL.out, if_neg (by have := HC.out; omega)]
        exact OW.out

theorem not_says (a : Option Addr) (cap : Nat) (s : List R2) (w : World) (hl : Rg w a s) (hs : Canon s) :
    Calls Tryd.prog 40 #[.slice a s.length cap] w fun e w' => ∃ v n, e = .returned v ∧ Canon n ∧ (∀ x, In x n ↔ (0 ≤ x ∧ x ≤ 1114111) ∧ ¬ In x s) ∧ OwE w w' 33 v n := by
  refine (not_any a cap s w hl hs.in_ (by have := canon_len hs; omega)).mono ?_
  rintro e w' ⟨v, rfl, ow⟩
  have h := notL_good hs
  exact ⟨v, notL s, rfl, h.1, h.2, ow⟩
end Go.Proofs.YtnngemdpoemhgaaDoor

/- Perl of the six letters: what it answers; no condition. -/
namespace Go.Proofs.YtnngemdpoemhgaaDoor
open Go.RowKit

theorem ls_one {w : World} {a : Option Addr} {c : Nat} {l : List R2} (t : TypeId) (h : Rg w a l) : Ls (w.alloc (.cells #[.slice a l.length c] t)) w.heap.size [l] := by
  refine ⟨by simp, fun i hi => ?_⟩
  obtain rfl : i = 0 := by simpa using hi
  refine ⟨a, c, ?_, h.new ((Touch.refl _ w).alloc _)⟩
  rw [World.cell?_alloc_at _ _ _ _ (by simp)]
  rfl
theorem ls_three {w : World} {a1 a2 a3 : Option Addr} {c1 c2 c3 : Nat} {l m n : List R2} (t : TypeId) (h1 : Rg w a1 l) (h2 : Rg w a2 m) (h3 : Rg w a3 n) : Ls (w.alloc (.cells #[.slice a1 l.length c1, .slice a2 m.length c2, .slice a3 n.length c3] t)) w.heap.size [l, m, n] := by
  refine ⟨by simp, fun i hi => ?_⟩
  simp only [List.length_cons, List.length_nil] at hi
  have T := (Touch.refl (fun _ => False) w).alloc (.cells #[.slice a1 l.length c1, .slice a2 m.length c2, .slice a3 n.length c3] t)
  match i, hi with
  | 0, _ => exact ⟨a1, c1, by rw [World.cell?_alloc_at _ _ _ _ (by simp)]; rfl, h1.new T⟩
  | 1, _ => exact ⟨a2, c2, by rw [World.cell?_alloc_at _ _ _ _ (by simp)]; rfl, h2.new T⟩
  | 2, _ => exact ⟨a3, c3, by rw [World.cell?_alloc_at _ _ _ _ (by simp)]; rfl, h3.new T⟩

def lL : List R2 := lLu ++ lLl ++ lLo
set_option maxRecDepth 100000 in
set_option maxHeartbeats 4000000 in
theorem spans_L (w : World) : Calls Tryd.prog 29 #[.string ⟨#[76]⟩] w fun e w' => ∃ a c, e = .returned (.slice a lL.length c) ∧ Rg w' a lL ∧ Touch (fun _ => False) w w' := by
  go_enter Tryd.func29, Tryd.ntmps29
  go_wp2_with fail
  refine (spans_Lu w).mono ?_
  rintro e w1 ⟨a1, c1, rfl, r1, t1⟩
  have R1 := hid r1
  have T1 := hid t1
  clear r1 t1
  go_wp2_with fail
  refine (spans_Ll w1).mono ?_
  rintro e w2 ⟨a2, c2, rfl, r2, t2⟩
  have R2 := hid r2
  replace R1 := hid (R1.out.new t2)
  replace T1 := hid (T1.out.trans t2 (fun _ _ e => e))
  clear r2 t2
  go_wp2_with fail
  refine (spans_Lo w2).mono ?_
  rintro e w3 ⟨a3, c3, rfl, r3, t3⟩
  replace R1 := hid (R1.out.new t3)
  replace R2 := hid (R2.out.new t3)
  replace T1 := hid (T1.out.trans t3 (fun _ _ e => e))
  have LS := hid (ls_three (c1 := c1) (c2 := c2) (c3 := c3) 55 R1.out R2.out r3)
  replace T1 := hid (T1.out.alloc (.cells #[.slice a1 lLu.length c1, .slice a2 lLl.length c2, .slice a3 lLo.length c3] 55))
  clear r3 t3 R1 R2
  go_wp2_with fail
  generalize (w3.alloc (.cells #[.slice a1 lLu.length c1, .slice a2 lLl.length c2, .slice a3 lLo.length c3] 55)) = w4 at *
  refine (concatS_any w3.heap.size 3 [lLu, lLl, lLo] w4 LS.out (by decide) (by decide)).mono ?_
  rintro e w5 ⟨v, rfl, ow⟩
  obtain ⟨a, c, hv, hrg⟩ := ow.rg
  subst hv
  replace T1 := hid (T1.out.trans ow.touch (fun _ _ e => e))
  have RG := hid hrg
  clear ow hrg LS
  go_wp2
  go_ret
  exact ⟨a, c, rfl, RG.out, T1.out⟩

/-- What Perl answers: a set of some numbers. -/
def Perls (c : Nat) (l : List R2) (neg : Bool) : Prop := ∀ w : World, Calls Tryd.prog 17 #[.int .u8 c] w fun e w' => ∃ v s, e = .returned (.tuple #[v, .bool true]) ∧ Canon s ∧ (∀ x, In x s ↔ (0 ≤ x ∧ x ≤ 1114111) ∧ (if neg then ¬ In x l else In x l)) ∧ OwE w w' 33 v s

set_option maxRecDepth 100000 in
set_option maxHeartbeats 4000000 in
theorem perl_d : Perls 100 lNd false := by
  intro w
  go_enter Tryd.func17, Tryd.ntmps17
  go_wp2_with fail
  refine (spans_Nd w).mono ?_
  rintro e w1 ⟨a1, c1, rfl, r1, t1⟩
  have LS := hid (ls_one (c := c1) 55 r1)
  have T1 := hid (t1.alloc (.cells #[.slice a1 lNd.length c1] 55))
  clear r1 t1
  go_wp2_with fail
  generalize (w1.alloc (.cells #[.slice a1 lNd.length c1] 55)) = w2 at *
  refine (setOf_any w1.heap.size 1 [lNd] w2 LS.out (by decide) (by decide)).mono ?_
  rintro e w3 ⟨v, s, rfl, hcn, hin, ow⟩
  have OW := hid ow
  have HCN := hid hcn
  have HIN := hid hin
  obtain ⟨a, c, hv⟩ := own_shape ow.own
  subst hv
  clear ow hcn hin LS
  go_wp2
  go_ret2
  exact ⟨_, rfl, s, HCN.out, fun x => by rw [HIN.out x]; simp [List.flatten], ⟨OW.out.own, fun g e => Nat.le_trans T1.out.size (OW.out.new g e), T1.out.trans OW.out.touch (fun _ _ e => e)⟩⟩

set_option maxRecDepth 100000 in
set_option maxHeartbeats 4000000 in
theorem perl_s : Perls 115 lBl false := by
  intro w
  go_enter Tryd.func17, Tryd.ntmps17
  go_wp2_with fail
  refine (blanks_any w).mono ?_
  rintro e w1 ⟨a1, c1, rfl, r1, t1⟩
  have LS := hid (ls_one (c := c1) 55 r1)
  have T1 := hid (t1.alloc (.cells #[.slice a1 lBl.length c1] 55))
  clear r1 t1
  go_wp2_with fail
  generalize (w1.alloc (.cells #[.slice a1 lBl.length c1] 55)) = w2 at *
  refine (setOf_any w1.heap.size 1 [lBl] w2 LS.out (by decide) (by decide)).mono ?_
  rintro e w3 ⟨v, s, rfl, hcn, hin, ow⟩
  have OW := hid ow
  have HCN := hid hcn
  have HIN := hid hin
  obtain ⟨a, c, hv⟩ := own_shape ow.own
  subst hv
  clear ow hcn hin LS
  go_wp2
  go_ret2
  exact ⟨_, rfl, s, HCN.out, fun x => by rw [HIN.out x]; simp [List.flatten], ⟨OW.out.own, fun g e => Nat.le_trans T1.out.size (OW.out.new g e), T1.out.trans OW.out.touch (fun _ _ e => e)⟩⟩

def lW : List R2 := lL ++ lNd ++ lPc
set_option maxRecDepth 100000 in
set_option maxHeartbeats 4000000 in
theorem perl_w : Perls 119 lW false := by
  intro w
  go_enter Tryd.func17, Tryd.ntmps17
  go_wp2_with fail
  refine (spans_L w).mono ?_
  rintro e w1 ⟨a1, c1, rfl, r1, t1⟩
  have R1 := hid r1
  have T1 := hid t1
  clear r1 t1
  go_wp2_with fail
  refine (spans_Nd w1).mono ?_
  rintro e w2 ⟨a2, c2, rfl, r2, t2⟩
  have R2 := hid r2
  replace R1 := hid (R1.out.new t2)
  replace T1 := hid (T1.out.trans t2 (fun _ _ e => e))
  clear r2 t2
  go_wp2_with fail
  refine (spans_Pc w2).mono ?_
  rintro e w3 ⟨a3, c3, rfl, r3, t3⟩
  replace R1 := hid (R1.out.new t3)
  replace R2 := hid (R2.out.new t3)
  replace T1 := hid (T1.out.trans t3 (fun _ _ e => e))
  have LS := hid (ls_three (c1 := c1) (c2 := c2) (c3 := c3) 55 R1.out R2.out r3)
  replace T1 := hid (T1.out.alloc (.cells #[.slice a1 lL.length c1, .slice a2 lNd.length c2, .slice a3 lPc.length c3] 55))
  clear r3 t3 R1 R2
  go_wp2_with fail
  generalize (w3.alloc (.cells #[.slice a1 lL.length c1, .slice a2 lNd.length c2, .slice a3 lPc.length c3] 55)) = w4 at *
  refine (setOf_any w3.heap.size 3 [lL, lNd, lPc] w4 LS.out (by decide) (by decide)).mono ?_
  rintro e w5 ⟨v, s, rfl, hcn, hin, ow⟩
  have OW := hid ow
  have HCN := hid hcn
  have HIN := hid hin
  obtain ⟨a, c, hv⟩ := own_shape ow.own
  subst hv
  clear ow hcn hin LS
  go_wp2
  go_ret2
  exact ⟨_, rfl, s, HCN.out, fun x => by rw [HIN.out x]; simp [List.flatten, lW], ⟨OW.out.own, fun g e => Nat.le_trans T1.out.size (OW.out.new g e), T1.out.trans OW.out.touch (fun _ _ e => e)⟩⟩

set_option maxRecDepth 100000 in
set_option maxHeartbeats 4000000 in
theorem perl_D : Perls 68 lNd true := by
  intro w
  have K := hid (perl_d w)
  go_enter Tryd.func17, Tryd.ntmps17
  go_wp2_with fail
  refine K.out.mono ?_
  rintro e w1 ⟨v, s, rfl, hcn, hin, ow⟩
  obtain ⟨a, c, hv, hrg⟩ := ow.rg
  subst hv
  have T1 := hid ow.touch
  have HIN := hid hin
  have KN := hid (not_says a c s w1 hrg hcn)
  clear ow hcn hin hrg K
  go_wp2_with fail
  refine KN.out.mono ?_
  rintro e w2 ⟨v, n, rfl, hcn, hin, ow⟩
  have OW := hid ow
  have HCN := hid hcn
  have HI2 := hid hin
  obtain ⟨a', c', hv⟩ := own_shape ow.own
  subst hv
  clear ow hcn hin KN
  go_wp2
  go_ret2
  refine ⟨_, rfl, n, HCN.out, fun x => ?_, ⟨OW.out.own, fun g e => Nat.le_trans T1.out.size (OW.out.new g e), T1.out.trans OW.out.touch (fun _ _ e => e)⟩⟩
  rw [HI2.out x, HIN.out x]
  simp only [Bool.false_eq_true, if_false]
  constructor
  · exact fun h => ⟨h.1, fun k => h.2 ⟨h.1, k⟩⟩
  · exact fun h => ⟨h.1, fun k => h.2 k.2⟩

set_option maxRecDepth 100000 in
set_option maxHeartbeats 4000000 in
theorem perl_S : Perls 83 lBl true := by
  intro w
  have K := hid (perl_s w)
  go_enter Tryd.func17, Tryd.ntmps17
  go_wp2_with fail
  refine K.out.mono ?_
  rintro e w1 ⟨v, s, rfl, hcn, hin, ow⟩
  obtain ⟨a, c, hv, hrg⟩ := ow.rg
  subst hv
  have T1 := hid ow.touch
  have HIN := hid hin
  have KN := hid (not_says a c s w1 hrg hcn)
  clear ow hcn hin hrg K
  go_wp2_with fail
  refine KN.out.mono ?_
  rintro e w2 ⟨v, n, rfl, hcn, hin, ow⟩
  have OW := hid ow
  have HCN := hid hcn
  have HI2 := hid hin
  obtain ⟨a', c', hv⟩ := own_shape ow.own
  subst hv
  clear ow hcn hin KN
  go_wp2
  go_ret2
  refine ⟨_, rfl, n, HCN.out, fun x => ?_, ⟨OW.out.own, fun g e => Nat.le_trans T1.out.size (OW.out.new g e), T1.out.trans OW.out.touch (fun _ _ e => e)⟩⟩
  rw [HI2.out x, HIN.out x]
  simp only [Bool.false_eq_true, if_false]
  constructor
  · exact fun h => ⟨h.1, fun k => h.2 ⟨h.1, k⟩⟩
  · exact fun h => ⟨h.1, fun k => h.2 k.2⟩

set_option maxRecDepth 100000 in
set_option maxHeartbeats 4000000 in
theorem perl_W : Perls 87 lW true := by
  intro w
  have K := hid (perl_w w)
  go_enter Tryd.func17, Tryd.ntmps17
  go_wp2_with fail
  refine K.out.mono ?_
  rintro e w1 ⟨v, s, rfl, hcn, hin, ow⟩
  obtain ⟨a, c, hv, hrg⟩ := ow.rg
  subst hv
  have T1 := hid ow.touch
  have HIN := hid hin
  have KN := hid (not_says a c s w1 hrg hcn)
  clear ow hcn hin hrg K
  go_wp2_with fail
  refine KN.out.mono ?_
  rintro e w2 ⟨v, n, rfl, hcn, hin, ow⟩
  have OW := hid ow
  have HCN := hid hcn
  have HI2 := hid hin
  obtain ⟨a', c', hv⟩ := own_shape ow.own
  subst hv
  clear ow hcn hin KN
  go_wp2
  go_ret2
  refine ⟨_, rfl, n, HCN.out, fun x => ?_, ⟨OW.out.own, fun g e => Nat.le_trans T1.out.size (OW.out.new g e), T1.out.trans OW.out.touch (fun _ _ e => e)⟩⟩
  rw [HI2.out x, HIN.out x]
  simp only [Bool.false_eq_true, if_false]
  constructor
  · exact fun h => ⟨h.1, fun k => h.2 ⟨h.1, k⟩⟩
  · exact fun h => ⟨h.1, fun k => h.2 k.2⟩

end Go.Proofs.YtnngemdpoemhgaaDoor

/- Class of the names that the laws ask for; no condition. -/
namespace Go.Proofs.YtnngemdpoemhgaaDoor
open Go.RowKit

def lP : List R2 := [(33, 35), (37, 42), (44, 47), (58, 59), (63, 64), (91, 93), (95, 95), (123, 123), (125, 125), (161, 161), (167, 167), (171, 171), (182, 183), (187, 187), (191, 191), (8208, 8231), (8255, 8256), (12289, 12291)]
set_option maxRecDepth 100000 in
theorem signs_any (w : World) : Calls Tryd.prog 48 #[] w fun e w' => ∃ a c, e = .returned (.slice a lP.length c) ∧ Rg w' a lP ∧ Touch (fun _ => False) w w' := by
  go_enter Tryd.func48, Tryd.ntmps48
  go_wp2
  go_ret
  exact ⟨_, _, rfl, rg_alloc w lP 76, (Touch.refl _ w).alloc _⟩
set_option maxRecDepth 100000 in
theorem spans_P (w : World) : Calls Tryd.prog 29 #[.string ⟨#[80]⟩] w fun e w' => ∃ a c, e = .returned (.slice a lP.length c) ∧ Rg w' a lP ∧ Touch (fun _ => False) w w' := by
  go_enter Tryd.func29, Tryd.ntmps29
  go_wp2_with fail
  refine (signs_any w).mono ?_
  rintro e w1 ⟨a, c, rfl, r1, t1⟩
  have R1 := hid r1
  have T1 := hid t1
  clear r1 t1
  go_wp2
  go_ret
  exact ⟨a, c, rfl, R1.out, T1.out⟩

set_option maxRecDepth 100000 in
set_option maxHeartbeats 4000000 in
theorem class_any (s : ByteArray) (l : List R2) (hs : ∀ w : World, Calls Tryd.prog 29 #[.string s] w fun e w' => ∃ a c, e = .returned (.slice a l.length c) ∧ Rg w' a l ∧ Touch (fun _ => False) w w') (h0 : 0 < l.length) (hb : l.length ≤ 1000) (w : World) :
    Calls Tryd.prog 12 #[.string s] w fun e w' => ∃ v n, e = .returned (.tuple #[v, .bool true]) ∧ Canon n ∧ (∀ x, In x n ↔ (0 ≤ x ∧ x ≤ 1114111) ∧ In x l) ∧ OwE w w' 33 v n := by
  have HS := hid hs
  clear hs
  go_enter Tryd.func12, Tryd.ntmps12
  go_wp2_with fail
  refine (HS.out w).mono ?_
  rintro e w1 ⟨a1, c1, rfl, r1, t1⟩
  have LS := hid (ls_one (c := c1) 55 r1)
  have T1 := hid (t1.alloc (.cells #[.slice a1 l.length c1] 55))
  clear r1 t1
  have hI : (0 : Int) < (l.length : Int) := by omega
  go_wp2_with fail
  generalize (w1.alloc (.cells #[.slice a1 l.length c1] 55)) = w2 at *
  refine (setOf_any w1.heap.size 1 [l] w2 LS.out (by simp) (by simp; omega)).mono ?_
  rintro e w3 ⟨v, n, rfl, hcn, hin, ow⟩
  have OW := hid ow
  have HCN := hid hcn
  have HIN := hid hin
  obtain ⟨a, c, hv⟩ := own_shape ow.own
  subst hv
  clear ow hcn hin LS
  go_wp2
  go_ret2
  first
  | exact ⟨_, n, rfl, HCN.out, fun x => by rw [HIN.out x]; simp [List.flatten], ⟨OW.out.own, fun g e => Nat.le_trans T1.out.size (OW.out.new g e), T1.out.trans OW.out.touch (fun _ _ e => e)⟩⟩
  | exact ⟨_, rfl, n, HCN.out, fun x => by rw [HIN.out x]; simp [List.flatten], ⟨OW.out.own, fun g e => Nat.le_trans T1.out.size (OW.out.new g e), T1.out.trans OW.out.touch (fun _ _ e => e)⟩⟩

/-! ### At most one -/
def apartR (a b : R2) : Bool := decide (a.2 < b.1) || decide (b.2 < a.1)
def inR (r : Int) (a : R2) : Bool := decide (a.1 ≤ r) && decide (r ≤ a.2)
theorem one_only (r : Int) : ∀ l : List R2, l.Pairwise (fun a b => apartR a b = true) → l.countP (inR r) ≤ 1
  | [], _ => by simp
  | a :: l, h => by
    have hp := List.pairwise_cons.1 h
    have ih := one_only r l hp.2
    rw [List.countP_cons]
    by_cases ha : inR r a = true
    · have h0 : l.countP (inR r) = 0 := by
        rw [List.countP_eq_zero]
        intro b hb hbr
        have := hp.1 b hb
        simp only [apartR, inR, Bool.or_eq_true, Bool.and_eq_true, decide_eq_true_eq] at this ha hbr
        omega
      rw [h0, if_pos ha]
      omega
    · rw [if_neg ha]
      omega
theorem has_count (r : Int) (l : List R2) : (if hasB r l = true then 1 else 0) ≤ l.countP (inR r) := by
  by_cases h : hasB r l = true
  · rw [if_pos h]
    obtain ⟨q, hq, h1, h2⟩ := hasB_iff.1 h
    exact List.countP_pos_iff.2 ⟨q, hq, by simp [inR, h1, h2]⟩
  · rw [if_neg h]
    omega
def kindsL : List (List R2) := [lLu, lLl, lLo, lNd, lZs, lP]
def cn (r : Int) (k : Nat) : Nat := (kindsL.take k).countP (fun l => hasB r l)
theorem count_all (r : Int) : ∀ ks : List (List R2), ks.countP (fun l => hasB r l) ≤ ks.flatten.countP (inR r)
  | [] => by simp
  | l :: ks => by
    have ih := count_all r ks
    have h := has_count r l
    rw [List.countP_cons, List.flatten_cons, List.countP_append]
    omega
set_option maxRecDepth 1000000 in
theorem kinds_apart : kindsL.flatten.Pairwise (fun a b => apartR a b = true) := by decide
theorem cn_last (r : Int) : cn r 6 ≤ 1 := Nat.le_trans (count_all r kindsL) (one_only r _ kinds_apart)
theorem cn_step (r : Int) (k : Nat) (h : k < 6) (l : List R2) (hl : kindsL[k]? = some l) : cn r (k + 1) = cn r k + (if hasB r l = true then 1 else 0) := by
  have hk : k < kindsL.length := h
  rw [List.getElem?_eq_getElem hk] at hl
  unfold cn
  rw [List.take_succ_eq_append_getElem hk, List.countP_append, Option.some.inj hl, List.countP_singleton]
def withinB (l : List R2) : Bool := l.all fun a => decide (0 ≤ a.1) && decide (a.2 ≤ 1114111)
theorem has_set {s l : List R2} (h : ∀ x, In x s ↔ (0 ≤ x ∧ x ≤ 1114111) ∧ In x l) (hw : withinB l = true) (r : Int) : hasB r s = hasB r l := by
  rw [Bool.eq_iff_iff, hasB_iff, hasB_iff, h]
  refine ⟨fun q => q.2, fun q => ⟨?_, q⟩⟩
  obtain ⟨a, ha, h1, h2⟩ := q
  have := List.all_eq_true.1 hw a ha
  simp only [Bool.and_eq_true, decide_eq_true_eq] at this
  omega
def apartL (l m : List R2) : Bool := l.all fun a => m.all fun b => apartR a b
theorem apart_in {l m : List R2} (h : apartL l m = true) {x : Int} (h1 : In x l) (h2 : In x m) : False := by
  obtain ⟨a, ha, p1, p2⟩ := h1
  obtain ⟨b, hb, q1, q2⟩ := h2
  have := List.all_eq_true.1 (List.all_eq_true.1 h a ha) b hb
  simp only [apartR, Bool.or_eq_true, decide_eq_true_eq] at this
  omega
set_option maxRecDepth 1000000 in
theorem w_apart : apartL lW lBl = true := by decide

end Go.Proofs.YtnngemdpoemhgaaDoor

/- The letters A to Z, their orbits and what they close to, plain facts; no condition. -/
namespace Go.Proofs.YtnngemdpoemhgaaDoor

def letterQ (i : Nat) : Int := 65 + (i : Int)
def ones (l : List Int) : List R2 := l.map fun y => (y, y)
set_option maxRecDepth 1000000 in
theorem letters_close : (List.range 26).all (fun i => decide (moreL [(letterQ i, letterQ i)] (capsTo 7) = ones (orbS (letterQ i)))) = true := by decide +kernel
set_option maxRecDepth 1000000 in
theorem letters_facts : (List.range 26).all (fun i => decide (capOf (letterQ i) = letterQ i) && decide ((orbS (letterQ i))[0]? = some (letterQ i)) && decide ((orbS (letterQ i))[1]? = some (letterQ i + 32)) && hasB (letterQ i) lLu && hasB (letterQ i + 32) lLl && !hasB (letterQ i + 32) lLu && (ones (orbS (letterQ i))).all (fun a => decide (0 ≤ a.1) && decide (a.1 ≤ a.2) && decide (a.2 ≤ 1114111)) && decide ((ones (orbS (letterQ i))).Pairwise (fun a b => a.2 + 1 < b.1)) && decide (sizeL (ones (orbS (letterQ i))) = ((orbS (letterQ i)).length : Int)) && decide ((orbS (letterQ i)).length ≤ 3)) = true := by decide +kernel

/-- What holds of such a letter. -/
structure Letter (q : Int) : Prop where
  rng : 65 ≤ q ∧ q ≤ 90
  cap : capOf q = q
  o0 : (orbS q)[0]? = some q
  o1 : (orbS q)[1]? = some (q + 32)
  up : hasB q lLu = true
  low : hasB (q + 32) lLl = true
  notUp : hasB (q + 32) lLu = false
  canon : Canon (ones (orbS q))
  size : sizeL (ones (orbS q)) = ((orbS q).length : Int)
  few : (orbS q).length ≤ 3
  more : moreL [(q, q)] (capsTo 7) = ones (orbS q)
theorem letter (q : Int) (h : 65 ≤ q ∧ q ≤ 90) : Letter q := by
  obtain ⟨i, hi, rfl⟩ : ∃ i : Nat, i < 26 ∧ q = letterQ i := ⟨(q - 65).toNat, by omega, by unfold letterQ; omega⟩
  have h1 := of_decide_eq_true (List.all_eq_true.1 letters_close i (by simpa using hi))
  have h2 := List.all_eq_true.1 letters_facts i (by simpa using hi)
  simp only [Bool.and_eq_true, decide_eq_true_eq, Bool.not_eq_true', List.all_eq_true] at h2
  obtain ⟨⟨⟨⟨⟨⟨⟨⟨⟨a1, a2⟩, a3⟩, a4⟩, a5⟩, a6⟩, a7⟩, a8⟩, a9⟩, a10⟩ := h2
  exact ⟨h, a1, a2, a3, a4, a5, a6, ⟨fun r hr => by unfold inB; have := a7 r hr; omega, a8⟩, a9, a10, h1⟩
theorem in_ones (x : Int) (l : List Int) : In x (ones l) ↔ x ∈ l := by
  unfold In ones
  simp only [List.mem_map]
  constructor
  · rintro ⟨r, ⟨y, hy, rfl⟩, h1, h2⟩
    dsimp only at h1 h2
    rw [show x = y by omega]
    exact hy
  · exact fun h => ⟨(x, x), ⟨x, h, rfl⟩, Int.le_refl _, Int.le_refl _⟩
end Go.Proofs.YtnngemdpoemhgaaDoor

/- Size of a set; no condition beside those told. -/
namespace Go.Proofs.YtnngemdpoemhgaaDoor
open Go.RowKit

theorem size_take {s : List R2} (hs : ∀ r ∈ s, inB r) : ∀ k, k ≤ s.length → 0 ≤ sizeL (s.take k) ∧ sizeL (s.take k) ≤ 1114112 * (k : Int)
  | 0, _ => by simp [sizeL]
  | k + 1, h => by
    have h1 := size_take hs k (by omega)
    have h2 := hs s[k] (List.getElem_mem _)
    unfold inB at h2
    rw [List.take_succ_eq_append_getElem (by omega), sizeL_append, sizeL_cons, sizeL_nil]
    omega
theorem size_step {s : List R2} {k : Nat} (h : k < s.length) : sizeL (s.take (k + 1)) = sizeL (s.take k) + ((s[k]).2 - (s[k]).1 + 1) := by
  rw [List.take_succ_eq_append_getElem h, sizeL_append, sizeL_cons, sizeL_nil]
  omega

set_option maxRecDepth 100000 in
set_option maxHeartbeats 4000000 in
theorem size_any (a : Option Addr) (cap : Nat) (s : List R2) (w : World) (hl : Rg w a s) (hs : ∀ r ∈ s, inB r) (hb : s.length ≤ 1048576) :
    Calls Tryd.prog 16 #[.slice a s.length cap] w fun e w' => e = .returned (.int .i64 (sizeL s)) ∧ Touch (fun _ => False) w w' := by
  have HL := hid hl
  have HS := hid hs
  clear hl hs
  go_enter Tryd.func16, Tryd.ntmps16
  go_wp2_with fail
  go_loopg [3, 8] s.length (fun gk n i wr => ∃ k : Nat, k + gk = s.length ∧ i = .int .i64 (k : Nat) ∧ n = .int .i64 (sizeL (s.take k)) ∧ Touch (fun _ => False) w wr)
  case atStart => exact ⟨0, by omega, rfl, rfl, Touch.refl _ _⟩
  case round =>
    obtain ⟨k, hk, rfl, rfl, htc⟩ := hrel
    have TC := hid htc
    have R1 := hid (HL.out.new htc)
    clear htc
    have hsz := size_take HS.out k (by omega)
    by_cases hlt : k < s.length
    · obtain ⟨b, o, ha, hbl, hcell⟩ : ∃ b o, a = some ⟨b, o, none⟩ ∧ b < wr.heap.size ∧ ∀ i (h : i < s.length), wr.cell? ⟨b, o + i * 2, none⟩ = some (.int .i64 (s[i]).1) ∧ wr.cell? ⟨b, o + i * 2 + 1, none⟩ = some (.int .i64 (s[i]).2) := by
        rcases R1.out with h | h
        · rw [h] at hlt; simp at hlt
        · exact h
      subst ha
      obtain ⟨d0, d1⟩ := hcell k hlt
      have hr1 := HS.out s[k] (List.getElem_mem _)
      unfold inB at hr1
      have HST := hid (size_step hlt)
      obtain ⟨r, hr⟩ : ∃ r, r = s[k] := ⟨_, rfl⟩
      rw [← hr] at d0 d1 hr1 HST
      obtain ⟨x, y⟩ := r
      dsimp only at d0 d1 hr1 HST
      obtain ⟨z, hz⟩ : ∃ z, z = sizeL (s.take k) := ⟨_, rfl⟩
      rw [← hz] at HST hsz ⊢
      clear hcell hr R1 hz
      go_wp2_with fail
      go_roundg (gk - 1)
      case measure => omega
      case rel => exact ⟨k + 1, by omega, by go_num, by rw [HST.out], by first | exact (TC.out.alloc _) | exact ((TC.out.alloc _).drewN _)⟩
    · obtain rfl : k = s.length := by omega
      rw [List.take_length]
      go_wp2
      go_ret
      exact ⟨rfl, TC.out⟩

theorem size_says (a : Option Addr) (cap : Nat) (s : List R2) (w : World) (hl : Rg w a s) (hs : Canon s) :
    Calls Tryd.prog 16 #[.slice a s.length cap] w fun e w' => e = .returned (.int .i64 (sizeL s)) ∧ Touch (fun _ => False) w w' :=
  size_any a cap s w hl hs.in_ (by have := canon_len hs; omega)
end Go.Proofs.YtnngemdpoemhgaaDoor
