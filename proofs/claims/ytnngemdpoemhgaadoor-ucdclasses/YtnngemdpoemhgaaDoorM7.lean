/- Texts of this proof, one behind the other: what each says stands ahead of it. -/
import Derived.Test.YtnngemdpoemhgaaDoorM5
import Derived.Deep.RegionLaw
import Derived.Test.YtnngemdpoemhgaaDoorM6
/- speaks of the laws on sets, and an append as a step; no condition. -/
namespace Go.Proofs.YtnngemdpoemhgaaDoor
open Go.RowKit

theorem step_append_own {P : Program} (w : World) {ops : Array Oper} {o : Oper} {a : Act} {K : Act → World → Prop} {Q : Exit → Act → World → Prop} {E : Prop} (hgd : o.guard = none) (s x : Operand) (t : TypeId)
    (ho : o.op = .call { callee := .builtin .append, args := #[s, x], argTypes := #[t, t] })
    (base : Nat) (e : TypeId) (i : TypeInfo) (z : Value) (size bytes : Nat) (ht : P.underlying t = some (.slice e)) (hi : P.info? e = some i) (hz : i.zero = some z)
    (hsize : i.size = size) (hby : i.bytes = bytes) (hzs : z.cells.size = size) (hsz : 0 < size)
    (v : Value) (n : Nat) (xs : List Value) (hs : a.eval s = v) (hown : w.ownsRow base e size v n xs)
    (ad : Addr) (m c : Nat) (news : List Value) (hx : a.eval x = .slice (some ad) m c) (hl : news.length = m * size) (hnews : ∀ j u, news[j]? = some u → w.cell? (ad.add j) = some u) (h1 : ∀ u ∈ news, u.oneCell' = true)
    (h63 : n + m ≤ maxLen) (hbytes : (n + m) * bytes ≤ 140737488355328) (hbase : base ≤ w.heap.size) (H : Nat) (hH : w.heap.size = H)
    (h : ∀ v' w', w'.ownsRow base e size v' (n + m) (xs ++ news) → w.grownBy w' v.ownBlock → (v'.ownBlock = v.ownBlock ∨ v'.ownBlock = some H) → K (a.put o.dst v') w') :
    if Region.wanted o (yielded ops a.tmps) = true then Oper.wp P o a w K Q else E := by
  have hw : Region.wanted o (yielded ops a.tmps) = true := by simp [Region.wanted, hgd]
  rw [if_pos hw]
  obtain ⟨v', w', hr, h2, h3, h4, h5⟩ := run_append_own_at (P := P) w base t o.type e i z size bytes ht hi hz hsize hby hzs hsz v n xs hown ad m c news hl hnews h1 h63 hbytes hbase
  unfold Oper.wp execOp
  simp only [ho, resolve, invoke, builtin, Sem.run_bind, Sem.run_pure, Result.andThen_ok, List.map_toArray, List.map_cons, List.map_nil, hs, hx, hr]
  exact h v' w' h2 h3 (by rw [← hH]; exact h5)

theorem nine : ∀ x, In x [((1 : Int), (9 : Int))] ↔ (0 ≤ x ∧ x ≤ 1114111) ∧ In x [((5 : Int), (9 : Int)), (1, 2), (3, 4)] := by
  intro x
  simp only [in_cons, in_nil, or_false]
  omega
theorem nine_canon : Canon [((1 : Int), (9 : Int))] := ⟨by simp [inB], List.pairwise_singleton _ _⟩

end Go.Proofs.YtnngemdpoemhgaaDoor

/- Not of a set: what it answers; no condition beside those told. -/
namespace Go.Proofs.YtnngemdpoemhgaaDoor
open Go.RowKit

theorem notAcc_step (s : List R2) (k : Nat) (h : k < s.length) : notAcc (s.take (k + 1)) = nstep (notAcc (s.take k)) s[k] := by
  unfold notAcc
  rw [List.take_succ_eq_append_getElem h, List.foldl_append]
  rfl
theorem notAcc_len (s : List R2) : ∀ k, k ≤ s.length → (notAcc (s.take k)).1.length ≤ k
  | 0, _ => by simp [notAcc]
  | k + 1, h => by
    have := notAcc_len s k (by omega)
    rw [notAcc_step s k (by omega)]
    unfold nstep
    dsimp only
    split
    · rw [List.length_append]
      simp
      omega
    · omega
theorem notAcc_next {s : List R2} (hs : ∀ r ∈ s, inB r) : ∀ k, k ≤ s.length → 0 ≤ (notAcc (s.take k)).2 ∧ (notAcc (s.take k)).2 ≤ 1114112
  | 0, _ => by simp [notAcc]
  | k + 1, h => by
    rw [notAcc_step s k (by omega)]
    have := hs s[k] (List.getElem_mem _)
    unfold inB at this
    unfold nstep
    dsimp only
    omega

set_option maxRecDepth 100000 in
set_option maxHeartbeats 4000000 in
theorem not_any (a : Option Addr) (cap : Nat) (s : List R2) (w : World) (hl : Rg w a s) (hs : ∀ r ∈ s, inB r) (hb : s.length ≤ 1048576) :
    Calls Tryd.prog 40 #[.slice a s.length cap] w fun e w' => ∃ v, e = .returned v ∧ OwE w w' 33 v (notL s) := by
  obtain ⟨i0, hi33, hz0, hz1, hz2⟩ := info_parts info33
  have HL := hid hl
  have HIN := hid hs
  clear hl hs
  go_enter Tryd.func40, Tryd.ntmps40
  go_wp2_with fail
  go_loopg [3, 4, 9] s.length (fun gk v n i wr => ∃ k : Nat, k + gk = s.length ∧ i = .int .i64 (k : Nat) ∧ n = .int .i64 (notAcc (s.take k)).2 ∧ OwE w wr 33 v (notAcc (s.take k)).1)
  case atStart => exact ⟨0, by omega, rfl, rfl, OwE.nil _ _⟩
  case round =>
    obtain ⟨k, hk, rfl, rfl, how⟩ := hrel
    have OW := hid how
    have HLR := hid (HL.out.new how.touch)
    have hlen := notAcc_len s k (by omega)
    have hnx := notAcc_next HIN.out k (by omega)
    obtain ⟨av, cv, hav⟩ := own_shape how.own
    subst hav
    clear how
    by_cases hlt : k < s.length
    · obtain ⟨b, o, ha, hbl, hcell⟩ : ∃ b o, a = some ⟨b, o, none⟩ ∧ b < wr.heap.size ∧ ∀ i (h : i < s.length), wr.cell? ⟨b, o + i * 2, none⟩ = some (.int .i64 (s[i]).1) ∧ wr.cell? ⟨b, o + i * 2 + 1, none⟩ = some (.int .i64 (s[i]).2) := by
        rcases HLR.out with h | h
        · rw [h] at hlt; simp at hlt
        · exact h
      subst ha
      obtain ⟨d0, d1⟩ := hcell k hlt
      have hri := HIN.out s[k] (List.getElem_mem hlt)
      have NS := hid (notAcc_step s k hlt)
      obtain ⟨r, hr⟩ : ∃ r, r = s[k] := ⟨_, rfl⟩
      rw [← hr] at d0 d1 hri NS
      obtain ⟨x, y⟩ := r
      unfold inB at hri
      dsimp only at d0 d1 hri
      clear hcell hr
      obtain ⟨q, hq⟩ : ∃ q, q = notAcc (s.take k) := ⟨_, rfl⟩
      rw [← hq] at OW NS hlen hnx ⊢
      obtain ⟨ot, n⟩ := q
      dsimp only at OW NS hlen hnx ⊢
      clear hq
      obtain ⟨M, hM⟩ : ∃ M, M = ot.length := ⟨_, rfl⟩
      rw [← hM] at OW ⊢
      have HM := hid hM
      clear hM
      go_upto_region 6 with fail
      obtain ⟨rb, hrb⟩ : ∃ rb, rb = wr.heap.size := ⟨_, rfl⟩
      have OA := hid (OW.out.still ((Touch.refl _ wr).alloc (.cells #[.int .i64 x, .int .i64 y] 33)))
      have RB := hid (show (wr.alloc (.cells #[.int .i64 x, .int .i64 y] 33)).heap[rb]? = some (.cells #[.int .i64 x, .int .i64 y] 33 (0, 0)) from by rw [hrb]; exact three_new _ _ _)
      have HOWN := hid (show ∀ g, (Value.slice av M cv).ownBlock = some g → g ≠ rb from fun g e => by
        have := (OW.out.own.lt g e).2
        omega)
      rw [← hrb]
      clear hrb OW
      generalize wr.alloc (.cells #[.int .i64 x, .int .i64 y] 33) = wA at *
      have p0 := cell_two0 RB.out
      have p1 := cell_two1 RB.out
      clear d0 d1
      by_cases hc : n < x
      · go_wp2_with (at_builtin; refine wpList_append_own_at _ rfl _ _ 27 rfl 0 33 i0 (.agg #[.int .i64 0, .int .i64 0]) 2 16 Tryd.underlying27 hi33 hz0 hz1 hz2 rfl (by decide) _ _ _ rfl (OA.out.own.alloc _) ⟨wA.heap.size, 0, none⟩ 1 1 [.int .i64 n, .int .i64 (x - 1)] rfl rfl (row_new wA [.int .i64 n, .int .i64 (x - 1)] 33) (by intro u hu; simp at hu; rcases hu with rfl | rfl <;> rfl) (by unfold maxLen; omega) (by omega) (Nat.zero_le _) ?_)
        intro v' w4 hown hgrow _ hat
        have OC := hid (OA.out.more (xs := [(n, x - 1)]) hown hgrow hat)
        have hrbl := lt_of_block RB.out
        have RC := hid (show w4.heap[rb]? = some (.cells #[.int .i64 x, .int .i64 y] 33 (0, 0)) from by
          rw [hgrow.block rb (by simp; omega) (fun e => ?_), Below.heap_alloc _ _ _ hrbl]
          · exact RB.out
          · exact HOWN.out _ e.symm rfl)
        have q1 := cell_two1 RC.out
        clear hown hgrow hat p0 p1
        go_wp2
        go_roundg (gk - 1)
        case measure => omega
        case rel =>
          refine ⟨k + 1, by omega, by go_num, ?_, ?_⟩
          · rw [NS.out]
            rfl
          · rw [NS.out]
            unfold nstep
            dsimp only
            rw [if_pos (by omega)]
            exact OC.out
      · go_wp2
        go_roundg (gk - 1)
        case measure => omega
        case rel =>
          refine ⟨k + 1, by omega, by go_num, ?_, ?_⟩
          · rw [NS.out]
            rfl
          · rw [NS.out]
            unfold nstep
            dsimp only
            rw [if_neg (by omega)]
            exact OA.out
    · obtain rfl : k = s.length := by omega
      rw [List.take_length] at OW hlen hnx ⊢
      have NL := hid (show notL s = if (notAcc s).2 ≤ 1114111 then (notAcc s).1 ++ [((notAcc s).2, 1114111)] else (notAcc s).1 from rfl)
      obtain ⟨q, hq⟩ : ∃ q, q = notAcc s := ⟨_, rfl⟩
      rw [← hq] at OW NL hlen hnx ⊢
      obtain ⟨ot, n⟩ := q
      dsimp only at OW NL hlen hnx ⊢
      clear hq
      obtain ⟨M, hM⟩ : ∃ M, M = ot.length := ⟨_, rfl⟩
      rw [← hM] at OW ⊢
      have HM := hid hM
      clear hM
      by_cases hc : n ≤ 1114111
      · go_wp2_with (at_builtin; refine wpList_append_own_at _ rfl _ _ 27 rfl 0 33 i0 (.agg #[.int .i64 0, .int .i64 0]) 2 16 Tryd.underlying27 hi33 hz0 hz1 hz2 rfl (by decide) _ _ _ rfl (OW.out.own.alloc _) ⟨wr.heap.size, 0, none⟩ 1 1 [.int .i64 n, .int .i64 1114111] rfl rfl (row_new wr [.int .i64 n, .int .i64 1114111] 33) (by intro u hu; simp at hu; rcases hu with rfl | rfl <;> rfl) (by unfold maxLen; omega) (by omega) (Nat.zero_le _) ?_)
        intro v' w4 hown hgrow _ hat
        have OC := hid (OW.out.more (xs := [(n, 1114111)]) hown hgrow hat)
        have HC := hid hc
        clear hown hgrow hat hc
        obtain ⟨a5, c5, hv5⟩ := own_shape OC.out.own
        subst hv5
        go_wp2
        go_ret
        refine ⟨_, rfl, ?_⟩
        rw [NL.out, if_pos HC.out]
        exact OC.out
      · have HC := hid hc
        clear hc
        have hc2 : (1114111 : Int) < n := by have := HC.out; omega
        go_wp2
        go_ret
        refine ⟨_, rfl, ?_⟩
        rw [NL.out, if_neg (by have := HC.out; omega)]
        exact OW.out

theorem not_says (a : Option Addr) (cap : Nat) (s : List R2) (w : World) (hl : Rg w a s) (hs : Canon s) :
    Calls Tryd.prog 40 #[.slice a s.length cap] w fun e w' => ∃ v n, e = .returned v ∧ Canon n ∧ (∀ x, In x n ↔ (0 ≤ x ∧ x ≤ 1114111) ∧ ¬ In x s) ∧ OwE w w' 33 v n := by
  refine (not_any a cap s w hl hs.in_ (by have := canon_len hs; omega)).mono ?_
  rintro e w' ⟨v, rfl, ow⟩
  have h := notL_good hs
  exact ⟨v, notL s, rfl, h.1, h.2, ow⟩
end Go.Proofs.YtnngemdpoemhgaaDoor
