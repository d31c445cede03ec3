/- Texts of this proof, one behind the other: what each says stands ahead of it. -/
import Derived.Test.YtdhhcefmmojcmaaGreatDoorM4
import Derived.Test.YtdhhcefmmojcmaaGreatDoorM3
import Derived.Deep.RegionLaw
/- spans of the names that the laws ask for, and blanks; no condition. -/
namespace Go.Proofs.YtdhhcefmmojcmaaGreatDoor
open Go.RowKit

theorem rg_alloc (w : World) (l : List R2) (t : TypeId) : Rg (w.alloc (.cells (flatR l).toArray t)) (some ⟨w.heap.size, 0, none⟩) l := by
  refine .inr ⟨w.heap.size, 0, rfl, by simp, fun i hi => ?_⟩
  have h0 := row_new w (flatR l) t (2 * i) _ (flatR_get0 l i hi)
  have h1 := row_new w (flatR l) t (2 * i + 1) _ (flatR_get1 l i hi)
  rw [add_g] at h0 h1
  rw [show 0 + i * 2 = 2 * i by omega]
  exact ⟨h0, h1⟩

def lLu : List R2 := [(65, 90), (192, 214), (216, 222), (913, 929), (931, 937), (1040, 1071), (66560, 66599)]
set_option maxRecDepth 100000 in
theorem spans_Lu (w : World) : Calls Tryz.prog 39 #[.string ⟨#[76, 117]⟩] w fun e w' => ∃ a c, e = .returned (.slice a lLu.length c) ∧ Rg w' a lLu ∧ Touch (fun _ => False) w w' := by
  go_enter Tryz.func39, Tryz.ntmps39
  go_wp2
  go_ret
  exact ⟨_, _, rfl, rg_alloc w lLu 119, (Touch.refl _ w).alloc _⟩

def lLl : List R2 := [(97, 122), (181, 181), (223, 246), (248, 255), (383, 383), (945, 969), (1072, 1103), (66600, 66639)]
set_option maxRecDepth 100000 in
theorem spans_Ll (w : World) : Calls Tryz.prog 39 #[.string ⟨#[76, 108]⟩] w fun e w' => ∃ a c, e = .returned (.slice a lLl.length c) ∧ Rg w' a lLl ∧ Touch (fun _ => False) w w' := by
  go_enter Tryz.func39, Tryz.ntmps39
  go_wp2
  go_ret
  exact ⟨_, _, rfl, rg_alloc w lLl 119, (Touch.refl _ w).alloc _⟩

def lLo : List R2 := [(170, 170), (186, 186), (1488, 1514), (12353, 12438), (12449, 12538), (19968, 40959)]
set_option maxRecDepth 100000 in
theorem spans_Lo (w : World) : Calls Tryz.prog 39 #[.string ⟨#[76, 111]⟩] w fun e w' => ∃ a c, e = .returned (.slice a lLo.length c) ∧ Rg w' a lLo ∧ Touch (fun _ => False) w w' := by
  go_enter Tryz.func39, Tryz.ntmps39
  go_wp2
  go_ret
  exact ⟨_, _, rfl, rg_alloc w lLo 119, (Touch.refl _ w).alloc _⟩

def lNd : List R2 := [(48, 57), (1632, 1641), (2406, 2415), (65296, 65305)]
set_option maxRecDepth 100000 in
theorem spans_Nd (w : World) : Calls Tryz.prog 39 #[.string ⟨#[78, 100]⟩] w fun e w' => ∃ a c, e = .returned (.slice a lNd.length c) ∧ Rg w' a lNd ∧ Touch (fun _ => False) w w' := by
  go_enter Tryz.func39, Tryz.ntmps39
  go_wp2
  go_ret
  exact ⟨_, _, rfl, rg_alloc w lNd 119, (Touch.refl _ w).alloc _⟩

def lPc : List R2 := [(95, 95), (8255, 8256)]
set_option maxRecDepth 100000 in
theorem spans_Pc (w : World) : Calls Tryz.prog 39 #[.string ⟨#[80, 99]⟩] w fun e w' => ∃ a c, e = .returned (.slice a lPc.length c) ∧ Rg w' a lPc ∧ Touch (fun _ => False) w w' := by
  go_enter Tryz.func39, Tryz.ntmps39
  go_wp2
  go_ret
  exact ⟨_, _, rfl, rg_alloc w lPc 119, (Touch.refl _ w).alloc _⟩

def lZs : List R2 := [(32, 32), (160, 160), (8192, 8202), (12288, 12288)]
set_option maxRecDepth 100000 in
theorem spans_Zs (w : World) : Calls Tryz.prog 39 #[.string ⟨#[90, 115]⟩] w fun e w' => ∃ a c, e = .returned (.slice a lZs.length c) ∧ Rg w' a lZs ∧ Touch (fun _ => False) w w' := by
  go_enter Tryz.func39, Tryz.ntmps39
  go_wp2
  go_ret
  exact ⟨_, _, rfl, rg_alloc w lZs 119, (Touch.refl _ w).alloc _⟩

def lAny : List R2 := [(0, 1114111)]
set_option maxRecDepth 100000 in
theorem spans_Any (w : World) : Calls Tryz.prog 39 #[.string ⟨#[65, 110, 121]⟩] w fun e w' => ∃ a c, e = .returned (.slice a lAny.length c) ∧ Rg w' a lAny ∧ Touch (fun _ => False) w w' := by
  go_enter Tryz.func39, Tryz.ntmps39
  go_wp2
  go_ret
  exact ⟨_, _, rfl, rg_alloc w lAny 119, (Touch.refl _ w).alloc _⟩

def lBl : List R2 := [(9, 13), (32, 32), (133, 133), (160, 160), (8192, 8202), (8232, 8233), (12288, 12288)]
set_option maxRecDepth 100000 in
theorem blanks_any (w : World) : Calls Tryz.prog 40 #[] w fun e w' => ∃ a c, e = .returned (.slice a lBl.length c) ∧ Rg w' a lBl ∧ Touch (fun _ => False) w w' := by
  go_enter Tryz.func40, Tryz.ntmps40
  go_wp2
  go_ret
  exact ⟨_, _, rfl, rg_alloc w lBl 119, (Touch.refl _ w).alloc _⟩
end Go.Proofs.YtdhhcefmmojcmaaGreatDoor

/- setOf of lists of spans: the set of all their numbers; condition: they are few. -/
namespace Go.Proofs.YtdhhcefmmojcmaaGreatDoor
open Go.RowKit

set_option maxRecDepth 100000 in
set_option maxHeartbeats 8000000 in
theorem setOf_any (bb cc : Nat) (ls : List (List R2)) (w : World) (hls : Ls w bb ls) (hn : ls.length ≤ 100) (hb : ls.flatten.length ≤ 100000) :
    Calls Tryz.prog 38 #[.slice (some ⟨bb, 0, none⟩) ls.length cc] w fun e w' => ∃ v s, e = .returned v ∧ Canon s ∧ (∀ x, In x s ↔ (0 ≤ x ∧ x ≤ 1114111) ∧ In x ls.flatten) ∧ OwE w w' 60 v s := by
  obtain ⟨i0, hi33, hz0, hz1, hz2⟩ := info_parts info33
  have HLS := hid hls
  clear hls
  go_enter Tryz.func38, Tryz.ntmps38
  go_wp2_with fail
  go_loopg [3, 10] ls.length (fun gk v i wr => ∃ k : Nat, k + gk = ls.length ∧ i = .int .i64 (k : Nat) ∧ OwE w wr 60 v (ls.take k).flatten)
  case atStart => exact ⟨0, by omega, rfl, OwE.nil _ _⟩
  case round =>
    obtain ⟨k, hk, rfl, how⟩ := hrel
    obtain ⟨G, hG⟩ : ∃ G, G = gk := ⟨_, rfl⟩
    have HG := hid hG
    clear hG
    have OW := hid how
    obtain ⟨a3, c3, hv⟩ := own_shape how.own
    subst hv
    by_cases hlt : k < ls.length
    · obtain ⟨a, c, g0, hrg⟩ := (HLS.out.new how.touch).at_ k hlt
      obtain ⟨a', c', g0', hrg0⟩ := HLS.out.at_ k hlt
      have hsame : a' = a := by
        have := (how.touch.cell (p := ⟨bb, k, none⟩) HLS.out.lt id).trans g0'
        rw [g0] at this
        simp only [Option.some.injEq, Value.slice.injEq] at this
        exact this.1.symm
      subst hsame
      have h1 := flat_le ls (k + 1)
      have HST := hid (flat_step ls k hlt)
      have RB := hid hrg0
      have hl2 : ((ls.take k).flatten).length + (ls[k]).length ≤ 100000 := by
        rw [flat_step ls k hlt, List.length_append] at h1
        omega
      generalize (ls.take k).flatten = A at *
      generalize ls[k] = B at *
      have hkI : (k : Int) < (ls.length : Int) := by omega
      clear how hrg h1 hrg0 g0'
      go_wp2_with fail
      go_loopg [3, 16] B.length (fun g2 v i wq => ∃ j : Nat, j + g2 = B.length ∧ i = .int .i64 (j : Nat) ∧ OwE w wq 60 v (A ++ B.take j))
      case atStart => exact ⟨0, by omega, rfl, by rw [List.take_zero, List.append_nil]; exact OW.out⟩
      case round =>
        obtain ⟨j, hj, rfl, how⟩ := hrel
        have OQ := hid how
        obtain ⟨a4, c4, hv4⟩ := own_shape how.own
        subst hv4
        have RQ := hid (RB.out.new how.touch)
        clear how
        by_cases hjl : j < B.length
        · obtain ⟨b, o, ha, hbl, hcell⟩ : ∃ b o, a' = some ⟨b, o, none⟩ ∧ b < wr.heap.size ∧ ∀ i (h : i < B.length), wr.cell? ⟨b, o + i * 2, none⟩ = some (.int .i64 (B[i]).1) ∧ wr.cell? ⟨b, o + i * 2 + 1, none⟩ = some (.int .i64 (B[i]).2) := by
            rcases RQ.out with h | h
            · rw [h] at hjl; simp at hjl
            · exact h
          subst ha
          obtain ⟨d0, d1⟩ := hcell j hjl
          have HT := hid (show B.take (j + 1) = B.take j ++ [B[j]] from List.take_succ_eq_append_getElem hjl)
          have hAl : (A ++ B.take j).length ≤ 100000 := by rw [List.length_append, List.length_take]; omega
          obtain ⟨r, hr⟩ : ∃ r, r = B[j] := ⟨_, rfl⟩
          rw [← hr] at d0 d1 HT
          obtain ⟨x, y⟩ := r
          dsimp only at d0 d1
          obtain ⟨S, hS⟩ : ∃ S, S = A ++ B.take j := ⟨_, rfl⟩
          rw [← hS] at OQ hAl ⊢
          have HSS := hid hS
          have hjI : (j : Int) < (B.length : Int) := by omega
          have B2 := hid (show (wr.alloc (.cells #[.int .i64 x, .int .i64 y] 119)).heap[wr.heap.size]? = some (.cells #[.int .i64 x, .int .i64 y] 119 (0, 0)) from three_new _ _ _)
          have TA := hid ((Touch.refl (fun _ => False) wr).alloc (.cells #[.int .i64 x, .int .i64 y] 119))
          clear hcell hr hS
          go_upto_region 8 with fail
          generalize (wr.alloc (.cells #[.int .i64 x, .int .i64 y] 119)) = wA at *
          have OA := hid (OQ.out.still TA.out)
          have c0 := cell_two0 B2.out
          have c1 := cell_two1 B2.out
          clear d0 d1 OQ
          go_wp2_with (at_builtin; refine wpList_append_own_at _ rfl _ _ 24 rfl 0 60 i0 (.agg #[.int .i64 0, .int .i64 0]) 2 16 Tryz.underlying24 hi33 hz0 hz1 hz2 rfl (by decide) _ _ _ rfl (OA.out.own.alloc _) ⟨wA.heap.size, 0, none⟩ 1 1 [.int .i64 x, .int .i64 y] rfl rfl (row_new wA [.int .i64 x, .int .i64 y] 60) (by intro u hu; simp at hu; rcases hu with rfl | rfl <;> rfl) (by unfold maxLen; omega) (by omega) (Nat.zero_le _) ?_)
          intro v' w4 hown hgrow _ hat
          have OC := hid (OA.out.more (xs := [(x, y)]) hown hgrow hat)
          clear hown hgrow hat
          go_wp2
          go_roundg (gk - 1)
          case measure => omega
          case rel => exact ⟨j + 1, by omega, by go_num, by rw [HT.out, ← List.append_assoc, ← HSS.out]; exact OC.out⟩
        · obtain rfl : j = B.length := by omega
          have OQ2 := hid (show OwE w wr 60 (.slice a4 (A ++ B).length c4) (A ++ B) by have := OQ.out; rw [List.take_length] at this; exact this)
          rw [List.take_length]
          go_wp2_with fail
          go_roundg (G - 1)
          case measure => have := HG.out; omega
          case rel => exact ⟨k + 1, by have := HG.out; omega, by go_num, by rw [HST.out]; exact OQ2.out⟩
    · obtain rfl : k = ls.length := by omega
      rw [List.take_length] at OW ⊢
      obtain ⟨L, hL⟩ : ∃ L, L = ls.flatten := ⟨_, rfl⟩
      rw [← hL] at OW hb ⊢
      obtain ⟨a5, c5, hv5, hrg⟩ := OW.out.rg
      simp only [Value.slice.injEq] at hv5
      obtain ⟨rfl, _, rfl⟩ := hv5
      have K := hid (of_says a3 c3 L wr hrg (by omega))
      have HLF := hid hL
      clear hrg how hL
      go_wp2_with fail
      refine K.out.mono ?_
      rintro e w1 ⟨v, s, rfl, hcn, hin, ow⟩
      have O2 := hid ow
      have HCN := hid hcn
      have HIN := hid hin
      obtain ⟨a2, c2, hav⟩ := own_shape ow.own
      subst hav
      clear ow hcn hin K
      go_wp2
      go_ret
      exact ⟨_, s, rfl, HCN.out, by rw [← HLF.out]; exact HIN.out, ⟨O2.out.own, fun g e => Nat.le_trans OW.out.touch.size (O2.out.new g e), OW.out.touch.trans O2.out.touch (fun _ _ e => e)⟩⟩
end Go.Proofs.YtdhhcefmmojcmaaGreatDoor

/- speaks of the laws on sets, and an append as a step; no condition. -/
namespace Go.Proofs.YtdhhcefmmojcmaaGreatDoor
open Go.RowKit

theorem step_append_own {P : Program} (w : World) {ops : Array Oper} {o : Oper} {a : Act} {K : Act → World → Prop} {Q : Exit → Act → World → Prop} {E : Prop} (hgd : o.guard = none) (s x : Operand) (t : TypeId)
    (ho : o.op = .call { callee := .builtin .append, args := #[s, x], argTypes := #[t, t] })
    (base : Nat) (e : TypeId) (i : TypeInfo) (z : Value) (size bytes : Nat) (ht : P.underlying t = some (.slice e)) (hi : P.info? e = some i) (hz : i.zero = some z)
    (hsize : i.size = size) (hby : i.bytes = bytes) (hzs : z.cells.size = size) (hsz : 0 < size)
    (v : Value) (n : Nat) (xs : List Value) (hs : a.eval s = v) (hown : w.ownsRow base e size v n xs)
    (ad : Addr) (m c : Nat) (news : List Value) (hx : a.eval x = .slice (some ad) m c) (hl : news.length = m * size) (hnews : ∀ j u, news[j]? = some u → w.cell? (ad.add j) = some u) (h1 : ∀ u ∈ news, u.oneCell' = true)
    (h63 : n + m ≤ maxLen) (hbytes : (n + m) * bytes ≤ 140737488355328) (hbase : base ≤ w.heap.size) (H : Nat) (hH : w.heap.size = H)
    (h : ∀ v' w', w'.ownsRow base e size v' (n + m) (xs ++ news) → w.grownBy w' v.ownBlock → (v'.ownBlock = v.ownBlock ∨ v'.ownBlock = some H) → K (a.put o.dst v') w') :
    if Region.wanted o (yielded ops a.tmps) = true then Oper.wp P o a w K Q else E := by
  have hw : Region.wanted o (yielded ops a.tmps) = true := by simp [Region.wanted, hgd]
  rw [if_pos hw]
  obtain ⟨v', w', hr, h2, h3, h4, h5⟩ := run_append_own_at (P := P) w base t o.type e i z size bytes ht hi hz hsize hby hzs hsz v n xs hown ad m c news hl hnews h1 h63 hbytes hbase
  unfold Oper.wp execOp
  simp only [ho, resolve, invoke, builtin, Sem.run_bind, Sem.run_pure, Result.andThen_ok, List.map_toArray, List.map_cons, List.map_nil, hs, hx, hr]
  exact h v' w' h2 h3 (by rw [← hH]; exact h5)

theorem nine : ∀ x, In x [((1 : Int), (9 : Int))] ↔ (0 ≤ x ∧ x ≤ 1114111) ∧ In x [((5 : Int), (9 : Int)), (1, 2), (3, 4)] := by
  intro x
  simp only [in_cons, in_nil, or_false]
  omega
theorem nine_canon : Canon [((1 : Int), (9 : Int))] := ⟨by simp [inB], List.pairwise_singleton _ _⟩

end Go.Proofs.YtdhhcefmmojcmaaGreatDoor

/- Not of a set: what it answers; no condition beside those told. -/
namespace Go.Proofs.YtdhhcefmmojcmaaGreatDoor
open Go.RowKit

theorem notAcc_step (s : List R2) (k : Nat) (h : k < s.length) : notAcc (s.take (k + 1)) = nstep (notAcc (s.take k)) s[k] := by
  unfold notAcc
  rw [List.take_succ_eq_append_getElem h, List.foldl_append]
  rfl
theorem notAcc_len (s : List R2) : ∀ k, k ≤ s.length → (notAcc (s.take k)).1.length ≤ k
  | 0, _ => by simp [notAcc]
  | k + 1, h => by
    have := notAcc_len s k (by omega)
    rw [notAcc_step s k (by omega)]
    unfold nstep
    dsimp only
    split
    · rw [List.length_append]
      simp
      omega
    · omega
theorem notAcc_next {s : List R2} (hs : ∀ r ∈ s, inB r) : ∀ k, k ≤ s.length → 0 ≤ (notAcc (s.take k)).2 ∧ (notAcc (s.take k)).2 ≤ 1114112
  | 0, _ => by simp [notAcc]
  | k + 1, h => by
    rw [notAcc_step s k (by omega)]
    have := hs s[k] (List.getElem_mem _)
    unfold inB at this
    unfold nstep
    dsimp only
    omega

set_option maxRecDepth 100000 in
set_option maxHeartbeats 4000000 in
theorem not_any (a : Option Addr) (cap : Nat) (s : List R2) (w : World) (hl : Rg w a s) (hs : ∀ r ∈ s, inB r) (hb : s.length ≤ 1048576) :
    Calls Tryz.prog 24 #[.slice a s.length cap] w fun e w' => ∃ v, e = .returned v ∧ OwE w w' 60 v (notL s) := by
  obtain ⟨i0, hi33, hz0, hz1, hz2⟩ := info_parts info33
  have HL := hid hl
  have HIN := hid hs
  clear hl hs
  go_enter Tryz.func24, Tryz.ntmps24
  go_wp2_with fail
  go_loopg [3, 4, 9] s.length (fun gk v n i wr => ∃ k : Nat, k + gk = s.length ∧ i = .int .i64 (k : Nat) ∧ n = .int .i64 (notAcc (s.take k)).2 ∧ OwE w wr 60 v (notAcc (s.take k)).1)
  case atStart => exact ⟨0, by omega, rfl, rfl, OwE.nil _ _⟩
  case round =>
    obtain ⟨k, hk, rfl, rfl, how⟩ := hrel
    have OW := hid how
    have HLR := hid (HL.out.new how.touch)
    have hlen := notAcc_len s k (by omega)
    have hnx := notAcc_next HIN.out k (by omega)
    obtain ⟨av, cv, hav⟩ := own_shape how.own
    subst hav
    clear how
    by_cases hlt : k < s.length
    · obtain ⟨b, o, ha, hbl, hcell⟩ : ∃ b o, a = some ⟨b, o, none⟩ ∧ b < wr.heap.size ∧ ∀ i (h : i < s.length), wr.cell? ⟨b, o + i * 2, none⟩ = some (.int .i64 (s[i]).1) ∧ wr.cell? ⟨b, o + i * 2 + 1, none⟩ = some (.int .i64 (s[i]).2) := by
        rcases HLR.out with h | h
        · rw [h] at hlt; simp at hlt
        · exact h
      subst ha
      obtain ⟨d0, d1⟩ := hcell k hlt
      have hri := HIN.out s[k] (List.getElem_mem hlt)
      have NS := hid (notAcc_step s k hlt)
      obtain ⟨r, hr⟩ : ∃ r, r = s[k] := ⟨_, rfl⟩
      rw [← hr] at d0 d1 hri NS
      obtain ⟨x, y⟩ := r
      unfold inB at hri
      dsimp only at d0 d1 hri
      clear hcell hr
      obtain ⟨q, hq⟩ : ∃ q, q = notAcc (s.take k) := ⟨_, rfl⟩
      rw [← hq] at OW NS hlen hnx ⊢
      obtain ⟨ot, n⟩ := q
      dsimp only at OW NS hlen hnx ⊢
      clear hq
      obtain ⟨M, hM⟩ : ∃ M, M = ot.length := ⟨_, rfl⟩
      rw [← hM] at OW ⊢
      have HM := hid hM
      clear hM
      go_upto_region 6 with fail
      obtain ⟨rb, hrb⟩ : ∃ rb, rb = wr.heap.size := ⟨_, rfl⟩
      have OA := hid (OW.out.still ((Touch.refl _ wr).alloc (.cells #[.int .i64 x, .int .i64 y] 60)))
      have RB := hid (show (wr.alloc (.cells #[.int .i64 x, .int .i64 y] 60)).heap[rb]? = some (.cells #[.int .i64 x, .int .i64 y] 60 (0, 0)) from by rw [hrb]; exact three_new _ _ _)
      have HOWN := hid (show ∀ g, (Value.slice av M cv).ownBlock = some g → g ≠ rb from fun g e => by
        have := (OW.out.own.lt g e).2
        omega)
      rw [← hrb]
      clear hrb OW
      generalize wr.alloc (.cells #[.int .i64 x, .int .i64 y] 60) = wA at *
      have p0 := cell_two0 RB.out
      have p1 := cell_two1 RB.out
      clear d0 d1
      by_cases hc : n < x
      · go_wp2_with (at_builtin; refine wpList_append_own_at _ rfl _ _ 25 rfl 0 60 i0 (.agg #[.int .i64 0, .int .i64 0]) 2 16 Tryz.underlying25 hi33 hz0 hz1 hz2 rfl (by decide) _ _ _ rfl (OA.out.own.alloc _) ⟨wA.heap.size, 0, none⟩ 1 1 [.int .i64 n, .int .i64 (x - 1)] rfl rfl (row_new wA [.int .i64 n, .int .i64 (x - 1)] 60) (by intro u hu; simp at hu; rcases hu with rfl | rfl <;> rfl) (by unfold maxLen; omega) (by omega) (Nat.zero_le _) ?_)
        intro v' w4 hown hgrow _ hat
        have OC := hid (OA.out.more (xs := [(n, x - 1)]) hown hgrow hat)
        have hrbl := lt_of_block RB.out
        have RC := hid (show w4.heap[rb]? = some (.cells #[.int .i64 x, .int .i64 y] 60 (0, 0)) from by
          rw [hgrow.block rb (by simp; omega) (fun e => ?_), Below.heap_alloc _ _ _ hrbl]
          · exact RB.out
          · exact HOWN.out _ e.symm rfl)
        have q1 := cell_two1 RC.out
        clear hown hgrow hat p0 p1
        go_wp2
        go_roundg (gk - 1)
        case measure => omega
        case rel =>
          refine ⟨k + 1, by omega, by go_num, ?_, ?_⟩
          · rw [NS.out]
            rfl
          · rw [NS.out]
            unfold nstep
            dsimp only
            rw [if_pos (by omega)]
            exact OC.out
      · go_wp2
        go_roundg (gk - 1)
        case measure => omega
        case rel =>
          refine ⟨k + 1, by omega, by go_num, ?_, ?_⟩
          · rw [NS.out]
            rfl
          · rw [NS.out]
            unfold nstep
            dsimp only
            rw [if_neg (by omega)]
            exact OA.out
    · obtain rfl : k = s.length := by omega
      rw [List.take_length] at OW hlen hnx ⊢
      have NL := hid (show notL s = if (notAcc s).2 ≤ 1114111 then (notAcc s).1 ++ [((notAcc s).2, 1114111)] else (notAcc s).1 from rfl)
      obtain ⟨q, hq⟩ : ∃ q, q = notAcc s := ⟨_, rfl⟩
      rw [← hq] at OW NL hlen hnx ⊢
      obtain ⟨ot, n⟩ := q
      dsimp only at OW NL hlen hnx ⊢
      clear hq
      obtain ⟨M, hM⟩ : ∃ M, M = ot.length := ⟨_, rfl⟩
      rw [← hM] at OW ⊢
      have HM := hid hM
      clear hM
      by_cases hc : n ≤ 1114111
      · go_wp2_with (at_builtin; refine wpList_append_own_at _ rfl _ _ 25 rfl 0 60 i0 (.agg #[.int .i64 0, .int .i64 0]) 2 16 Tryz.underlying25 hi33 hz0 hz1 hz2 rfl (by decide) _ _ _ rfl (OW.out.own.alloc _) ⟨wr.heap.size, 0, none⟩ 1 1 [.int .i64 n, .int .i64 1114111] rfl rfl (row_new wr [.int .i64 n, .int .i64 1114111] 60) (by intro u hu; simp at hu; rcases hu with rfl | rfl <;> rfl) (by unfold maxLen; omega) (by omega) (Nat.zero_le _) ?_)
        intro v' w4 hown hgrow _ hat
        have OC := hid (OW.out.more (xs := [(n, 1114111)]) hown hgrow hat)
        have HC := hid hc
        clear hown hgrow hat hc
        obtain ⟨a5, c5, hv5⟩ := own_shape OC.out.own
        subst hv5
        go_wp2
        go_ret
        refine ⟨_, rfl, ?_⟩
        rw [NL.out, if_pos HC.out]
        exact OC.out
      · have HC := hid hc
        clear hc
        have hc2 : (1114111 : Int) < n := by have := HC.out; omega
        go_wp2
        go_ret
        refine ⟨_, rfl, ?_⟩
        rw [NL.out, if_neg (by have := HC.out; omega)]
        exact OW.out

theorem not_says (a : Option Addr) (cap : Nat) (s : List R2) (w : World) (hl : Rg w a s) (hs : Canon s) :
    Calls Tryz.prog 24 #[.slice a s.length cap] w fun e w' => ∃ v n, e = .returned v ∧ Canon n ∧ (∀ x, In x n ↔ (0 ≤ x ∧ x ≤ 1114111) ∧ ¬ In x s) ∧ OwE w w' 60 v n := by
  refine (not_any a cap s w hl hs.in_ (by have := canon_len hs; omega)).mono ?_
  rintro e w' ⟨v, rfl, ow⟩
  have h := notL_good hs
  exact ⟨v, notL s, rfl, h.1, h.2, ow⟩
end Go.Proofs.YtdhhcefmmojcmaaGreatDoor
