/- Texts of this proof, one behind the other: what each says stands ahead of it. -/
import Derived.Test.YtdhhcefmmojcmaaGreatDoorM0
import Derived.BigRegion
import Derived.Deep.RegionWith
import Derived.Shelf.SlSortCmp.WholeK
import Derived.Shelf.SlicesG.Cmp
import Derived.Shelf.Small.Bits
import Derived.Ground.SlsfProg
import Derived.Ground.SlgcProg
import Derived.Ground.NamesProg
import Derived.Test.YtdhhcefmmojcmaaGreatDoorChecked
/- joined: ranges that rise by From, joined; conditions: the ranges are within bounds, and fit into memory. -/
namespace Go.Proofs.YtdhhcefmmojcmaaGreatDoor
open Go.RowKit

theorem own_set {w : World} {base g n cap sz : Nat} {e : TypeId} {xs : List Value} (h : w.ownsRow base e sz (.slice (some ⟨g, 0, none⟩) n cap) n xs) (i : Nat) (x : Value) :
    (w.setCell ⟨g, i, none⟩ x).ownsRow base e sz (.slice (some ⟨g, 0, none⟩) n cap) n (xs.set i x) := by
  obtain ⟨h1, h2⟩ := h
  rcases h2 with ⟨h2, _⟩ | ⟨g', cap', cur, hv, hg, hh, hle, hm, hcs, htk⟩
  · simp at h2
  · simp at hv
    obtain ⟨rfl, rfl⟩ := hv
    refine ⟨by simpa using h1, .inr ⟨g, cap, cur.set! i x, rfl, hg, ?_, hle, hm, by simpa using hcs, ?_⟩⟩
    · have hlt := lt_of_block hh
      have h' : w.heap[g] = .cells cur e (0, 0) := by simpa [Array.getElem?_eq_getElem hlt] using hh
      show (w.heap.modify g _)[g]? = _
      rw [Array.getElem?_eq_getElem (by simpa using hlt), Array.getElem_modify_self, h']
      rfl
    · rw [← htk]
      simp [List.take_set]

/-- One range more behind those that are joined. -/
def jstep (s : List R2) (r : R2) : List R2 :=
  match s.getLast? with
  | none => [r]
  | some t => if r.1 ≤ t.2 + 1 then s.dropLast ++ [(t.1, max t.2 r.2)] else s ++ [r]
def joinedL (l : List R2) : List R2 := l.foldl jstep []
def inB (x : R2) : Prop := 0 ≤ x.1 ∧ x.1 ≤ x.2 ∧ x.2 ≤ 1114111

theorem jstep_len (s : List R2) (r : R2) : (jstep s r).length ≤ s.length + 1 := by
  unfold jstep
  split
  · simp
  · split
    · rw [List.length_append, List.length_dropLast]; simp
    · simp
theorem foldl_take_succ (l : List R2) (k : Nat) (h : k < l.length) : joinedL (l.take (k + 1)) = jstep (joinedL (l.take k)) l[k] := by
  unfold joinedL
  rw [List.take_succ_eq_append_getElem h, List.foldl_append]
  rfl
theorem joined_len (l : List R2) : ∀ k, k ≤ l.length → (joinedL (l.take k)).length ≤ k
  | 0, _ => by simp [joinedL]
  | k + 1, h => by
    rw [foldl_take_succ l k (by omega)]
    have := jstep_len (joinedL (l.take k)) (l[k]'(by omega))
    have := joined_len l k (by omega)
    omega
theorem jstep_in {s : List R2} {r : R2} (hs : ∀ x ∈ s, inB x) (hr : inB r) : ∀ x ∈ jstep s r, inB x := by
  intro x hx
  unfold jstep at hx
  split at hx
  · simp only [List.mem_singleton] at hx
    rw [hx]
    exact hr
  · rename_i t ht
    have hti := hs t (List.mem_of_getLast? ht)
    split at hx
    · rcases List.mem_append.1 hx with h | h
      · exact hs x (List.dropLast_subset _ h)
      · simp only [List.mem_singleton] at h
        rw [h]
        unfold inB at *
        dsimp only
        omega
    · rcases List.mem_append.1 hx with h | h
      · exact hs x h
      · simp only [List.mem_singleton] at h
        rw [h]
        exact hr
theorem joined_in (l : List R2) (hl : ∀ x ∈ l, inB x) : ∀ k, k ≤ l.length → ∀ x ∈ joinedL (l.take k), inB x
  | 0, _ => by simp [joinedL]
  | k + 1, h => by
    rw [foldl_take_succ l k (by omega)]
    exact jstep_in (joined_in l hl k (by omega)) (hl _ (List.getElem_mem _))

/-- Ranges in a list of the call's own. -/
structure Ow (W0 wr : World) (ty : TypeId) (v : Value) (s : List R2) : Prop where
  own : wr.ownsRow 0 60 2 v s.length (flatR s)
  new : ∀ g, v.ownBlock = some g → W0.heap.size ≤ g
  touch : Touch (fun _ => False) W0 wr

theorem Ow.more {W0 wr w1 : World} {ty : TypeId} {v v' : Value} {s : List R2} {x : R2} {o : Obj} (h : Ow W0 wr ty v s) (hown : w1.ownsRow 0 60 2 v' (s.length + 1) (flatR s ++ encR x)) (hg : (wr.alloc o).grownBy w1 v.ownBlock) (hat : v'.ownBlock = v.ownBlock ∨ v'.ownBlock = some (wr.heap.size + 1)) : Ow W0 w1 ty v' (s ++ [x]) := by
  refine ⟨?_, fun g hg' => ?_, (h.touch.alloc o).grown hg (fun k e hk => by have := h.new k e; omega)⟩
  · rw [List.length_append, flatR_append]
    simpa [flatR] using hown
  · rcases hat with e | e
    · exact h.new g (by rw [← e]; exact hg')
    · rw [e] at hg'
      simp at hg'
      have := h.touch.size
      omega
theorem Ow.alloc {W0 wr : World} {ty : TypeId} {v : Value} {s : List R2} (h : Ow W0 wr ty v s) (o : Obj) : Ow W0 (wr.alloc o) ty v s := ⟨h.own.alloc _, h.new, h.touch.alloc _⟩

theorem Ow.still {W0 wr w' : World} {ty : TypeId} {v : Value} {s : List R2} (h : Ow W0 wr ty v s) (tc : Touch (fun _ => False) wr w') : Ow W0 w' ty v s := by
  refine ⟨⟨h.own.1, ?_⟩, h.new, h.touch.trans tc (fun _ _ e => e)⟩
  rcases h.own.2 with h0 | ⟨g, cap, cur, hv, hg, hh, rest⟩
  · exact .inl h0
  · exact .inr ⟨g, cap, cur, hv, hg, (tc.block g (lt_of_block hh) id).trans hh, rest⟩
theorem row_new (w : World) (l : List Value) (t : TypeId) : ∀ (j : Nat) (u : Value), l[j]? = some u → (w.alloc (.cells l.toArray t)).cell? ((⟨w.heap.size, 0, none⟩ : Addr).add j) = some u := by
  intro j u hj
  have hb : (w.alloc (.cells l.toArray t)).heap[w.heap.size]? = some (.cells l.toArray t (0, 0)) := by
    show (w.heap.push _)[_]? = _
    simp
  rw [add_g]
  unfold World.cell?
  rw [hb]
  simpa using hj
theorem Ow.set {W0 wr : World} {ty : TypeId} {g n cap : Nat} {s0 : List R2} {t1 t2 : Int} (h : Ow W0 wr ty (.slice (some ⟨g, 0, none⟩) n cap) (s0 ++ [(t1, t2)])) (hn : n = (s0 ++ [(t1, t2)]).length) (y : Int) : Ow W0 (wr.setCell ⟨g, s0.length * 2 + 1, none⟩ (.int .i64 y)) ty (.slice (some ⟨g, 0, none⟩) n cap) (s0 ++ [(t1, y)]) := by
  subst hn
  refine ⟨?_, h.new, h.touch.setCell (p := ⟨g, _, none⟩) (fun hlt => by have := h.new g rfl; simp at hlt; omega) _⟩
  have := own_set h.own (s0.length * 2 + 1) (.int .i64 y)
  have e : (flatR (s0 ++ [(t1, t2)])).set (s0.length * 2 + 1) (.int .i64 y) = flatR (s0 ++ [(t1, y)]) := by
    rw [flatR_append, flatR_append, List.set_append_right _ _ (by rw [length_flatR]; omega), length_flatR]
    rw [show s0.length * 2 + 1 - s0.length * 2 = 1 by omega]
    rfl
  rw [e] at this
  simpa using this
theorem Ow.last {W0 wr : World} {ty : TypeId} {v : Value} {s0 : List R2} {t1 t2 : Int} (h : Ow W0 wr ty v (s0 ++ [(t1, t2)])) : ∃ g cap, v = .slice (some ⟨g, 0, none⟩) (s0.length + 1) cap ∧ wr.cell? ⟨g, s0.length * 2 + 1, none⟩ = some (.int .i64 t2) ∧ wr.frozen? ⟨g, s0.length * 2 + 1, none⟩ = false ∧ g < wr.heap.size := by
  have hl : (s0 ++ [(t1, t2)]).length = s0.length + 1 := by simp
  rcases h.own.2 with ⟨_, h0⟩ | ⟨g, cap, cur, hv, hg, hh, rest⟩
  · omega
  · refine ⟨g, cap, by rw [hv, hl], ?_, by simp [World.frozen?, hh], lt_of_block hh⟩
    have := h.own.cells (g := g) (by rw [hv]; rfl) (s0.length * 2 + 1) (.int .i64 t2) (by
      have := flatR_get1 (s0 ++ [(t1, t2)]) s0.length (by simp)
      rw [show 2 * s0.length + 1 = s0.length * 2 + 1 by omega] at this
      simpa using this)
    rwa [add_g] at this
theorem jstep_join (s0 : List R2) (t1 t2 x y : Int) (h : x ≤ t2 + 1) : jstep (s0 ++ [(t1, t2)]) (x, y) = s0 ++ [(t1, max t2 y)] := by
  unfold jstep
  simp [h]
theorem jstep_more (s0 : List R2) (t1 t2 x y : Int) (h : ¬ x ≤ t2 + 1) : jstep (s0 ++ [(t1, t2)]) (x, y) = s0 ++ [(t1, t2)] ++ [(x, y)] := by
  unfold jstep
  simp [h]

set_option maxRecDepth 100000 in
set_option maxHeartbeats 4000000 in
theorem joined_any (a : Option Addr) (cap : Nat) (l : List R2) (w : World) (hl : Rg w a l) (hin : ∀ x ∈ l, inB x) (hb : l.length * 16 ≤ 140737488351232) :
    Calls Tryz.prog 37 #[.slice a l.length cap] w fun e w' => ∃ v, e = .returned v ∧ Ow w w' 25 v (joinedL l) := by
  obtain ⟨i0, hi33, hz0, hz1, hz2⟩ := info_parts info33
  have HL := hid hl
  have HIN := hid hin
  clear hl hin
  go_enter Tryz.func37, Tryz.ntmps37
  go_wp2_with fail
  go_loopg [3, 9] l.length (fun gk v i wr => ∃ k : Nat, k + gk = l.length ∧ i = .int .i64 (k : Nat) ∧ Ow w wr 25 v (joinedL (l.take k)))
  case atStart => exact ⟨0, by omega, rfl, ⟨by simpa [joinedL, flatR] using World.ownsRow_nil _ _ _ _, by intro g h; simp [Value.ownBlock] at h, Touch.refl _ _⟩⟩
  case round =>
    obtain ⟨k, hk, rfl, how⟩ := hrel
    have OW := hid how
    have HLR := hid (HL.out.new how.touch)
    have hlen := joined_len l k (by omega)
    have HJI := hid (joined_in l HIN.out k (by omega))
    obtain ⟨av, cv, hav⟩ := own_shape how.own
    subst hav
    clear how
    by_cases hlt : k < l.length
    · obtain ⟨b, o, ha, hbl, hcell⟩ : ∃ b o, a = some ⟨b, o, none⟩ ∧ b < wr.heap.size ∧ ∀ i (h : i < l.length), wr.cell? ⟨b, o + i * 2, none⟩ = some (.int .i64 (l[i]).1) ∧ wr.cell? ⟨b, o + i * 2 + 1, none⟩ = some (.int .i64 (l[i]).2) := by
        rcases HLR.out with h | h
        · rw [h] at hlt; simp at hlt
        · exact h
      subst ha
      obtain ⟨d0, d1⟩ := hcell k hlt
      obtain ⟨r, hr⟩ : ∃ r, r = l[k] := ⟨_, rfl⟩
      rw [← hr] at d0 d1
      have HR := hid hr
      have hri := HIN.out l[k] (List.getElem_mem hlt)
      rw [← hr] at hri
      obtain ⟨x, y⟩ := r
      dsimp only at d0 d1
      clear hcell hr
      obtain ⟨M, hM⟩ : ∃ M, M = (joinedL (l.take k)).length := ⟨_, rfl⟩
      rw [← hM]
      have HM := hid hM
      rw [← hM] at hlen
      clear hM
      have JS := hid (show joinedL (l.take (k + 1)) = jstep (joinedL (l.take k)) (x, y) from by rw [foldl_take_succ l k hlt, ← HR.out])
      obtain ⟨s, hs⟩ : ∃ s, s = joinedL (l.take k) := ⟨_, rfl⟩
      rw [← hs] at OW HM HJI JS
      clear hs
      rw [← HM.out] at OW
      have hsl : s.length ≤ k := by rw [← HM.out]; exact hlen
      rcases List.eq_nil_or_concat s with hs0 | ⟨s0, t, hs0⟩
      · subst hs0
        have hM0 : M = 0 := HM.out
        subst hM0
        go_upto_region 6 with fail
        obtain ⟨rb, hrb⟩ : ∃ rb, rb = wr.heap.size := ⟨_, rfl⟩
        have OA := hid (OW.out.alloc (.cells #[.int .i64 x, .int .i64 y] 60))
        have RB := hid (show (wr.alloc (.cells #[.int .i64 x, .int .i64 y] 60)).heap[rb]? = some (.cells #[.int .i64 x, .int .i64 y] 60 (0, 0)) from by rw [hrb]; exact three_new _ _ _)
        rw [← hrb]
        clear hrb OW
        generalize wr.alloc (.cells #[.int .i64 x, .int .i64 y] 60) = wA at *
        have p0 := cell_two0 RB.out
        have p1 := cell_two1 RB.out
        go_cut [28] (fun v wd => v = .bool false ∧ Touch (fun _ => False) wA wd)
        case first =>
          go_quiet (fail)
          go_wp2
          go_meet
          case rel => exact ⟨rfl, (Touch.refl _ wA).drewN _⟩
        obtain ⟨rfl, tc⟩ := hcut
        have OB := hid (OA.out.still tc)
        have hrbl := lt_of_block RB.out
        have RC := hid (show wc.heap[rb]? = some (.cells #[.int .i64 x, .int .i64 y] 60 (0, 0)) from (tc.block rb hrbl id).trans RB.out)
        have q0 := cell_two0 RC.out
        have q1 := cell_two1 RC.out
        clear tc p0 p1
        go_wp2_with (at_builtin; refine wpList_append_own_at _ rfl _ _ 25 rfl 0 60 i0 (.agg #[.int .i64 0, .int .i64 0]) 2 16 Tryz.underlying25 hi33 hz0 hz1 hz2 rfl (by decide) _ _ _ rfl (OB.out.own.alloc _) ⟨wc.heap.size, 0, none⟩ 1 1 [.int .i64 x, .int .i64 y] rfl rfl (row_new wc [.int .i64 x, .int .i64 y] 60) (by intro u hu; simp at hu; rcases hu with rfl | rfl <;> rfl) (by unfold maxLen; omega) (by omega) (Nat.zero_le _) ?_)
        intro v' w4 hown hgrow _ hat
        have OC := hid (OB.out.more (x := (x, y)) hown hgrow hat)
        clear hown hgrow hat
        go_wp2
        go_roundg (gk - 1)
        case measure => omega
        case rel =>
          refine ⟨k + 1, by omega, by go_num, ?_⟩
          rw [JS.out]
          exact OC.out
      · obtain ⟨t1, t2⟩ := t
        rw [List.concat_eq_append] at hs0
        subst hs0
        have ht := HJI.out (t1, t2) (by simp)
        have ht2 : 0 ≤ t2 ∧ t2 ≤ 1114111 := by unfold inB at ht; dsimp only at ht; omega
        have hMl : M = s0.length + 1 := by rw [HM.out]; simp
        obtain ⟨m, hm⟩ : ∃ m, m = s0.length := ⟨_, rfl⟩
        rw [← hm] at hMl
        have HMM := hid hm
        subst hMl
        clear ht hm
        go_upto_region 6 with fail
        obtain ⟨rb, hrb⟩ : ∃ rb, rb = wr.heap.size := ⟨_, rfl⟩
        have OA := hid (OW.out.alloc (.cells #[.int .i64 x, .int .i64 y] 60))
        have RB := hid (show (wr.alloc (.cells #[.int .i64 x, .int .i64 y] 60)).heap[rb]? = some (.cells #[.int .i64 x, .int .i64 y] 60 (0, 0)) from by rw [hrb]; exact three_new _ _ _)
        rw [← hrb]
        clear hrb OW
        generalize wr.alloc (.cells #[.int .i64 x, .int .i64 y] 60) = wA at *
        have p0 := cell_two0 RB.out
        have p1 := cell_two1 RB.out
        obtain ⟨g, cap2, hv, g0, gf, hgl⟩ := OA.out.last
        rw [← HMM.out] at g0 gf hv
        simp only [Value.slice.injEq] at hv
        obtain ⟨rfl, _, rfl⟩ := hv
        go_cut [28] (fun v wd => v = .bool (decide (x ≤ t2 + 1)) ∧ Touch (fun _ => False) wA wd)
        case first =>
          go_quiet (fail)
          go_wp2
          go_meet
          case rel => exact ⟨rfl, (Touch.refl _ wA).drewN _⟩
        obtain ⟨rfl, tc⟩ := hcut
        by_cases hj : x ≤ t2 + 1
        · rw [decide_eq_true hj]
          have HJ := hid hj
          have OB := hid (OA.out.still tc)
          have hrbl := lt_of_block RB.out
          have RC := hid (show wc.heap[rb]? = some (.cells #[.int .i64 x, .int .i64 y] 60 (0, 0)) from (tc.block rb hrbl id).trans RB.out)
          have q0 := cell_two0 RC.out
          have q1 := cell_two1 RC.out
          obtain ⟨g', cap3, hv3, k0, kf, hgl2⟩ := OB.out.last
          rw [← HMM.out] at k0 kf hv3
          simp only [Value.slice.injEq, Option.some.injEq, Addr.mk.injEq, true_and, and_true] at hv3
          obtain ⟨rfl, rfl⟩ := hv3
          clear hj tc p0 p1 g0 gf
          by_cases hc : t2 < y
          · have OS := hid (OB.out.set (by simp [HMM.out]) y)
            rw [← HMM.out] at OS
            have HC := hid (show max t2 y = y by omega)
            go_wp2_with fail
            go_region
            all_goals
              go_wp2
              go_roundg (gk - 1)
              case measure => omega
              case rel =>
                refine ⟨k + 1, by omega, by go_num, ?_⟩
                rw [JS.out, jstep_join _ _ _ _ _ (by have := HJ.out; omega), HC.out]
                exact OS.out.still ((Touch.refl _ _).drew)
          · have OS := hid (OB.out.set (by simp [HMM.out]) t2)
            rw [← HMM.out] at OS
            have HC := hid (show max t2 y = t2 by omega)
            go_wp2_with fail
            go_region
            all_goals
              go_wp2
              go_roundg (gk - 1)
              case measure => omega
              case rel =>
                refine ⟨k + 1, by omega, by go_num, ?_⟩
                rw [JS.out, jstep_join _ _ _ _ _ (by have := HJ.out; omega), HC.out]
                exact OS.out.still ((Touch.refl _ _).drew)
        · rw [decide_eq_false hj]
          have HJ := hid hj
          clear hj
          have OB := hid (OA.out.still tc)
          have hrbl := lt_of_block RB.out
          have RC := hid (show wc.heap[rb]? = some (.cells #[.int .i64 x, .int .i64 y] 60 (0, 0)) from (tc.block rb hrbl id).trans RB.out)
          have q0 := cell_two0 RC.out
          have q1 := cell_two1 RC.out
          clear tc p0 p1
          go_wp2_with (at_builtin; refine wpList_append_own_at _ rfl _ _ 25 rfl 0 60 i0 (.agg #[.int .i64 0, .int .i64 0]) 2 16 Tryz.underlying25 hi33 hz0 hz1 hz2 rfl (by decide) _ _ _ rfl (OB.out.own.alloc _) ⟨wc.heap.size, 0, none⟩ 1 1 [.int .i64 x, .int .i64 y] rfl rfl (row_new wc [.int .i64 x, .int .i64 y] 60) (by intro u hu; simp at hu; rcases hu with rfl | rfl <;> rfl) (by unfold maxLen; omega) (by omega) (Nat.zero_le _) ?_)
          intro v' w4 hown hgrow _ hat
          have OC := hid (OB.out.more (x := (x, y)) (by rw [List.length_append]; exact hown) hgrow hat)
          clear hown hgrow hat
          go_wp2
          go_roundg (gk - 1)
          case measure => omega
          case rel =>
            refine ⟨k + 1, by omega, by go_num, ?_⟩
            rw [JS.out, jstep_more _ _ _ _ _ (by have := HJ.out; omega)]
            exact OC.out
    · obtain rfl : k = l.length := by omega
      go_wp2
      go_ret
      refine ⟨Value.slice av (joinedL (l.take l.length)).length cv, rfl, ?_⟩
      have := OW.out
      rw [List.take_length] at this ⊢
      exact this
end Go.Proofs.YtdhhcefmmojcmaaGreatDoor

/- The sort, the comparison and the count of bits that the program calls: that their texts are those that the library speaks of; no condition. -/
namespace Go.Proofs
open Go.Shelf
def Tryz.sortIv_ren : Go.Shelf.Ren := ⟨fun | 6 => 34 | 15 => 56 | 14 => 55 | 28 => 86 | 29 => 87 | 20 => 78 | 21 => 79 | 22 => 80 | 23 => 81 | 24 => 82 | 25 => 83 | 26 => 84 | 27 => 85 | 46 => 102 | 47 => 103 | 48 => 104 | 49 => 105 | 50 => 106 | 57 => 125 | n => n, fun | 22 => 24 | 24 => 60 | 25 => 93 | 3 => 3 | 39 => 112 | 0 => 0 | 53 => 142 | 55 => 144 | 4 => 4 | 46 => 135 | 45 => 134 | 50 => 139 | 5 => 5 | 9 => 9 | 66 => 157 | 70 => 54 | 76 => 176 | 77 => 100 | n => n, fun | n => n⟩
theorem Tryz.sortIv : Go.Proofs.SlLaysF0.n6 Tryz.prog Tryz.sortIv_ren := {
  mixed := by kernel_rfl
  f6 := ⟨Tryz.f34.name, by decide, Tryz.func34.trans (congrArg some (by kernel_rfl))⟩
  f14 := ⟨Tryz.f55.name, by decide, Tryz.func55.trans (congrArg some (by kernel_rfl))⟩
  f15 := Tryz.func56.trans (congrArg some (by kernel_rfl))
  f20 := ⟨Tryz.f78.name, by decide, Tryz.func78.trans (congrArg some (by kernel_rfl))⟩
  f21 := ⟨Tryz.f79.name, by decide, Tryz.func79.trans (congrArg some (by kernel_rfl))⟩
  f22 := ⟨Tryz.f80.name, by decide, Tryz.func80.trans (congrArg some (by kernel_rfl))⟩
  f23 := ⟨Tryz.f81.name, by decide, Tryz.func81.trans (congrArg some (by kernel_rfl))⟩
  f24 := ⟨Tryz.f82.name, by decide, Tryz.func82.trans (congrArg some (by kernel_rfl))⟩
  f25 := ⟨Tryz.f83.name, by decide, Tryz.func83.trans (congrArg some (by kernel_rfl))⟩
  f26 := ⟨Tryz.f84.name, by decide, Tryz.func84.trans (congrArg some (by kernel_rfl))⟩
  f27 := ⟨Tryz.f85.name, by decide, Tryz.func85.trans (congrArg some (by kernel_rfl))⟩
  f28 := Tryz.func86.trans (congrArg some (by kernel_rfl))
  f29 := Tryz.func87.trans (congrArg some (by kernel_rfl))
  f46 := ⟨Tryz.f102.name, by decide, Tryz.func102.trans (congrArg some (by kernel_rfl))⟩
  f47 := Tryz.func103.trans (congrArg some (by kernel_rfl))
  f48 := Tryz.func104.trans (congrArg some (by kernel_rfl))
  f49 := ⟨Tryz.f105.name, by decide, Tryz.func105.trans (congrArg some (by kernel_rfl))⟩
  f50 := ⟨Tryz.f106.name, by decide, Tryz.func106.trans (congrArg some (by kernel_rfl))⟩
  f57 := ⟨Tryz.f125.name, by decide, Tryz.func125.trans (congrArg some (by kernel_rfl))⟩
  t0 := Tryz.underlying0
  a0 := Tryz.isAgg0
  z0 := Tryz.sizeOf0
  v0 := Tryz.zeroValue0
  t3 := Tryz.underlying3
  a3 := Tryz.isAgg3
  z3 := Tryz.sizeOf3
  v3 := Tryz.zeroValue3
  t4 := Tryz.underlying4
  a4 := Tryz.isAgg4
  z4 := Tryz.sizeOf4
  v4 := Tryz.zeroValue4
  t5 := Tryz.underlying5
  a5 := Tryz.isAgg5
  z5 := Tryz.sizeOf5
  v5 := Tryz.zeroValue5
  t9 := Tryz.underlying9
  a9 := Tryz.isAgg9
  z9 := Tryz.sizeOf9
  v9 := Tryz.zeroValue9
  t22 := Tryz.underlying24
  a22 := Tryz.isAgg24
  z22 := Tryz.sizeOf24
  v22 := Tryz.zeroValue24
  t25 := Tryz.underlying93
  a25 := Tryz.isAgg93
  z25 := Tryz.sizeOf93
  v25 := Tryz.zeroValue93
  t39 := Tryz.underlying112
  a39 := Tryz.isAgg112
  z39 := Tryz.sizeOf112
  v39 := Tryz.zeroValue112
  t45 := Tryz.underlying134
  a45 := Tryz.isAgg134
  z45 := Tryz.sizeOf134
  v45 := Tryz.zeroValue134
  t46 := Tryz.underlying135
  a46 := Tryz.isAgg135
  z46 := Tryz.sizeOf135
  v46 := Tryz.zeroValue135
  t50 := Tryz.underlying139
  a50 := Tryz.isAgg139
  z50 := Tryz.sizeOf139
  v50 := Tryz.zeroValue139
  t53 := Tryz.underlying142
  a53 := Tryz.isAgg142
  z53 := Tryz.sizeOf142
  v53 := Tryz.zeroValue142
  t55 := Tryz.underlying144
  a55 := Tryz.isAgg144
  z55 := Tryz.sizeOf144
  v55 := Tryz.zeroValue144
  t66 := Tryz.underlying157
  a66 := Tryz.isAgg157
  z66 := Tryz.sizeOf157
  v66 := Tryz.zeroValue157
  t70 := Tryz.underlying54
  a70 := Tryz.isAgg54
  z70 := Tryz.sizeOf54
  v70 := Tryz.zeroValue54
  t76 := Tryz.underlying176
  a76 := Tryz.isAgg176
  z76 := Tryz.sizeOf176
  v76 := Tryz.zeroValue176
  t77 := Tryz.underlying100
  a77 := Tryz.isAgg100
  z77 := Tryz.sizeOf100
  v77 := Tryz.zeroValue100 }
def Tryz.cmpInt_ren : Go.Shelf.Ren := ⟨fun | 5 => 36 | 7 => 57 | n => n, fun | 22 => 3 | 3 => 3 | 4 => 4 | n => n, fun | n => n⟩
theorem Tryz.cmpInt : Go.Proofs.SlLaysC2.n5 Tryz.prog Tryz.cmpInt_ren := {
  mixed := by kernel_rfl
  f5 := ⟨Tryz.f36.name, by decide, Tryz.func36.trans (congrArg some (by kernel_rfl))⟩
  f7 := ⟨Tryz.f57.name, by decide, Tryz.func57.trans (congrArg some (by kernel_rfl))⟩
  t3 := Tryz.underlying3
  a3 := Tryz.isAgg3
  z3 := Tryz.sizeOf3
  v3 := Tryz.zeroValue3
  t4 := Tryz.underlying4
  a4 := Tryz.isAgg4
  z4 := Tryz.sizeOf4
  v4 := Tryz.zeroValue4
  t22 := Tryz.underlying3
  a22 := Tryz.isAgg3
  z22 := Tryz.sizeOf3
  v22 := Tryz.zeroValue3 }
def Tryz.bitsLen2_ren : Go.Shelf.Ren := ⟨fun | 125 => 56 | 128 => 86 | 129 => 87 | n => n, fun | 46 => 112 | 3 => 3 | 51 => 142 | 53 => 144 | 4 => 4 | 5 => 5 | 9 => 9 | n => n, fun | n => n⟩
theorem Tryz.bitsLen2 : Go.Proofs.Lays.n125 Tryz.prog Tryz.bitsLen2_ren := {
  mixed := by kernel_rfl
  f125 := Tryz.func56.trans (congrArg some (by kernel_rfl))
  f128 := Tryz.func86.trans (congrArg some (by kernel_rfl))
  f129 := Tryz.func87.trans (congrArg some (by kernel_rfl))
  t3 := Tryz.underlying3
  a3 := Tryz.isAgg3
  z3 := Tryz.sizeOf3
  v3 := Tryz.zeroValue3
  t4 := Tryz.underlying4
  a4 := Tryz.isAgg4
  z4 := Tryz.sizeOf4
  v4 := Tryz.zeroValue4
  t5 := Tryz.underlying5
  a5 := Tryz.isAgg5
  z5 := Tryz.sizeOf5
  v5 := Tryz.zeroValue5
  t9 := Tryz.underlying9
  a9 := Tryz.isAgg9
  z9 := Tryz.sizeOf9
  v9 := Tryz.zeroValue9
  t46 := Tryz.underlying112
  a46 := Tryz.isAgg112
  z46 := Tryz.sizeOf112
  v46 := Tryz.zeroValue112
  t51 := Tryz.underlying142
  a51 := Tryz.isAgg142
  z51 := Tryz.sizeOf142
  v51 := Tryz.zeroValue142
  t53 := Tryz.underlying144
  a53 := Tryz.isAgg144
  z53 := Tryz.sizeOf144
  v53 := Tryz.zeroValue144 }
end Go.Proofs

/- The closure by which ranges are sorted; no condition. -/
namespace Go.Proofs.YtdhhcefmmojcmaaGreatDoor
open Go.Shelf Go.RowKit Go.Lib Go.Sort

set_option maxHeartbeats 1000000 in
theorem closure24 (x y : R2) (W : World) : Calls Tryz.prog 35 #[.agg #[.int .i64 x.1, .int .i64 x.2], .agg #[.int .i64 y.1, .int .i64 y.2]] W fun e w' => e = .returned (.int .i64 (Lib.compareInt x.1 y.1)) ∧ ∃ q os', w' = grow (W.drewN q) os' := by
  have hcon := fun W' => AnyG.cmp_Compare_int Tryz.cmpInt x.1 y.1 W'
  change ∀ W', Calls Tryz.prog 36 _ _ _ at hcon
  generalize Lib.compareInt x.1 y.1 = r at hcon ⊢
  go_enter Tryz.func35, Tryz.ntmps35
  go_wp2_with (go_at_call 36; refine (hcon _).mono ?_; rintro e w' ⟨rfl, rfl⟩)
  go_ret
  exact ⟨rfl, 0, _, by rw [alloc_eq_grow, alloc_eq_grow, grow_grow]; rfl⟩

theorem cmpLays24 (blk off size : Nat) (w : World) : CmpLays Tryz.prog 35 #[] encR 2 (fun x y => Lib.compareInt x.1 y.1) blk off size w :=
  fun _ _ _ _ x y => closure24 x y _

theorem ltLo (x y : Int × Int) : ltOf (fun x y : Int × Int => Lib.compareInt x.1 y.1) x y = decide (x.1 < y.1) := by
  unfold ltOf Lib.compareInt
  by_cases h1 : x.1 < y.1
  · simp [h1]
  · by_cases h2 : y.1 < x.1 <;> simp [h1, h2]

/-- By From is a strict weak order. -/
theorem swoLo : SWO (ltOf fun x y : Int × Int => Lib.compareInt x.1 y.1) where
  irrefl x := by rw [ltLo]; simp
  trans x y z h1 h2 := by rw [ltLo] at *; simp at *; omega
  ntrans x y z h1 h2 := by rw [ltLo] at *; simp at *; omega

theorem sort_row (blk off cap : Nat) (d : Array (Int × Int)) (w : World) (hH : HoldsK encR 2 w blk off d) (hblk : blk < w.heap.size) (hsz : d.size < 4611686018427387904) :
    Calls Tryz.prog 34 #[.slice (some ⟨blk, off, none⟩) d.size cap, .func (.func 35) #[] #[]] w fun e w' => e = .returned (.tuple #[]) ∧ ∃ d' n os, PermIn 0 d.size d d' ∧ SortedIn (ltOf fun x y : Int × Int => Lib.compareInt x.1 y.1) 0 d.size d' ∧ w' = sortWorldK encR 2 w blk off n d' os := by
  have eg : ∀ args w, (callFunc 35 args).run Tryz.prog w = .ok (.enter 35 args) w := enters_of Tryz.func35 (by kernel_rfl) rfl
  exact AnyQ.slices_SortFunc Tryz.sortIv 2 Tryz.isAgg60 Tryz.sizeOf60 encR (fun _ => rfl) (fun x v hv => by simp [encR] at hv; rcases hv with rfl | rfl <;> rfl) (fun x y => Lib.compareInt x.1 y.1) swoLo 35 #[] blk off cap d w eg (cmpLays24 blk off d.size w) hH hblk hsz
end Go.Proofs.YtdhhcefmmojcmaaGreatDoor
