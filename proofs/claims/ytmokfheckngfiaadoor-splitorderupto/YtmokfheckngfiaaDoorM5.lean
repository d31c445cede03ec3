/- Texts of this proof, one behind the other: what each says stands ahead of it. -/
import Derived.Test.YtmokfheckngfiaaDoorM4
import Derived.BigRegion
import Derived.Deep.RegionWith
import Derived.Shelf.SlSortCmp.WholeK
import Derived.Shelf.SlicesG.Cmp
import Derived.Shelf.Small.Bits
import Derived.Ground.SlsfProg
import Derived.Ground.SlgcProg
import Derived.Ground.NamesProg
import Derived.Test.YtmokfheckngfiaaDoorChecked
/- joined: ranges that rise by From, joined; conditions: the ranges are within bounds, and fit into memory. -/
namespace Go.Proofs.YtmokfheckngfiaaDoor.S
open Go.RowKit

theorem own_set {w : World} {base g n cap sz : Nat} {e : TypeId} {xs : List Value} (h : w.ownsRow base e sz (.slice (some ⟨g, 0, none⟩) n cap) n xs) (i : Nat) (x : Value) :
    (w.setCell ⟨g, i, none⟩ x).ownsRow base e sz (.slice (some ⟨g, 0, none⟩) n cap) n (xs.set i x) := by
  obtain ⟨h1, h2⟩ := h
  rcases h2 with ⟨h2, _⟩ | ⟨g', cap', cur, hv, hg, hh, hle, hm, hcs, htk⟩
  · simp at h2
  · simp at hv
    obtain ⟨rfl, rfl⟩ := hv
    refine ⟨by simpa using h1, .inr ⟨g, cap, cur.set! i x, rfl, hg, ?_, hle, hm, by simpa using hcs, ?_⟩⟩
    · have hlt := lt_of_block hh
      have h' : w.heap[g] = .cells cur e (0, 0) := by simpa [Array.getElem?_eq_getElem hlt] using hh
      show (w.heap.modify g _)[g]? = _
      rw [Array.getElem?_eq_getElem (by simpa using hlt), Array.getElem_modify_self, h']
      rfl
    · rw [← htk]
      simp [List.take_set]

/-- One range more behind those that are joined. -/
def jstep (s : List R2) (r : R2) : List R2 :=
  match s.getLast? with
  | none => [r]
  | some t => if r.1 ≤ t.2 + 1 then s.dropLast ++ [(t.1, max t.2 r.2)] else s ++ [r]
def joinedL (l : List R2) : List R2 := l.foldl jstep []
def inB (x : R2) : Prop := 0 ≤ x.1 ∧ x.1 ≤ x.2 ∧ x.2 ≤ 1114111

theorem jstep_len (s : List R2) (r : R2) : (jstep s r).length ≤ s.length + 1 := by
  unfold jstep
  split
  · simp
  · split
    · rw [List.length_append, List.length_dropLast]; simp
    · simp
theorem foldl_take_succ (l : List R2) (k : Nat) (h : k < l.length) : joinedL (l.take (k + 1)) = jstep (joinedL (l.take k)) l[k] := by
  unfold joinedL
  rw [List.take_succ_eq_append_getElem h, List.foldl_append]
  rfl
theorem joined_len (l : List R2) : ∀ k, k ≤ l.length → (joinedL (l.take k)).length ≤ k
  | 0, _ => by simp [joinedL]
  | k + 1, h => by
    rw [foldl_take_succ l k (by omega)]
    have := jstep_len (joinedL (l.take k)) (l[k]'(by omega))
    have := joined_len l k (by omega)
    omega
theorem jstep_in {s : List R2} {r : R2} (hs : ∀ x ∈ s, inB x) (hr : inB r) : ∀ x ∈ jstep s r, inB x := by
  intro x hx
  unfold jstep at hx
  split at hx
  · simp only [List.mem_singleton] at hx
    rw [hx]
    exact hr
  · rename_i t ht
    have hti := hs t (List.mem_of_getLast? ht)
    split at hx
    · rcases List.mem_append.1 hx with h | h
      · exact hs x (List.dropLast_subset _ h)
      · simp only [List.mem_singleton] at h
        rw [h]
        unfold inB at *
        dsimp only
        omega
    · rcases List.mem_append.1 hx with h | h
      · exact hs x h
      · simp only [List.mem_singleton] at h
        rw [h]
        exact hr
theorem joined_in (l : List R2) (hl : ∀ x ∈ l, inB x) : ∀ k, k ≤ l.length → ∀ x ∈ joinedL (l.take k), inB x
  | 0, _ => by simp [joinedL]
  | k + 1, h => by
    rw [foldl_take_succ l k (by omega)]
    exact jstep_in (joined_in l hl k (by omega)) (hl _ (List.getElem_mem _))

/-- Ranges in a list of the call's own. -/
structure Ow (W0 wr : World) (ty : TypeId) (v : Value) (s : List R2) : Prop where
  own : wr.ownsRow 0 38 2 v s.length (flatR s)
  new : ∀ g, v.ownBlock = some g → W0.heap.size ≤ g
  touch : Touch (fun _ => False) W0 wr

theorem Ow.more {W0 wr w1 : World} {ty : TypeId} {v v' : Value} {s : List R2} {x : R2} {o : Obj} (h : Ow W0 wr ty v s) (hown : w1.ownsRow 0 38 2 v' (s.length + 1) (flatR s ++ encR x)) (hg : (wr.alloc o).grownBy w1 v.ownBlock) (hat : v'.ownBlock = v.ownBlock ∨ v'.ownBlock = some (wr.heap.size + 1)) : Ow W0 w1 ty v' (s ++ [x]) := by
  refine ⟨?_, fun g hg' => ?_, (h.touch.alloc o).grown hg (fun k e hk => by have := h.new k e; omega)⟩
  · rw [List.length_append, flatR_append]
    simpa [flatR] using hown
  · rcases hat with e | e
    · exact h.new g (by rw [← e]; exact hg')
    · rw [e] at hg'
      simp at hg'
      have := h.touch.size
      omega
theorem Ow.alloc {W0 wr : World} {ty : TypeId} {v : Value} {s : List R2} (h : Ow W0 wr ty v s) (o : Obj) : Ow W0 (wr.alloc o) ty v s := ⟨h.own.alloc _, h.new, h.touch.alloc _⟩

theorem Ow.still {W0 wr w' : World} {ty : TypeId} {v : Value} {s : List R2} (h : Ow W0 wr ty v s) (tc : Touch (fun _ => False) wr w') : Ow W0 w' ty v s := by
  refine ⟨⟨h.own.1, ?_⟩, h.new, h.touch.trans tc (fun _ _ e => e)⟩
  rcases h.own.2 with h0 | ⟨g, cap, cur, hv, hg, hh, rest⟩
  · exact .inl h0
  · exact .inr ⟨g, cap, cur, hv, hg, (tc.block g (lt_of_block hh) id).trans hh, rest⟩
theorem row_new (w : World) (l : List Value) (t : TypeId) : ∀ (j : Nat) (u : Value), l[j]? = some u → (w.alloc (.cells l.toArray t)).cell? ((⟨w.heap.size, 0, none⟩ : Addr).add j) = some u := by
  intro j u hj
  have hb : (w.alloc (.cells l.toArray t)).heap[w.heap.size]? = some (.cells l.toArray t (0, 0)) := by
    show (w.heap.push _)[_]? = _
    simp
  rw [add_g]
  unfold World.cell?
  rw [hb]
  simpa using hj
theorem Ow.set {W0 wr : World} {ty : TypeId} {g n cap : Nat} {s0 : List R2} {t1 t2 : Int} (h : Ow W0 wr ty (.slice (some ⟨g, 0, none⟩) n cap) (s0 ++ [(t1, t2)])) (hn : n = (s0 ++ [(t1, t2)]).length) (y : Int) : Ow W0 (wr.setCell ⟨g, s0.length * 2 + 1, none⟩ (.int .i64 y)) ty (.slice (some ⟨g, 0, none⟩) n cap) (s0 ++ [(t1, y)]) := by
  subst hn
  refine ⟨?_, h.new, h.touch.setCell (p := ⟨g, _, none⟩) (fun hlt => by have := h.new g rfl; simp at hlt; omega) _⟩
  have := own_set h.own (s0.length * 2 + 1) (.int .i64 y)
  have e : (flatR (s0 ++ [(t1, t2)])).set (s0.length * 2 + 1) (.int .i64 y) = flatR (s0 ++ [(t1, y)]) := by
    rw [flatR_append, flatR_append, List.set_append_right _ _ (by rw [length_flatR]; omega), length_flatR]
    rw [show s0.length * 2 + 1 - s0.length * 2 = 1 by omega]
    rfl
  rw [e] at this
  simpa using this
theorem Ow.last {W0 wr : World} {ty : TypeId} {v : Value} {s0 : List R2} {t1 t2 : Int} (h : Ow W0 wr ty v (s0 ++ [(t1, t2)])) : ∃ g cap, v = .slice (some ⟨g, 0, none⟩) (s0.length + 1) cap ∧ wr.cell? ⟨g, s0.length * 2 + 1, none⟩ = some (.int .i64 t2) ∧ wr.frozen? ⟨g, s0.length * 2 + 1, none⟩ = false ∧ g < wr.heap.size := by
  have hl : (s0 ++ [(t1, t2)]).length = s0.length + 1 := by simp
  rcases h.own.2 with ⟨_, h0⟩ | ⟨g, cap, cur, hv, hg, hh, rest⟩
  · omega
  · refine ⟨g, cap, by rw [hv, hl], ?_, by simp [World.frozen?, hh], lt_of_block hh⟩
    have := h.own.cells (g := g) (by rw [hv]; rfl) (s0.length * 2 + 1) (.int .i64 t2) (by
      have := flatR_get1 (s0 ++ [(t1, t2)]) s0.length (by simp)
      rw [show 2 * s0.length + 1 = s0.length * 2 + 1 by omega] at this
      simpa using this)
    rwa [add_g] at this
theorem jstep_join (s0 : List R2) (t1 t2 x y : Int) (h : x ≤ t2 + 1) : jstep (s0 ++ [(t1, t2)]) (x, y) = s0 ++ [(t1, max t2 y)] := by
  unfold jstep
  simp [h]
theorem jstep_more (s0 : List R2) (t1 t2 x y : Int) (h : ¬ x ≤ t2 + 1) : jstep (s0 ++ [(t1, t2)]) (x, y) = s0 ++ [(t1, t2)] ++ [(x, y)] := by
  unfold jstep
  simp [h]

set_option maxRecDepth 100000 in
set_option maxHeartbeats 4000000 in
theorem joined_any (a : Option Addr) (cap : Nat) (l : List R2) (w : World) (hl : Rg w a l) (hin : ∀ x ∈ l, inB x) (hb : l.length * 16 ≤ 140737488351232) :
    Calls Tryd.prog 40 #[.slice a l.length cap] w fun e w' => ∃ v, e = .returned v ∧ Ow w w' 35 v (joinedL l) := by
  obtain ⟨i0, hi33, hz0, hz1, hz2⟩ := info_parts info33
  have HL := hid hl
  have HIN := hid hin
  clear hl hin
  go_enter Tryd.func40, Tryd.ntmps40
  go_wp2_with fail
  go_loopg [3, 9] l.length (fun gk v i wr => ∃ k : Nat, k + gk = l.length ∧ i = .int .i64 (k : Nat) ∧ Ow w wr 35 v (joinedL (l.take k)))
  case atStart => exact ⟨0, by omega, rfl, ⟨by simpa [joinedL, flatR] using World.ownsRow_nil _ _ _ _, by intro g h; simp [Value.ownBlock] at h, Touch.refl _ _⟩⟩
  case round =>
    obtain ⟨k, hk, rfl, how⟩ := hrel
    have OW := hid how
    have HLR := hid (HL.out.new how.touch)
    have hlen := joined_len l k (by omega)
    have HJI := hid (joined_in l HIN.out k (by omega))
    obtain ⟨av, cv, hav⟩ := own_shape how.own
    subst hav
    clear how
    by_cases hlt : k < l.length
    · obtain ⟨b, o, ha, hbl, hcell⟩ : ∃ b o, a = some ⟨b, o, none⟩ ∧ b < wr.heap.size ∧ ∀ i (h : i < l.length), wr.cell? ⟨b, o + i * 2, none⟩ = some (.int .i64 (l[i]).1) ∧ wr.cell? ⟨b, o + i * 2 + 1, none⟩ = some (.int .i64 (l[i]).2) := by
        rcases HLR.out with h | h
        · rw [h] at hlt; simp at hlt
        · exact h
      subst ha
      obtain ⟨d0, d1⟩ := hcell k hlt
      obtain ⟨r, hr⟩ : ∃ r, r = l[k] := ⟨_, rfl⟩
      rw [← hr] at d0 d1
      have HR := hid hr
      have hri := HIN.out l[k] (List.getElem_mem hlt)
      rw [← hr] at hri
      obtain ⟨x, y⟩ := r
      dsimp only at d0 d1
      clear hcell hr
      obtain ⟨M, hM⟩ : ∃ M, M = (joinedL (l.take k)).length := ⟨_, rfl⟩
      rw [← hM]
      have HM := hid hM
      rw [← hM] at hlen
      clear hM
      have JS := hid (show joinedL (l.take (k + 1)) = jstep (joinedL (l.take k)) (x, y) from by rw [foldl_take_succ l k hlt, ← HR.out])
      obtain ⟨s, hs⟩ : ∃ s, s = joinedL (l.take k) := ⟨_, rfl⟩
      rw [← hs] at OW HM HJI JS
      clear hs
      rw [← HM.out] at OW
      have hsl : s.length ≤ k := by rw [← HM.out]; exact hlen
      rcases List.eq_nil_or_concat s with hs0 | ⟨s0, t, hs0⟩
      · subst hs0
        have hM0 : M = 0 := HM.out
        subst hM0
        go_upto_region 6 with fail
        obtain ⟨rb, hrb⟩ : ∃ rb, rb = wr.heap.size := ⟨_, rfl⟩
        have OA := hid (OW.out.alloc (.cells #[.int .i64 x, .int .i64 y] 38))
        have RB := hid (show (wr.alloc (.cells #[.int .i64 x, .int .i64 y] 38)).heap[rb]? = some (.cells #[.int .i64 x, .int .i64 y] 38 (0, 0)) from by rw [hrb]; exact three_new _ _ _)
        rw [← hrb]
        clear hrb OW
        generalize wr.alloc (.cells #[.int .i64 x, .int .i64 y] 38) = wA at *
        have p0 := cell_two0 RB.out
        have p1 := cell_two1 RB.out
        go_cut [28] (fun v wd => v = .bool false ∧ Touch (fun _ => False) wA wd)
        case first =>
          go_quiet (fail)
          go_wp2
          go_meet
          case rel => exact ⟨rfl, (Touch.refl _ wA).drewN _⟩
        obtain ⟨rfl, tc⟩ := hcut
        have OB := hid (OA.out.still tc)
        have hrbl := lt_of_block RB.out
        have RC := hid (show wc.heap[rb]? = some (.cells #[.int .i64 x, .int .i64 y] 38 (0, 0)) from (tc.block rb hrbl id).trans RB.out)
        have q0 := cell_two0 RC.out
        have q1 := cell_two1 RC.out
        clear tc p0 p1
        go_wp2_with (at_builtin; refine wpList_append_own_at _ rfl _ _ 35 rfl 0 38 i0 (.agg #[.int .i64 0, .int .i64 0]) 2 16 Tryd.underlying35 hi33 hz0 hz1 hz2 rfl (by decide) _ _ _ rfl (OB.out.own.alloc _) ⟨wc.heap.size, 0, none⟩ 1 1 [.int .i64 x, .int .i64 y] rfl rfl (row_new wc [.int .i64 x, .int .i64 y] 38) (by intro u hu; simp at hu; rcases hu with rfl | rfl <;> rfl) (by unfold maxLen; omega) (by omega) (Nat.zero_le _) ?_)
        intro v' w4 hown hgrow _ hat
        have OC := hid (OB.out.more (x := (x, y)) hown hgrow hat)
        clear hown hgrow hat
        go_wp2
        go_roundg (gk - 1)
        case measure => omega
        case rel =>
          refine ⟨k + 1, by omega, by go_num, ?_⟩
          rw [JS.out]
          exact OC.out
      · obtain ⟨t1, t2⟩ := t
        rw [List.concat_eq_append] at hs0
        subst hs0
        have ht := HJI.out (t1, t2) (by simp)
        have ht2 : 0 ≤ t2 ∧ t2 ≤ 1114111 := by unfold inB at ht; dsimp only at ht; omega
        have hMl : M = s0.length + 1 := by rw [HM.out]; simp
        obtain ⟨m, hm⟩ : ∃ m, m = s0.length := ⟨_, rfl⟩
        rw [← hm] at hMl
        have HMM := hid hm
        subst hMl
        clear ht hm
        go_upto_region 6 with fail
        obtain ⟨rb, hrb⟩ : ∃ rb, rb = wr.heap.size := ⟨_, rfl⟩
        have OA := hid (OW.out.alloc (.cells #[.int .i64 x, .int .i64 y] 38))
        have RB := hid (show (wr.alloc (.cells #[.int .i64 x, .int .i64 y] 38)).heap[rb]? = some (.cells #[.int .i64 x, .int .i64 y] 38 (0, 0)) from by rw [hrb]; exact three_new _ _ _)
        rw [← hrb]
        clear hrb OW
        generalize wr.alloc (.cells #[.int .i64 x, .int .i64 y] 38) = wA at *
        have p0 := cell_two0 RB.out
        have p1 := cell_two1 RB.out
        obtain ⟨g, cap2, hv, g0, gf, hgl⟩ := OA.out.last
        rw [← HMM.out] at g0 gf hv
        simp only [Value.slice.injEq] at hv
        obtain ⟨rfl, _, rfl⟩ := hv
        go_cut [28] (fun v wd => v = .bool (decide (x ≤ t2 + 1)) ∧ Touch (fun _ => False) wA wd)
        case first =>
          go_quiet (fail)
          go_wp2
          go_meet
          case rel => exact ⟨rfl, (Touch.refl _ wA).drewN _⟩
        obtain ⟨rfl, tc⟩ := hcut
        by_cases hj : x ≤ t2 + 1
        · rw [decide_eq_true hj]
          have HJ := hid hj
          have OB := hid (OA.out.still tc)
          have hrbl := lt_of_block RB.out
          have RC := hid (show wc.heap[rb]? = some (.cells #[.int .i64 x, .int .i64 y] 38 (0, 0)) from (tc.block rb hrbl id).trans RB.out)
          have q0 := cell_two0 RC.out
          have q1 := cell_two1 RC.out
          obtain ⟨g', cap3, hv3, k0, kf, hgl2⟩ := OB.out.last
          rw [← HMM.out] at k0 kf hv3
          simp only [Value.slice.injEq, Option.some.injEq, Addr.mk.injEq, true_and, and_true] at hv3
          obtain ⟨rfl, rfl⟩ := hv3
          clear hj tc p0 p1 g0 gf
          by_cases hc : t2 < y
          · have OS := hid (OB.out.set (by simp [HMM.out]) y)
            rw [← HMM.out] at OS
            have HC := hid (show max t2 y = y by omega)
            go_wp2_with fail
            go_region
            all_goals
              go_wp2
              go_roundg (gk - 1)
              case measure => omega
              case rel =>
                refine ⟨k + 1, by omega, by go_num, ?_⟩
                rw [JS.out, jstep_join _ _ _ _ _ (by have := HJ.out; omega), HC.out]
                exact OS.out.still ((Touch.refl _ _).drew)
          · have OS := hid (OB.out.set (by simp [HMM.out]) t2)
            rw [← HMM.out] at OS
            have HC := hid (show max t2 y = t2 by omega)
            go_wp2_with fail
            go_region
            all_goals
              go_wp2
              go_roundg (gk - 1)
              case measure => omega
              case rel =>
                refine ⟨k + 1, by omega, by go_num, ?_⟩
                rw [JS.out, jstep_join _ _ _ _ _ (by have := HJ.out; omega), HC.out]
                exact OS.out.still ((Touch.refl _ _).drew)
        · rw [decide_eq_false hj]
          have HJ := hid hj
          clear hj
          have OB := hid (OA.out.still tc)
          have hrbl := lt_of_block RB.out
          have RC := hid (show wc.heap[rb]? = some (.cells #[.int .i64 x, .int .i64 y] 38 (0, 0)) from (tc.block rb hrbl id).trans RB.out)
          have q0 := cell_two0 RC.out
          have q1 := cell_two1 RC.out
          clear tc p0 p1
          go_wp2_with (at_builtin; refine wpList_append_own_at _ rfl _ _ 35 rfl 0 38 i0 (.agg #[.int .i64 0, .int .i64 0]) 2 16 Tryd.underlying35 hi33 hz0 hz1 hz2 rfl (by decide) _ _ _ rfl (OB.out.own.alloc _) ⟨wc.heap.size, 0, none⟩ 1 1 [.int .i64 x, .int .i64 y] rfl rfl (row_new wc [.int .i64 x, .int .i64 y] 38) (by intro u hu; simp at hu; rcases hu with rfl | rfl <;> rfl) (by unfold maxLen; omega) (by omega) (Nat.zero_le _) ?_)
          intro v' w4 hown hgrow _ hat
          have OC := hid (OB.out.more (x := (x, y)) (by rw [List.length_append]; exact hown) hgrow hat)
          clear hown hgrow hat
          go_wp2
          go_roundg (gk - 1)
          case measure => omega
          case rel =>
            refine ⟨k + 1, by omega, by go_num, ?_⟩
            rw [JS.out, jstep_more _ _ _ _ _ (by have := HJ.out; omega)]
            exact OC.out
    · obtain rfl : k = l.length := by omega
      go_wp2
      go_ret
      refine ⟨Value.slice av (joinedL (l.take l.length)).length cv, rfl, ?_⟩
      have := OW.out
      rw [List.take_length] at this ⊢
      exact this
end Go.Proofs.YtmokfheckngfiaaDoor.S

/- The sort, the comparison and the count of bits that the program calls: that their texts are those that the library speaks of; no condition. -/
namespace Go.Proofs
open Go.Shelf
def Tryd.sortIv_ren : Go.Shelf.Ren := ⟨fun | 6 => 37 | 15 => 53 | 14 => 52 | 28 => 75 | 29 => 76 | 20 => 67 | 21 => 68 | 22 => 69 | 23 => 70 | 24 => 71 | 25 => 72 | 26 => 73 | 27 => 74 | 46 => 86 | 47 => 87 | 48 => 88 | 49 => 89 | 50 => 90 | 57 => 111 | n => n, fun | 22 => 34 | 24 => 38 | 25 => 66 | 3 => 3 | 39 => 73 | 0 => 0 | 53 => 108 | 55 => 110 | 4 => 4 | 46 => 102 | 45 => 101 | 50 => 24 | 5 => 5 | 9 => 9 | 66 => 121 | 70 => 125 | 76 => 139 | 77 => 75 | n => n, fun | n => n⟩
theorem Tryd.sortIv : Go.Proofs.SlLaysF0.n6 Tryd.prog Tryd.sortIv_ren := {
  mixed := by kernel_rfl
  f6 := ⟨Tryd.f37.name, by decide, Tryd.func37.trans (congrArg some (by kernel_rfl))⟩
  f14 := ⟨Tryd.f52.name, by decide, Tryd.func52.trans (congrArg some (by kernel_rfl))⟩
  f15 := Tryd.func53.trans (congrArg some (by kernel_rfl))
  f20 := ⟨Tryd.f67.name, by decide, Tryd.func67.trans (congrArg some (by kernel_rfl))⟩
  f21 := ⟨Tryd.f68.name, by decide, Tryd.func68.trans (congrArg some (by kernel_rfl))⟩
  f22 := ⟨Tryd.f69.name, by decide, Tryd.func69.trans (congrArg some (by kernel_rfl))⟩
  f23 := ⟨Tryd.f70.name, by decide, Tryd.func70.trans (congrArg some (by kernel_rfl))⟩
  f24 := ⟨Tryd.f71.name, by decide, Tryd.func71.trans (congrArg some (by kernel_rfl))⟩
  f25 := ⟨Tryd.f72.name, by decide, Tryd.func72.trans (congrArg some (by kernel_rfl))⟩
  f26 := ⟨Tryd.f73.name, by decide, Tryd.func73.trans (congrArg some (by kernel_rfl))⟩
  f27 := ⟨Tryd.f74.name, by decide, Tryd.func74.trans (congrArg some (by kernel_rfl))⟩
  f28 := Tryd.func75.trans (congrArg some (by kernel_rfl))
  f29 := Tryd.func76.trans (congrArg some (by kernel_rfl))
  f46 := ⟨Tryd.f86.name, by decide, Tryd.func86.trans (congrArg some (by kernel_rfl))⟩
  f47 := Tryd.func87.trans (congrArg some (by kernel_rfl))
  f48 := Tryd.func88.trans (congrArg some (by kernel_rfl))
  f49 := ⟨Tryd.f89.name, by decide, Tryd.func89.trans (congrArg some (by kernel_rfl))⟩
  f50 := ⟨Tryd.f90.name, by decide, Tryd.func90.trans (congrArg some (by kernel_rfl))⟩
  f57 := ⟨Tryd.f111.name, by decide, Tryd.func111.trans (congrArg some (by kernel_rfl))⟩
  t0 := Tryd.underlying0
  a0 := Tryd.isAgg0
  z0 := Tryd.sizeOf0
  v0 := Tryd.zeroValue0
  t3 := Tryd.underlying3
  a3 := Tryd.isAgg3
  z3 := Tryd.sizeOf3
  v3 := Tryd.zeroValue3
  t4 := Tryd.underlying4
  a4 := Tryd.isAgg4
  z4 := Tryd.sizeOf4
  v4 := Tryd.zeroValue4
  t5 := Tryd.underlying5
  a5 := Tryd.isAgg5
  z5 := Tryd.sizeOf5
  v5 := Tryd.zeroValue5
  t9 := Tryd.underlying9
  a9 := Tryd.isAgg9
  z9 := Tryd.sizeOf9
  v9 := Tryd.zeroValue9
  t22 := Tryd.underlying34
  a22 := Tryd.isAgg34
  z22 := Tryd.sizeOf34
  v22 := Tryd.zeroValue34
  t25 := Tryd.underlying66
  a25 := Tryd.isAgg66
  z25 := Tryd.sizeOf66
  v25 := Tryd.zeroValue66
  t39 := Tryd.underlying73
  a39 := Tryd.isAgg73
  z39 := Tryd.sizeOf73
  v39 := Tryd.zeroValue73
  t45 := Tryd.underlying101
  a45 := Tryd.isAgg101
  z45 := Tryd.sizeOf101
  v45 := Tryd.zeroValue101
  t46 := Tryd.underlying102
  a46 := Tryd.isAgg102
  z46 := Tryd.sizeOf102
  v46 := Tryd.zeroValue102
  t50 := Tryd.underlying24
  a50 := Tryd.isAgg24
  z50 := Tryd.sizeOf24
  v50 := Tryd.zeroValue24
  t53 := Tryd.underlying108
  a53 := Tryd.isAgg108
  z53 := Tryd.sizeOf108
  v53 := Tryd.zeroValue108
  t55 := Tryd.underlying110
  a55 := Tryd.isAgg110
  z55 := Tryd.sizeOf110
  v55 := Tryd.zeroValue110
  t66 := Tryd.underlying121
  a66 := Tryd.isAgg121
  z66 := Tryd.sizeOf121
  v66 := Tryd.zeroValue121
  t70 := Tryd.underlying125
  a70 := Tryd.isAgg125
  z70 := Tryd.sizeOf125
  v70 := Tryd.zeroValue125
  t76 := Tryd.underlying139
  a76 := Tryd.isAgg139
  z76 := Tryd.sizeOf139
  v76 := Tryd.zeroValue139
  t77 := Tryd.underlying75
  a77 := Tryd.isAgg75
  z77 := Tryd.sizeOf75
  v77 := Tryd.zeroValue75 }
def Tryd.cmpInt_ren : Go.Shelf.Ren := ⟨fun | 5 => 39 | 7 => 54 | n => n, fun | 22 => 3 | 3 => 3 | 4 => 4 | n => n, fun | n => n⟩
theorem Tryd.cmpInt : Go.Proofs.SlLaysC2.n5 Tryd.prog Tryd.cmpInt_ren := {
  mixed := by kernel_rfl
  f5 := ⟨Tryd.f39.name, by decide, Tryd.func39.trans (congrArg some (by kernel_rfl))⟩
  f7 := ⟨Tryd.f54.name, by decide, Tryd.func54.trans (congrArg some (by kernel_rfl))⟩
  t3 := Tryd.underlying3
  a3 := Tryd.isAgg3
  z3 := Tryd.sizeOf3
  v3 := Tryd.zeroValue3
  t4 := Tryd.underlying4
  a4 := Tryd.isAgg4
  z4 := Tryd.sizeOf4
  v4 := Tryd.zeroValue4
  t22 := Tryd.underlying3
  a22 := Tryd.isAgg3
  z22 := Tryd.sizeOf3
  v22 := Tryd.zeroValue3 }
def Tryd.bitsLen2_ren : Go.Shelf.Ren := ⟨fun | 125 => 53 | 128 => 75 | 129 => 76 | n => n, fun | 46 => 73 | 3 => 3 | 51 => 108 | 53 => 110 | 4 => 4 | 5 => 5 | 9 => 9 | n => n, fun | n => n⟩
theorem Tryd.bitsLen2 : Go.Proofs.Lays.n125 Tryd.prog Tryd.bitsLen2_ren := {
  mixed := by kernel_rfl
  f125 := Tryd.func53.trans (congrArg some (by kernel_rfl))
  f128 := Tryd.func75.trans (congrArg some (by kernel_rfl))
  f129 := Tryd.func76.trans (congrArg some (by kernel_rfl))
  t3 := Tryd.underlying3
  a3 := Tryd.isAgg3
  z3 := Tryd.sizeOf3
  v3 := Tryd.zeroValue3
  t4 := Tryd.underlying4
  a4 := Tryd.isAgg4
  z4 := Tryd.sizeOf4
  v4 := Tryd.zeroValue4
  t5 := Tryd.underlying5
  a5 := Tryd.isAgg5
  z5 := Tryd.sizeOf5
  v5 := Tryd.zeroValue5
  t9 := Tryd.underlying9
  a9 := Tryd.isAgg9
  z9 := Tryd.sizeOf9
  v9 := Tryd.zeroValue9
  t46 := Tryd.underlying73
  a46 := Tryd.isAgg73
  z46 := Tryd.sizeOf73
  v46 := Tryd.zeroValue73
  t51 := Tryd.underlying108
  a51 := Tryd.isAgg108
  z51 := Tryd.sizeOf108
  v51 := Tryd.zeroValue108
  t53 := Tryd.underlying110
  a53 := Tryd.isAgg110
  z53 := Tryd.sizeOf110
  v53 := Tryd.zeroValue110 }
end Go.Proofs

/- The closure by which ranges are sorted; no condition. -/
namespace Go.Proofs.YtmokfheckngfiaaDoor.S
open Go.Shelf Go.RowKit Go.Lib Go.Sort

set_option maxHeartbeats 1000000 in
theorem closure24 (x y : R2) (W : World) : Calls Tryd.prog 38 #[.agg #[.int .i64 x.1, .int .i64 x.2], .agg #[.int .i64 y.1, .int .i64 y.2]] W fun e w' => e = .returned (.int .i64 (Lib.compareInt x.1 y.1)) ∧ ∃ q os', w' = grow (W.drewN q) os' := by
  have hcon := fun W' => AnyG.cmp_Compare_int Tryd.cmpInt x.1 y.1 W'
  change ∀ W', Calls Tryd.prog 39 _ _ _ at hcon
  generalize Lib.compareInt x.1 y.1 = r at hcon ⊢
  go_enter Tryd.func38, Tryd.ntmps38
  go_wp2_with (go_at_call 39; refine (hcon _).mono ?_; rintro e w' ⟨rfl, rfl⟩)
  go_ret
  exact ⟨rfl, 0, _, by rw [alloc_eq_grow, alloc_eq_grow, grow_grow]; rfl⟩

theorem cmpLays24 (blk off size : Nat) (w : World) : CmpLays Tryd.prog 38 #[] encR 2 (fun x y => Lib.compareInt x.1 y.1) blk off size w :=
  fun _ _ _ _ x y => closure24 x y _

theorem ltLo (x y : Int × Int) : ltOf (fun x y : Int × Int => Lib.compareInt x.1 y.1) x y = decide (x.1 < y.1) := by
  unfold ltOf Lib.compareInt
  by_cases h1 : x.1 < y.1
  · simp [h1]
  · by_cases h2 : y.1 < x.1 <;> simp [h1, h2]

/-- By From is a strict weak order. -/
theorem swoLo : SWO (ltOf fun x y : Int × Int => Lib.compareInt x.1 y.1) where
  irrefl x := by rw [ltLo]; simp
  trans x y z h1 h2 := by rw [ltLo] at *; simp at *; omega
  ntrans x y z h1 h2 := by rw [ltLo] at *; simp at *; omega

theorem sort_row (blk off cap : Nat) (d : Array (Int × Int)) (w : World) (hH : HoldsK encR 2 w blk off d) (hblk : blk < w.heap.size) (hsz : d.size < 4611686018427387904) :
    Calls Tryd.prog 37 #[.slice (some ⟨blk, off, none⟩) d.size cap, .func (.func 38) #[] #[]] w fun e w' => e = .returned (.tuple #[]) ∧ ∃ d' n os, PermIn 0 d.size d d' ∧ SortedIn (ltOf fun x y : Int × Int => Lib.compareInt x.1 y.1) 0 d.size d' ∧ w' = sortWorldK encR 2 w blk off n d' os := by
  have eg : ∀ args w, (callFunc 38 args).run Tryd.prog w = .ok (.enter 38 args) w := enters_of Tryd.func38 (by kernel_rfl) rfl
  exact AnyQ.slices_SortFunc Tryd.sortIv 2 Tryd.isAgg38 Tryd.sizeOf38 encR (fun _ => rfl) (fun x v hv => by simp [encR] at hv; rcases hv with rfl | rfl <;> rfl) (fun x y => Lib.compareInt x.1 y.1) swoLo 38 #[] blk off cap d w eg (cmpLays24 blk off d.size w) hH hblk hsz
end Go.Proofs.YtmokfheckngfiaaDoor.S
