/- JsonKeys' walk; condition: the two tables of coding lie there. -/
import Derived.Test.YtabhlhgfacpohaaDoorEl
import Derived.Test.YtabhlhgfacpohaaDoorLh
namespace Go.Proofs.YtabhlhgfacpohaaDoor
open Go.RowKit
open Go.Lib

/-- Texts that were handed in. -/
def SR (w : World) (a : Option Addr) (n : Nat) (X : Nat → ByteArray) : Prop := n = 0 ∨ ∃ x, a = some x ∧ x.block < w.heap.size ∧ ∀ i, i < n → w.cell? (x.add i) = some (.string (X i))
theorem SR.new {w w' : World} {a : Option Addr} {n : Nat} {X : Nat → ByteArray} (h : SR w a n X) (t : Touch (fun _ => False) w w') : SR w' a n X := by
  rcases h with h | ⟨x, rfl, hb, hc⟩
  · exact .inl h
  · exact .inr ⟨x, rfl, Nat.lt_of_lt_of_le hb t.size, fun i hi => (t.cell (p := x.add i) (by rw [add_block]; exact hb) id).trans (hc i hi)⟩
def fn (X : Nat → ByteArray) (k : Nat) : List ByteArray := (List.range k).map X
theorem fn_more (X : Nat → ByteArray) (k : Nat) : fn X (k + 1) = fn X k ++ [X k] := by
  unfold fn
  rw [List.range_succ, List.map_append]
  rfl
theorem fn_len (X : Nat → ByteArray) (k : Nat) : (fn X k).length = k := by unfold fn; simp
/-- The object that the law makes. -/
structure LV (w0 w : World) (q : Nat) (v2 v3 : Value) (ks ts : List ByteArray) : Prop where
  obj : w.heap[q]? = some (.cells #[.int .i64 6, .string ⟨#[]⟩, v2, v3] 26 (0, 0))
  keys : SL w v2 ks
  kids : VL w v3 ts
  new2 : ∀ g, v2.ownBlock = some g → q < g
  new3 : ∀ g, v3.ownBlock = some g → q < g
  low : w0.heap.size ≤ q
  touch : Touch (fun _ => False) w0 w
theorem LV.new {w0 w w' : World} {q : Nat} {v2 v3 : Value} {ks ts : List ByteArray} (h : LV w0 w q v2 v3 ks ts) (t : Touch (fun _ => False) w w') : LV w0 w' q v2 v3 ks ts :=
  ⟨(t.block q (lt_of_block h.obj) id).trans h.obj, rowKept h.keys t (fun _ _ e => e), rowKept h.kids t (fun _ _ e => e), h.new2, h.new3, h.low, h.touch.trans t (fun _ _ e => e)⟩
theorem row_apart {w : World} {v2 v3 : Value} {ks ts : List ByteArray} (h2 : SL w v2 ks) (h3 : VL w v3 ts) : ∀ g, v2.ownBlock = some g → v3.ownBlock ≠ some g := by
  intro g e2 e3
  rcases h2.2 with ⟨hv, _⟩ | ⟨g2, _, _, hv, _, hh, _⟩
  · rw [hv] at e2
    cases e2
  · rcases h3.2 with ⟨hv3, _⟩ | ⟨g3, _, _, hv3, _, hh3, _⟩
    · rw [hv3] at e3
      cases e3
    · rw [hv] at e2
      rw [hv3] at e3
      cases e2
      cases e3
      rw [hh] at hh3
      cases hh3
theorem LV.keyed {w0 w2 w3 : World} {q : Nat} {a2 : Option Addr} {n2 c2 : Nat} {v3 : Value} {ks ts : List ByteArray} {K : ByteArray} {v' : Value} {o : Obj} (h : LV w0 w2 q (.slice a2 n2 c2) v3 ks ts)
    (hn : n2 = ks.length) (hown : w3.ownsRow 0 9 1 v' (n2 + 1) (ks.map Value.string ++ [.string K])) (hg : (w2.alloc o).grownBy w3 (Value.slice a2 n2 c2).ownBlock) (hat : v'.ownBlock = (Value.slice a2 n2 c2).ownBlock ∨ v'.ownBlock = some (w2.heap.size + 1)) :
    LV w0 (w3.setCell ⟨q, 2, none⟩ v') q v' v3 (ks ++ [K]) ts := by
  have hq := lt_of_block h.obj
  have T : Touch (fun k => (Value.slice a2 n2 c2).ownBlock = some k) w2 w3 := Touch.grown ((Touch.refl _ w2).alloc o) hg (fun k e _ => e)
  have N : ∀ g, v'.ownBlock = some g → q < g := by
    intro g e
    rcases hat with e2 | e2
    · exact h.new2 g (by rw [← e2]; exact e)
    · rw [e2] at e
      cases e
      omega
  have T3 : Touch (fun k => k = q) w3 (w3.setCell ⟨q, 2, none⟩ v') := Touch.setCell (S := fun k => k = q) (Touch.refl _ _) (p := ⟨q, 2, none⟩) (fun _ => rfl) v'
  have Q3 := (T.block q hq (fun e => by have := h.new2 q e; omega)).trans h.obj
  refine ⟨block_set1 Q3 v', ?_, rowKept (rowKept h.kids T (fun g e e2 => row_apart h.keys h.kids g e2 e)) T3 (fun g e e2 => by have := h.new3 g e; omega), N, h.new3, h.low, ?_⟩
  · have := rowKept hown T3 (fun g e e2 => by have := N g e; omega)
    unfold SL
    rw [List.length_append, List.map_append, ← hn]
    exact this
  · exact Touch.trans (Touch.trans (S := fun _ => False) h.touch T (fun i hi e => by have := h.new2 i e; have := h.low; omega)) T3 (fun i hi e => by have := h.low; omega)
theorem LV.kidded {w0 w2 w3 : World} {q : Nat} {a3 : Option Addr} {n3 c3 : Nat} {v2 : Value} {ks ts : List ByteArray} {K : ByteArray} {v' : Value} {o : Obj} (h : LV w0 w2 q v2 (.slice a3 n3 c3) ks ts)
    (hn : n3 = ts.length) (hown : w3.ownsRow 0 26 4 v' (n3 + 1) (ts.flatMap kidC ++ kidC K)) (hg : (w2.alloc o).grownBy w3 (Value.slice a3 n3 c3).ownBlock) (hat : v'.ownBlock = (Value.slice a3 n3 c3).ownBlock ∨ v'.ownBlock = some (w2.heap.size + 1)) :
    LV w0 (w3.setCell ⟨q, 3, none⟩ v') q v2 v' ks (ts ++ [K]) := by
  have hq := lt_of_block h.obj
  have T : Touch (fun k => (Value.slice a3 n3 c3).ownBlock = some k) w2 w3 := Touch.grown ((Touch.refl _ w2).alloc o) hg (fun k e _ => e)
  have N : ∀ g, v'.ownBlock = some g → q < g := by
    intro g e
    rcases hat with e2 | e2
    · exact h.new3 g (by rw [← e2]; exact e)
    · rw [e2] at e
      cases e
      omega
  have T3 : Touch (fun k => k = q) w3 (w3.setCell ⟨q, 3, none⟩ v') := Touch.setCell (S := fun k => k = q) (Touch.refl _ _) (p := ⟨q, 3, none⟩) (fun _ => rfl) v'
  have Q3 := (T.block q hq (fun e => by have := h.new3 q e; omega)).trans h.obj
  refine ⟨block_set3 Q3 v', rowKept (rowKept h.keys T (fun g e e2 => row_apart h.keys h.kids g e e2)) T3 (fun g e e2 => by have := h.new2 g e; omega), ?_, h.new2, N, h.low, ?_⟩
  · have := rowKept hown T3 (fun g e e2 => by have := N g e; omega)
    unfold VL
    rw [List.length_append, List.length_singleton, ← hn, List.flatMap_append]
    have e : [K].flatMap kidC = kidC K := by simp
    rw [e]
    exact this
  · exact Touch.trans (Touch.trans (S := fun _ => False) h.touch T (fun i hi e => by have := h.new3 i e; have := h.low; omega)) T3 (fun i hi e => by have := h.low; omega)
set_option maxRecDepth 100000 in
set_option maxHeartbeats 16000000 in
theorem jsonKeys_walk (a0 a1 : Option Addr) (n0 c0 n1 c1 : Nat) (X Y : Nat → ByteArray) (w : World) (ht : Tabs w) (hx : SR w a0 n0 X) (hy : SR w a1 n1 Y) (z0 : n0 ≤ 140737488355328) (z1 : n1 ≤ 140737488355328) (sx : ∀ i, i < n0 → (X i).size ≤ 140737488355328) (sy : ∀ i, i < n1 → (Y i).size ≤ 140737488355328) :
    Calls Tryd.prog 6 #[.slice a0 n0 c0, .slice a1 n1 c1] w fun e w' => e = .returned (.bool true) ∧ Touch (fun _ => False) w w' := by
  have KS := hid (speaks_yes w ht)
  have HT := hid ht
  have HX := hid hx
  have HY := hid hy
  have SX := hid sx
  have SY := hid sy
  clear ht hx hy sx sy
  go_enter Tryd.func6, Tryd.ntmps6
  go_wp2_with fail
  refine KS.out.mono ?_
  rintro e w1 ⟨rfl, t1⟩
  have T1 := hid t1
  clear t1 KS
  go_upto_region 4 with fail
  have TA := (Touch.refl (fun _ => False) w1).alloc (.cells #[.int .i64 6, .string ⟨#[]⟩, .slice none 0 0, .slice none 0 0] 26)
  have L0 := hid (show LV w (w1.alloc (.cells #[.int .i64 6, .string ⟨#[]⟩, .slice none 0 0, .slice none 0 0] 26)) w1.heap.size (.slice none 0 0) (.slice none 0 0) (fn (fun i => clS (X i)) 0) (fn (fun i => clS (Y i)) 0) from
    ⟨jfour_new _ _ _ _ _, World.ownsRow_nil _ _ _ _, World.ownsRow_nil _ _ _ _, (fun g e => by cases e), (fun g e => by cases e), T1.out.size, T1.out.trans TA (fun _ _ e => e)⟩)
  clear TA
  generalize w1.alloc (.cells #[.int .i64 6, .string ⟨#[]⟩, .slice none 0 0, .slice none 0 0] 26) = w2 at *
  generalize w1.heap.size = q at *
  go_wp2_with fail
  go_loopg [6] 50 (fun gk v6 wq => ∃ (k : Nat) (a2 : Option Addr) (m2 d2 : Nat) (a3 : Option Addr) (m3 d3 : Nat), v6 = .int .i64 (k : Nat) ∧ k + gk = 50 ∧ k ≤ n0 ∧ k ≤ n1 ∧ Hid (LV w wq q (.slice a2 m2 d2) (.slice a3 m3 d3) (fn (fun i => clS (X i)) k) (fn (fun i => clS (Y i)) k)) ∧ Hid (∀ i, i < k → (X i).size + (Y i).size ≤ 1000))
  case atStart => exact ⟨0, none, 0, 0, none, 0, 0, rfl, by omega, by omega, by omega, L0, hid (fun i hi => by omega)⟩
  case round =>
    obtain ⟨k, a2, m2, d2, a3, m3, d3, rfl, hk, hk0, hk1, LK, SZ⟩ := hrel
    clear L0
    by_cases hin : k < n0 ∧ k < n1 ∧ k < 50
    · obtain ⟨i1, i2, i3⟩ := hin
      have j1 : (k : Int) < (n0 : Int) := by omega
      have j2 : (k : Int) < (n1 : Int) := by omega
      have j3 : (k : Int) < 50 := by omega
      obtain ⟨x, rfl, hxb, hxc⟩ := (HX.out.new LK.out.touch).resolve_left (by omega)
      obtain ⟨y, rfl, hyb, hyc⟩ := (HY.out.new LK.out.touch).resolve_left (by omega)
      have ex := hxc k i1
      have ey := hyc k i2
      obtain ⟨XK, hXK⟩ : ∃ XK, XK = X k := ⟨_, rfl⟩
      obtain ⟨YK, hYK⟩ : ∃ YK, YK = Y k := ⟨_, rfl⟩
      rw [← hXK] at ex
      rw [← hYK] at ey
      have hX1 := SX.out k i1
      have hY1 := SY.out k i2
      rw [← hXK] at hX1
      rw [← hYK] at hY1
      clear hxc hyc
      have HXK := hid hXK
      have HYK := hid hYK
      clear hXK hYK
      have hwr : IntKind.i64.wrap ((XK.size : Int) + (YK.size : Int)) = (XK.size : Int) + (YK.size : Int) := wrap_small _ (by omega) (by omega)
      go_wp2_with fail
      go_quiet (fail)
      have TQ := (Touch.refl (fun _ => False) wr).drewN nq
      have L1 := hid (LK.out.new TQ)
      have B1 := hid (HT.out.new L1.out.touch)
      replace ex := (TQ.cell (p := x.add k) (by rw [add_block]; exact hxb) id).trans ex
      replace ey := (TQ.cell (p := y.add k) (by rw [add_block]; exact hyb) id).trans ey
      replace hxb := Nat.lt_of_lt_of_le hxb TQ.size
      replace hyb := Nat.lt_of_lt_of_le hyb TQ.size
      clear TQ LK
      generalize wr.drewN nq = w3 at *
      by_cases hbig : (1000 : Int) < (XK.size : Int) + (YK.size : Int)
      · go_wp2
        go_ret
        exact ⟨rfl, L1.out.touch⟩
      · have HM2 := hid (show m2 = (fn (fun i => clS (X i)) k).length from L1.out.keys.len)
        have HM3 := hid (show m3 = (fn (fun i => clS (Y i)) k).length from L1.out.kids.len)
        have hm2 : m2 ≤ 50 := by have := HM2.out; rw [fn_len] at this; omega
        have hm3 : m3 ≤ 50 := by have := HM3.out; rw [fn_len] at this; omega
        have HXB := hid hxb
        have HYB := hid hyb
        clear hxb hyb hwr
        obtain ⟨i9, hi9, hz0, hz1, hz2⟩ := info_parts info9b
        obtain ⟨i6, hi26, hy0, hy1, hy2⟩ := info_parts info26b
        have hen16 : ∀ args w, (callFunc 16 args).run Tryd.prog w = .ok (.enter 16 args) w := Go.Proofs.enters_of Tryd.func16 (by kernel_rfl) rfl
        have ob := L1.out.obj
        have e2 : w3.cell? ⟨q, 2, none⟩ = some (.slice a2 m2 d2) := by simp [World.cell?, ob]
        clear ob
        generalize hCX : clS XK = CX at *
        generalize hCY : clS YK = CY at *
        have KC := hid (show Calls Tryd.prog 16 #[.string XK] w3.drew fun e w' => ∃ v, e = .returned v ∧ (v = .string CX ∧ Touch (fun _ => False) w3 w') from (clean_any XK w3.drew (B1.out.new (Touch.refl _ _).drew) (by omega)).mono (fun e w' ⟨h1, h2⟩ => ⟨_, h1, by rw [hCX], (Touch.refl (fun _ => False) w3).drew.trans h2 (fun _ _ e => e)⟩))
        go_wp2_with fail
        go_cut [48] (fun v48 wd => ∃ a4 m4 c4, v48 = .slice a4 m4 c4 ∧ LV w wd q (.slice a4 m4 c4) (.slice a3 m3 d3) (fn (fun i => clS (X i)) k ++ [CX]) (fn (fun i => clS (Y i)) k))
        case first =>
         go_region_law (first
          | (refine step_call (by rfl) 16 _ _ (by rfl) #[.string XK] (by rfl) hen16 (fun v w' => v = .string CX ∧ Touch (fun _ => False) w3 w') KC.out ?_
             intro v w5 hr
             obtain ⟨rfl, t5⟩ := hr
             have L5 := hid (L1.out.new t5)
             have c2a : w5.cell? ⟨q, 2, none⟩ = some (.slice a2 m2 d2) := (by have := L5.out.obj; simp [World.cell?, this])
             have c2b : ∀ o, (w5.alloc o).cell? ⟨q, 2, none⟩ = some (.slice a2 m2 d2) := fun o => (((Touch.refl (fun _ => False) w5).alloc o).cell (p := ⟨q, 2, none⟩) (lt_of_block L5.out.obj) id).trans c2a
             have OW5 := hid (show w5.ownsRow 0 9 1 (.slice a2 m2 d2) m2 ((fn (fun i => clS (X i)) k).map Value.string) from (by have := L5.out.keys; unfold SL at this; rw [← HM2.out] at this; exact this))
             clear t5)
          | (refine step_append_own _ (by rfl) _ _ _ (by rfl) 0 9 i9 _ 1 16 Tryd.underlying23 hi9 hz0 hz1 hz2 rfl (by decide) _ _ _ (by rfl) (OW5.out.alloc _) ⟨w5.heap.size, 0, none⟩ 1 1 [.string CX] (by rfl) (by rfl) (row_new w5 [.string CX] 9) (by intro u hu; simp at hu; subst hu; rfl) (by unfold maxLen; omega) (by omega) (Nat.zero_le _) (w5.heap.size + 1) (by simp) ?_
             intro v' w6 hown hgrow hat
             obtain ⟨a4, c4, hv4⟩ := own_shape hown
             subst hv4
             have LF := hid (L5.out.keyed (K := CX) HM2.out hown ⟨hgrow.os, hgrow.tape, hgrow.output, hgrow.size, hgrow.block⟩ hat)
             have ob6 : w6.heap[q]? = some (.cells #[.int .i64 6, .string ⟨#[]⟩, .slice a2 m2 d2, .slice a3 m3 d3] 26 (0, 0)) := (by
               refine (hgrow.block q (Nat.lt_of_lt_of_le (lt_of_block L5.out.obj) (by simp)) (fun e => by have := L5.out.new2 q e.symm; omega)).trans ?_
               exact (((Touch.refl (fun _ => False) w5).alloc _).block q (lt_of_block L5.out.obj) id).trans L5.out.obj)
             have c6a : w6.cell? ⟨q, 2, none⟩ = some (.slice a2 m2 d2) := (by simp [World.cell?, ob6])
             have f6a : w6.frozen? ⟨q, 2, none⟩ = false := (by simp [World.frozen?, ob6])
             clear hown hgrow hat c2a c2b OW5 ob6))
         all_goals
           clear c6a f6a
           go_wp2
           go_meet
           case rel => exact ⟨_, _, _, rfl, LF.out⟩
        obtain ⟨a4, m4, c4, rfl, hlv⟩ := hcut
        have L7 := hid hlv
        clear hlv KC e2 ex
        have ey7 : wc.cell? (y.add k) = some (.string YK) := by
          rcases HY.out.new L7.out.touch with h | ⟨y', hy', _, hc'⟩
          · omega
          · cases hy'
            rw [hc' k i2, HYK.out]
        have B7 := hid (HT.out.new L7.out.touch)
        have ob := L7.out.obj
        have e3 : wc.cell? ⟨q, 3, none⟩ = some (.slice a3 m3 d3) := by simp [World.cell?, ob]
        clear ob ey L1 B1
        have KC := hid (show Calls Tryd.prog 16 #[.string YK] wc.drew fun e w' => ∃ v, e = .returned v ∧ (v = .string CY ∧ Touch (fun _ => False) wc w') from (clean_any YK wc.drew (B7.out.new (Touch.refl _ _).drew) (by omega)).mono (fun e w' ⟨h1, h2⟩ => ⟨_, h1, by rw [hCY], (Touch.refl (fun _ => False) wc).drew.trans h2 (fun _ _ e => e)⟩))
        go_wp2_with fail
        go_region_law (first
          | (refine step_call (by rfl) 16 _ _ (by rfl) #[.string YK] (by rfl) hen16 (fun v w' => v = .string CY ∧ Touch (fun _ => False) wc w') KC.out ?_
             intro v w8 hr
             obtain ⟨rfl, t8⟩ := hr
             have L8 := hid (L7.out.new t8)
             have c3a : w8.cell? ⟨q, 3, none⟩ = some (.slice a3 m3 d3) := (by have := L8.out.obj; simp [World.cell?, this])
             have c3b : ∀ o, (w8.alloc o).cell? ⟨q, 3, none⟩ = some (.slice a3 m3 d3) := fun o => (((Touch.refl (fun _ => False) w8).alloc o).cell (p := ⟨q, 3, none⟩) (lt_of_block L8.out.obj) id).trans c3a
             have OW8 := hid (show w8.ownsRow 0 26 4 (.slice a3 m3 d3) m3 ((fn (fun i => clS (Y i)) k).flatMap kidC) from (by have := L8.out.kids; unfold VL at this; rw [← HM3.out] at this; exact this))
             clear t8)
          | (refine step_append_own _ (by rfl) _ _ _ (by rfl) 0 26 i6 _ 4 72 Tryd.underlying24 hi26 hy0 hy1 hy2 rfl (by decide) _ _ _ (by rfl) (OW8.out.alloc _) ⟨w8.heap.size, 0, none⟩ 1 1 [.int .i64 4, .string CY, .slice none 0 0, .slice none 0 0] (by rfl) (by rfl) (row_new w8 [.int .i64 4, .string CY, .slice none 0 0, .slice none 0 0] 26) (by intro u hu; simp at hu; rcases hu with rfl | rfl | rfl <;> rfl) (by unfold maxLen; omega) (by omega) (Nat.zero_le _) (w8.heap.size + 1) (by simp) ?_
             intro v' w9 hown hgrow hat
             obtain ⟨a5, c5, hv5⟩ := own_shape hown
             subst hv5
             have LF := hid (L8.out.kidded (K := CY) HM3.out hown ⟨hgrow.os, hgrow.tape, hgrow.output, hgrow.size, hgrow.block⟩ hat)
             have ob9 : w9.heap[q]? = some (.cells #[.int .i64 6, .string ⟨#[]⟩, .slice a4 m4 c4, .slice a3 m3 d3] 26 (0, 0)) := (by
               refine (hgrow.block q (Nat.lt_of_lt_of_le (lt_of_block L8.out.obj) (by simp)) (fun e => by have := L8.out.new3 q e.symm; omega)).trans ?_
               exact (((Touch.refl (fun _ => False) w8).alloc _).block q (lt_of_block L8.out.obj) id).trans L8.out.obj)
             have c9a : w9.cell? ⟨q, 3, none⟩ = some (.slice a3 m3 d3) := (by simp [World.cell?, ob9])
             have f9a : w9.frozen? ⟨q, 3, none⟩ = false := (by simp [World.frozen?, ob9])
             clear hown hgrow hat c3a c3b OW8 ob9))
        all_goals
          clear c9a f9a
          go_wp2
          go_roundg (gk - 1)
          case measure => omega
          case rel =>
            refine ⟨k + 1, a4, m4, c4, a5, m3 + 1, c5, by go_num, by omega, by omega, by omega, ?_, hid (fun i hi => ?_)⟩
            · rw [fn_more, fn_more, ← HXK.out, ← HYK.out, hCX, hCY]
              exact LF
            · by_cases e : i = k
              · rw [e, ← HXK.out, ← HYK.out]
                omega
              · exact SZ.out i (by omega)
    · have HKL := hid (fn_len (fun i => clS (Y i)) k)
      have HKL2 := hid (fn_len (fun i => clS (X i)) k)
      have hk50 : k ≤ 50 := by omega
      have EX : fn (fun i => clS (X i)) k = (fn X k).map clS := by unfold fn; rw [List.map_map]; rfl
      have EY : fn (fun i => clS (Y i)) k = (fn Y k).map clS := by unfold fn; rw [List.map_map]; rfl
      have hxy : (fn X k).length = (fn Y k).length := by rw [fn_len, fn_len]
      have hgd : ∀ (Z : Nat → ByteArray) i, i < k → (fn Z k).getD i ⟨#[]⟩ = Z i := fun Z i hi => by
        unfold fn
        rw [List.getD_eq_getElem?_getD, List.getElem?_map, List.getElem?_range hi]
        rfl
      have hB : ∀ i, i < (fn Y k).length → ((fn X k).getD i ⟨#[]⟩).size + ((fn Y k).getD i ⟨#[]⟩).size ≤ 1000 := fun i hi => by
        rw [fn_len] at hi
        rw [hgd X i hi, hgd Y i hi]
        exact SZ.out i hi
      have hol := ob_len (fn X k) (fn Y k) hxy hB
      rw [fn_len] at hol
      have s4 : ∀ (Z : Nat → ByteArray), (∀ i, i < k → (Z i).size ≤ 1000) → ∀ x ∈ (fn Z k).map clS, x.size ≤ 4000 := fun Z hZ x hx => by
        obtain ⟨y, hy, rfl⟩ := List.mem_map.1 hx
        unfold fn at hy
        obtain ⟨i, hi, rfl⟩ := List.mem_map.1 hy
        have := cl_size (Z i)
        have := hZ i (List.mem_range.1 hi)
        omega
      have sX := hid (s4 X (fun i hi => by have := SZ.out i hi; omega))
      have sY := hid (s4 Y (fun i hi => by have := SZ.out i hi; omega))
      rw [EX, EY] at LK
      have HXY := hid hxy
      have HOL := hid (show (obS (fn X k) (fn Y k)).size ≤ 1048576 by omega)
      have HYL := hid (show (fn Y k).length ≤ 50 by rw [fn_len]; exact hk50)
      clear EX EY hgd hB hol s4 HKL HKL2 hxy
      generalize fn X k = XL at *
      generalize fn Y k = YL at *
      have HBR := hid (ob_braces XL YL HXY.out)
      have HPK := hid (pr_keys XL YL HXY.out)
      have HPT := hid (pr_texts XL YL)
      have HPL := hid (pr_len XL YL)
      have KSH := hid (Show_obj a2 a3 m2 d2 m3 d3 (XL.map clS) (YL.map clS) wr LK.out.keys LK.out.kids (HT.out.new LK.out.touch) (by rw [List.length_map]; have := HYL.out; omega) (by rw [List.length_map, List.length_map]; exact HXY.out) sX.out sY.out)
      have KPA := hid (fun w' (ht' : Tabs w') => parse_obj (obS XL YL) (prL XL YL) ((obS XL YL).size - 1) w' ht' HOL.out (by rw [HPL.out]; have := HYL.out; omega) HBR.out.1 HBR.out.2 (fun w ht => ob_decode XL YL HXY.out HOL.out w ht))
      rw [HPK.out, HPT.out] at KPA
      rw [show (⟨(objB (XL.map clS) (YL.map clS)).toArray⟩ : ByteArray) = obS XL YL from rfl] at KSH
      have HL2 := hid (show (XL.map clS).length ≤ 60 by rw [List.length_map, HXY.out]; have := HYL.out; omega)
      have HL3 := hid (show (YL.map clS).length ≤ 60 by rw [List.length_map]; have := HYL.out; omega)
      clear HBR HPK HPT HPL HOL HYL HXY sX sY SZ
      generalize obS XL YL = OB1 at *
      generalize XL.map clS = KX at *
      generalize YL.map clS = KY at *
      obtain ⟨⟨z0', z1', z2', z3'⟩, _⟩ := cells4 LK.out.obj
      have hcase : (¬ (k : Int) < (n0 : Int)) ∨ ((k : Int) < (n0 : Int) ∧ ¬ (k : Int) < (n1 : Int)) ∨ ((k : Int) < (n0 : Int) ∧ (k : Int) < (n1 : Int) ∧ ¬ (k : Int) < 50) := by omega
      clear hin
      rcases hcase with j1 | ⟨j1, j2⟩ | ⟨j1, j2, j3⟩
      all_goals
        go_wp2_with fail
        refine KSH.out.mono ?_
        rintro e w5 ⟨rfl, t5⟩
        have L5 := hid (LK.out.new t5)
        clear t5 KSH z0' z1' z2' z3'
        go_wp2_with fail
        refine (KPA.out _ (HT.out.new L5.out.touch)).mono ?_
        rintro e w6 ⟨b2, p2, q2, b3, p3, q3, rfl, hov, t6⟩
        have tA := (t6.alloc (.cells #[.int .i64 6, .string ⟨#[]⟩, .slice b2 p2 q2, .slice b3 p3 q3] 26)).alloc (.cells #[.int .i64 0, .int .i64 0] 29)
        have tB := ((Touch.refl (fun _ => False) w6).alloc (.cells #[.int .i64 6, .string ⟨#[]⟩, .slice b2 p2 q2, .slice b3 p3 q3] 26)).alloc (.cells #[.int .i64 0, .int .i64 0] 29)
        have L7 := hid (L5.out.new tA)
        have O7 := hid (hov.kept tB (fun _ e => e.elim))
        have X7 := hid ((((Touch.refl (fun _ => False) (w6.alloc (.cells #[.int .i64 6, .string ⟨#[]⟩, .slice b2 p2 q2, .slice b3 p3 q3] 26))).alloc (.cells #[.int .i64 0, .int .i64 0] 29)).block w6.heap.size (by rw [size_alloc1]; omega) id).trans (jfour_new (w := w6) (.int .i64 6) (.string ⟨#[]⟩) (.slice b2 p2 q2) (.slice b3 p3 q3) 26))
        have X8 := hid (jtwo_new (w := w6.alloc (.cells #[.int .i64 6, .string ⟨#[]⟩, .slice b2 p2 q2, .slice b3 p3 q3] 26)) (.int .i64 0) (.int .i64 0) 29)
        rw [size_alloc1] at X8
        clear KPA hov t6 tA tB L5
        go_upto_region 12 with fail
        generalize (w6.alloc (.cells #[.int .i64 6, .string ⟨#[]⟩, .slice b2 p2 q2, .slice b3 p3 q3] 26)).alloc (.cells #[.int .i64 0, .int .i64 0] 29) = w7 at *
        generalize w6.heap.size + 1 = r2 at *
        generalize w6.heap.size = r1 at *
        obtain ⟨⟨z0', z1', z2', z3'⟩, _⟩ := cells4 L7.out.obj
        obtain ⟨⟨y0', y1', y2', y3'⟩, _⟩ := cells4 X7.out
        obtain ⟨⟨x0', x1'⟩, _⟩ := cells2 X8.out
        have KEQ := hid (equal_obj a2 a3 b2 b3 m2 d2 m3 d3 p2 q2 p3 q3 KX KY w7 L7.out.keys L7.out.kids O7.out.keys O7.out.kids HL2.out HL3.out)
        go_wp2_with fail
        refine KEQ.out.mono ?_
        rintro e w8 ⟨rfl, t8⟩
        have L8 := hid (L7.out.new t8)
        clear t8 KEQ
        go_wp2
        go_ret
        exact ⟨rfl, L8.out.touch⟩
end Go.Proofs.YtabhlhgfacpohaaDoor
