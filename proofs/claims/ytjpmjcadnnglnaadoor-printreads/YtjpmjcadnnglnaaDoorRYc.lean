/- Texts of this proof, one behind the other: what each says stands ahead of it. -/
import Derived.Test.YtjpmjcadnnglnaaDoorRYa
import Derived.Test.YtjpmjcadnnglnaaDoorVp
import Derived.Test.YtjpmjcadnnglnaaDoorM0
import Derived.Test.YtjpmjcadnnglnaaDoorOa
import Derived.Test.YtjpmjcadnnglnaaDoorQVl
import Derived.Test.YtjpmjcadnnglnaaDoorQVt
import Derived.BigRegion
/- readSpan; conditions: as told. -/
namespace Go.Proofs.YtjpmjcadnnglnaaDoor
open Go.RowKit
open Go.Lib

theorem TV.open {w : World} {B : Nat → Prop} {c : Cel} {k : Int} {t : ByteArray} {ks : List ByteArray} {kids : List JV} (h : TV w B c (.node k t ks kids)) : ∃ a2 c2 a3 c3 n2 n3 cs, c = ⟨k, t, .slice a2 n2 c2, .slice a3 n3 c3⟩ ∧ SL w (.slice a2 n2 c2) ks ∧ CL w (.slice a3 n3 c3) cs ∧ cs.length = kids.length ∧ ∀ (i : Nat) (c : Cel) (x : JV), cs[i]? = some c → kids[i]? = some x → TV w B c x := by
  cases h with
  | mk k t v2 v3 ks kids cs h2 b2 h3 b3 hl hk =>
    obtain ⟨a2, c2, hv2⟩ := own_shape h2
    obtain ⟨a3, c3, hv3⟩ := own_shape h3
    subst hv2
    subst hv3
    exact ⟨_, _, _, _, _, _, cs, rfl, h2, h3, hl, hk⟩
def spanV (x : JV) : Value := match spanO x with
  | some p => .tuple #[.agg #[.int .i64 (p.1 : Nat), .int .i64 (p.2 : Nat)], .bool true]
  | none => .tuple #[.agg #[.int .i64 0, .int .i64 0], .bool false]
theorem spanV_none {x : JV} (h : spanO x = none) : spanV x = .tuple #[.agg #[.int .i64 0, .int .i64 0], .bool false] := by unfold spanV; rw [h]
theorem spanV_some {x : JV} {p : Nat × Nat} (h : spanO x = some p) : spanV x = .tuple #[.agg #[.int .i64 (p.1 : Nat), .int .i64 (p.2 : Nat)], .bool true] := by unfold spanV; rw [h]
theorem jtwo_touch {S : Nat → Prop} {w w' : World} {q : Nat} (T : Touch S w w') (hq : w.heap.size ≤ q) (x y : Value) : Touch S w ((w'.setCell ⟨q, 0, none⟩ x).setCell ⟨q, 1, none⟩ y) :=
  (T.setCell (p := ⟨q, 0, none⟩) (fun h => absurd h (Nat.not_lt.2 hq)) x).setCell (p := ⟨q, 1, none⟩) (fun h => absurd h (Nat.not_lt.2 hq)) y
set_option maxRecDepth 100000 in
set_option maxHeartbeats 4000000 in
theorem span_kind (k : Int) (t : ByteArray) (a2 a3 : Option Addr) (n2 c2 n3 c3 : Nat) (w : World) (hk : k ≠ 5) :
    Calls Tryd.prog 16 #[.agg #[.int .i64 k, .string t, .slice a2 n2 c2, .slice a3 n3 c3]] w fun e w' => e = .returned (.tuple #[.agg #[.int .i64 0, .int .i64 0], .bool false]) ∧ Touch (fun _ => False) w w' := by
  have T0 := hid (((Touch.refl (fun _ => False) w).alloc (.cells #[.int .i64 k, .string t, .slice a2 n2 c2, .slice a3 n3 c3] 36)).alloc (.cells #[.int .i64 0, .int .i64 0] 31))
  have B0 := hid ((((Touch.refl (fun _ => False) (w.alloc (.cells #[.int .i64 k, .string t, .slice a2 n2 c2, .slice a3 n3 c3] 36))).alloc (.cells #[.int .i64 0, .int .i64 0] 31)).block w.heap.size (by rw [size_alloc1]; omega) id).trans (jfour_new (w := w) (.int .i64 k) (.string t) (.slice a2 n2 c2) (.slice a3 n3 c3) 36))
  have B1 := hid (jtwo_new (w := w.alloc (.cells #[.int .i64 k, .string t, .slice a2 n2 c2, .slice a3 n3 c3] 36)) (.int .i64 0) (.int .i64 0) 31)
  rw [size_alloc1] at B1
  have hb : (k != 5) = true := by simp; exact hk
  clear hk
  go_enter Tryd.func16, Tryd.ntmps16
  go_upto_region 1 with fail
  generalize (w.alloc (.cells #[.int .i64 k, .string t, .slice a2 n2 c2, .slice a3 n3 c3] 36)).alloc (.cells #[.int .i64 0, .int .i64 0] 31) = w1 at *
  obtain ⟨r, hr⟩ : ∃ r, r = w.heap.size + 1 := ⟨_, rfl⟩
  have HR := hid (show w.heap.size ≤ r by omega)
  rw [← hr] at B1 ⊢
  clear hr
  generalize hq : w.heap.size = q at *
  obtain ⟨⟨q0, q1, q2, q3⟩, _⟩ := cells4 B0.out
  obtain ⟨⟨r0, r1⟩, ⟨f0, f1⟩⟩ := cells2 B1.out
  go_wp2
  refine bodyPost_ret (results_ct rfl _ _ r 31 _ (0, 0) _ rfl (jtwo_set B1.out _ _) Tryd.underlying31 rfl (by kernel_rfl)) rfl ?_
  exact ⟨rfl, jtwo_touch T0.out (by rw [hq]; exact HR.out) _ _⟩
set_option maxRecDepth 100000 in
set_option maxHeartbeats 4000000 in
theorem span_len (k : Int) (t : ByteArray) (a2 a3 : Option Addr) (n2 c2 n3 c3 : Nat) (w : World) (hk : k = 5) (hn : n3 ≠ 2) :
    Calls Tryd.prog 16 #[.agg #[.int .i64 k, .string t, .slice a2 n2 c2, .slice a3 n3 c3]] w fun e w' => e = .returned (.tuple #[.agg #[.int .i64 0, .int .i64 0], .bool false]) ∧ Touch (fun _ => False) w w' := by
  have T0 := hid (((Touch.refl (fun _ => False) w).alloc (.cells #[.int .i64 k, .string t, .slice a2 n2 c2, .slice a3 n3 c3] 36)).alloc (.cells #[.int .i64 0, .int .i64 0] 31))
  have B0 := hid ((((Touch.refl (fun _ => False) (w.alloc (.cells #[.int .i64 k, .string t, .slice a2 n2 c2, .slice a3 n3 c3] 36))).alloc (.cells #[.int .i64 0, .int .i64 0] 31)).block w.heap.size (by rw [size_alloc1]; omega) id).trans (jfour_new (w := w) (.int .i64 k) (.string t) (.slice a2 n2 c2) (.slice a3 n3 c3) 36))
  have B1 := hid (jtwo_new (w := w.alloc (.cells #[.int .i64 k, .string t, .slice a2 n2 c2, .slice a3 n3 c3] 36)) (.int .i64 0) (.int .i64 0) 31)
  rw [size_alloc1] at B1
  have hb : (k != 5) = false := by simp; exact hk
  have hb2 : ((n3 : Int) != 2) = true := by simp; omega
  clear hk hn
  go_enter Tryd.func16, Tryd.ntmps16
  go_upto_region 1 with fail
  generalize (w.alloc (.cells #[.int .i64 k, .string t, .slice a2 n2 c2, .slice a3 n3 c3] 36)).alloc (.cells #[.int .i64 0, .int .i64 0] 31) = w1 at *
  obtain ⟨r, hr⟩ : ∃ r, r = w.heap.size + 1 := ⟨_, rfl⟩
  have HR := hid (show w.heap.size ≤ r by omega)
  rw [← hr] at B1 ⊢
  clear hr
  generalize hq : w.heap.size = q at *
  obtain ⟨⟨q0, q1, q2, q3⟩, _⟩ := cells4 B0.out
  obtain ⟨⟨r0, r1⟩, ⟨f0, f1⟩⟩ := cells2 B1.out
  go_wp2
  refine bodyPost_ret (results_ct rfl _ _ r 31 _ (0, 0) _ rfl (jtwo_set B1.out _ _) Tryd.underlying31 rfl (by kernel_rfl)) rfl ?_
  exact ⟨rfl, jtwo_touch T0.out (by rw [hq]; exact HR.out) _ _⟩
set_option maxRecDepth 100000 in
set_option maxHeartbeats 8000000 in
theorem span_two (t : ByteArray) (a2 : Option Addr) (n2 c2 c3 g : Nat) (k1 k2 : Int) (t1 t2 : ByteArray) (e2 e3 f2 f3 : Option Addr) (m2 d2 m3 d3 p2 h2 p3 h3 : Nat) (b1 b2 : Bool) (hb1 : numB k1 t1 = b1) (hb2 : numB k2 t2 = b2) (w : World) (RV : Value) (hRV : RV = if b1 = true ∧ b2 = true then .tuple #[.agg #[.int .i64 (numN k1 t1 : Nat), .int .i64 (numN k2 t2 : Nat)], .bool true] else .tuple #[.agg #[.int .i64 0, .int .i64 0], .bool false])
    (y0 : w.cell? ⟨g, 0, none⟩ = some (.int .i64 k1)) (y1 : w.cell? ⟨g, 1, none⟩ = some (.string t1)) (y2 : w.cell? ⟨g, 2, none⟩ = some (.slice e2 m2 d2)) (y3 : w.cell? ⟨g, 3, none⟩ = some (.slice e3 m3 d3))
    (y4 : w.cell? ⟨g, 4, none⟩ = some (.int .i64 k2)) (y5 : w.cell? ⟨g, 5, none⟩ = some (.string t2)) (y6 : w.cell? ⟨g, 6, none⟩ = some (.slice f2 p2 h2)) (y7 : w.cell? ⟨g, 7, none⟩ = some (.slice f3 p3 h3)) :
    Calls Tryd.prog 16 #[.agg #[.int .i64 5, .string t, .slice a2 n2 c2, .slice (some ⟨g, 0, none⟩) 2 c3]] w fun e w' => e = .returned RV ∧ Touch (fun _ => False) w w' := by
  have HRV := hid hRV
  clear hRV
  have lg := World.block_lt_of_cell? w _ y0
  have TA := (((Touch.refl (fun _ => False) w).alloc (.cells #[.int .i64 5, .string t, .slice a2 n2 c2, .slice (some ⟨g, 0, none⟩) 2 c3] 36)).alloc (.cells #[.int .i64 0, .int .i64 0] 31))
  have B0 := hid ((((Touch.refl (fun _ => False) (w.alloc (.cells #[.int .i64 5, .string t, .slice a2 n2 c2, .slice (some ⟨g, 0, none⟩) 2 c3] 36))).alloc (.cells #[.int .i64 0, .int .i64 0] 31)).block w.heap.size (by rw [size_alloc1]; omega) id).trans (jfour_new (w := w) (.int .i64 5) (.string t) (.slice a2 n2 c2) (.slice (some ⟨g, 0, none⟩) 2 c3) 36))
  have B1 := hid (jtwo_new (w := w.alloc (.cells #[.int .i64 5, .string t, .slice a2 n2 c2, .slice (some ⟨g, 0, none⟩) 2 c3] 36)) (.int .i64 0) (.int .i64 0) 31)
  rw [size_alloc1] at B1
  replace y0 := (TA.cell (p := ⟨g, 0, none⟩) lg id).trans y0
  replace y1 := (TA.cell (p := ⟨g, 1, none⟩) lg id).trans y1
  replace y2 := (TA.cell (p := ⟨g, 2, none⟩) lg id).trans y2
  replace y3 := (TA.cell (p := ⟨g, 3, none⟩) lg id).trans y3
  have HG := hid (show ∀ w', Touch (fun _ => False) w w' → w'.cell? ⟨g, 4, none⟩ = some (.int .i64 k2) ∧ w'.cell? ⟨g, 5, none⟩ = some (.string t2) ∧ w'.cell? ⟨g, 6, none⟩ = some (.slice f2 p2 h2) ∧ w'.cell? ⟨g, 7, none⟩ = some (.slice f3 p3 h3) from fun w' tc =>
    ⟨(tc.cell (p := ⟨g, 4, none⟩) lg id).trans y4, (tc.cell (p := ⟨g, 5, none⟩) lg id).trans y5, (tc.cell (p := ⟨g, 6, none⟩) lg id).trans y6, (tc.cell (p := ⟨g, 7, none⟩) lg id).trans y7⟩)
  clear y4 y5 y6 y7 lg
  have T0 := hid TA
  have K1 := hid (fun w' => readNum_any k1 t1 e2 e3 m2 d2 m3 d3 w')
  have K2 := hid (fun w' => readNum_any k2 t2 f2 f3 p2 h2 p3 h3 w')
  rw [hb1] at K1
  rw [hb2] at K2
  clear TA hb1 hb2
  generalize numN k1 t1 = N1 at *
  generalize numN k2 t2 = N2 at *
  go_enter Tryd.func16, Tryd.ntmps16
  go_upto_region 1 with fail
  generalize (w.alloc (.cells #[.int .i64 5, .string t, .slice a2 n2 c2, .slice (some ⟨g, 0, none⟩) 2 c3] 36)).alloc (.cells #[.int .i64 0, .int .i64 0] 31) = w1 at *
  obtain ⟨r, hr⟩ : ∃ r, r = w.heap.size + 1 := ⟨_, rfl⟩
  have HR := hid (show w.heap.size ≤ r by omega)
  rw [← hr] at B1 ⊢
  clear hr
  generalize hq : w.heap.size = q at *
  obtain ⟨⟨q0, q1, q2, q3⟩, _⟩ := cells4 B0.out
  go_wp2_with fail
  refine (K1.out w1).mono ?_
  rintro e wa ⟨rfl, ta⟩
  have T1 := hid (T0.out.trans ta (fun _ _ e => e))
  have C0 := hid ((ta.block q (lt_of_block B0.out) id).trans B0.out)
  have C1 := hid ((ta.block r (lt_of_block B1.out) id).trans B1.out)
  clear ta K1 T0 B0 B1 q0 q1 q2 q3 y0 y1 y2 y3
  obtain ⟨⟨q0, q1, q2, q3⟩, _⟩ := cells4 C0.out
  obtain ⟨y4, y5, y6, y7⟩ := HG.out wa T1.out
  go_wp2_with fail
  refine (K2.out wa).mono ?_
  rintro e wb ⟨rfl, tb⟩
  have T2 := hid (T1.out.trans tb (fun _ _ e => e))
  have D1 := hid ((tb.block r (lt_of_block C1.out) id).trans C1.out)
  clear tb K2 T1 C0 C1 q0 q1 q2 q3 y4 y5 y6 y7 HG
  obtain ⟨⟨r0, r1⟩, ⟨f0, f1⟩⟩ := cells2 D1.out
  cases b1 with
  | false =>
    go_wp2
    refine bodyPost_ret (results_ct rfl _ _ r 31 _ (0, 0) _ rfl (jtwo_set D1.out _ _) Tryd.underlying31 rfl (by kernel_rfl)) rfl ?_
    exact ⟨by rw [HRV.out]; rfl, jtwo_touch T2.out (by rw [hq]; exact HR.out) _ _⟩
  | true =>
    cases b2 with
    | false =>
      go_wp2
      refine bodyPost_ret (results_ct rfl _ _ r 31 _ (0, 0) _ rfl (jtwo_set D1.out _ _) Tryd.underlying31 rfl (by kernel_rfl)) rfl ?_
      exact ⟨by rw [HRV.out]; rfl, jtwo_touch T2.out (by rw [hq]; exact HR.out) _ _⟩
    | true =>
      go_wp2
      refine bodyPost_ret (results_ct rfl _ _ r 31 _ (0, 0) _ rfl (jtwo_set D1.out _ _) Tryd.underlying31 rfl (by kernel_rfl)) rfl ?_
      exact ⟨by rw [HRV.out]; rfl, jtwo_touch T2.out (by rw [hq]; exact HR.out) _ _⟩
/-- readSpan, of any tree. -/
theorem readSpan_any {w : World} {B : Nat → Prop} {c : Cel} {x : JV} (h : TV w B c x) : Calls Tryd.prog 16 #[c.agg] w fun e w' => e = .returned (spanV x) ∧ Touch (fun _ => False) w w' := by
  obtain ⟨k, t, ks, kids⟩ := x
  obtain ⟨a2, c2, a3, c3, n2, n3, cs, rfl, _, hc, hl, hk⟩ := h.open
  have hn := hc.len
  by_cases h5 : k = 5
  · by_cases h2 : n3 = 2
    · subst h2
      subst h5
      obtain ⟨x1, x2, rfl⟩ : ∃ x1 x2, kids = [x1, x2] := by
        match kids, hn.trans hl with
        | [x1, x2], _ => exact ⟨x1, x2, rfl⟩
      obtain ⟨k1, t1, ks1, l1⟩ := x1
      obtain ⟨k2, t2, ks2, l2⟩ := x2
      obtain ⟨C0, e0⟩ : ∃ C0, cs[0]? = some C0 := ⟨_, List.getElem?_eq_getElem (by rw [hl]; exact Nat.zero_lt_succ _)⟩
      obtain ⟨C1, e1⟩ : ∃ C1, cs[1]? = some C1 := ⟨_, List.getElem?_eq_getElem (by rw [hl]; exact Nat.lt_succ_self _)⟩
      obtain ⟨u2, v2, u3, v3, m2, m3, _, rfl, _⟩ := (hk 0 _ _ e0 rfl).open
      obtain ⟨x2, y2, x3, y3, p2, p3, _, rfl, _⟩ := (hk 1 _ _ e1 rfl).open
      obtain ⟨g, rfl, g0, g1, g2, g3⟩ := hc.at 0 _ e0
      obtain ⟨g', hg', g4, g5, g6, g7⟩ := hc.at 1 _ e1
      cases hg'
      refine span_two t a2 n2 c2 c3 g k1 k2 t1 t2 _ _ _ _ _ _ _ _ _ _ _ _ _ _ rfl rfl w _ ?_ g0 g1 g2 g3 g4 g5 g6 g7
      unfold spanV
      rw [span_eq, if_pos rfl, pair_eq]
      by_cases hb : numB k1 t1 = true ∧ numB k2 t2 = true
      · rw [if_pos hb, if_pos hb]
      · rw [if_neg hb, if_neg hb]
    · have hs : spanO (.node k t ks kids) = none := by
        subst h5
        rw [span_eq, if_pos rfl]
        have hne : kids.length ≠ 2 := fun e => h2 ((hn.trans hl).trans e)
        match kids, hne with
        | [], _ => rfl
        | [.node _ _ _ _], _ => rfl
        | .node _ _ _ _ :: .node _ _ _ _ :: _ :: _, _ => rfl
      rw [spanV_none hs]
      exact span_len k t a2 a3 n2 c2 n3 c3 w h5 h2
  · have hs : spanO (.node k t ks kids) = none := by
      rw [span_eq, if_neg h5]
    rw [spanV_none hs]
    exact span_kind k t a2 a3 n2 c2 n3 c3 w h5
end Go.Proofs.YtjpmjcadnnglnaaDoor

/- readSpans; conditions: as told. -/
namespace Go.Proofs.YtjpmjcadnnglnaaDoor
open Go.RowKit
open Go.Lib

theorem info31b : (Tryd.prog.info? 31).map (fun i => (i.zero, i.size, i.bytes)) = some (some (.agg #[.int .i64 0, .int .i64 0]), 2, 16) := by kernel_rfl
theorem info30b : (Tryd.prog.info? 30).map (fun i => (i.zero, i.size, i.bytes)) = some (some (.agg #[.int .i64 0, .int .i64 0]), 2, 16) := by kernel_rfl
def pcl (p : Nat × Nat) : List Value := [.int .i64 (p.1 : Nat), .int .i64 (p.2 : Nat)]
/-- A list of pairs of the call's own. -/
def PL (ty : TypeId) (w : World) (v : Value) (ps : List (Nat × Nat)) : Prop := w.ownsRow 0 ty 2 v ps.length (ps.flatMap pcl)
structure SPL (ty : TypeId) (w0 w : World) (v : Value) (ps : List (Nat × Nat)) : Prop where
  own : PL ty w v ps
  low : ∀ g, v.ownBlock = some g → w0.heap.size ≤ g
  touch : Touch (fun _ => False) w0 w
theorem SPL.new {ty : TypeId} {w0 w w' : World} {v : Value} {ps : List (Nat × Nat)} (h : SPL ty w0 w v ps) (t : Touch (fun _ => False) w w') : SPL ty w0 w' v ps :=
  ⟨rowKept h.own t (fun _ _ e => e), h.low, h.touch.trans t (fun _ _ e => e)⟩
theorem SPL.push {ty : TypeId} {w0 w2 w3 : World} {a : Option Addr} {n c : Nat} {ps : List (Nat × Nat)} {p : Nat × Nat} {v' : Value} {o : Obj} (h : SPL ty w0 w2 (.slice a n c) ps) (hn : n = ps.length) (hown : w3.ownsRow 0 ty 2 v' (n + 1) (ps.flatMap pcl ++ pcl p)) (hg : (w2.alloc o).grownBy w3 (Value.slice a n c).ownBlock)
    (hat : v'.ownBlock = (Value.slice a n c).ownBlock ∨ v'.ownBlock = some (w2.heap.size + 1)) : SPL ty w0 w3 v' (ps ++ [p]) := by
  have T : Touch (fun k => (Value.slice a n c).ownBlock = some k) w2 w3 := Touch.grown ((Touch.refl _ w2).alloc o) hg (fun k e _ => e)
  refine ⟨?_, ?_, Touch.trans (S := fun _ => False) h.touch T (fun i hi e => by have := h.low i e; omega)⟩
  · unfold PL
    rw [List.length_append, List.length_singleton, ← hn, List.flatMap_append]
    have e : [p].flatMap pcl = pcl p := by simp
    rw [e]
    exact hown
  · intro g e
    rcases hat with e2 | e2
    · exact h.low g (by rw [← e2]; exact e)
    · rw [e2] at e
      cases e
      have := h.touch.size
      omega
/-- What readSpans answers. -/
def SpansP (w : World) (x : JV) (e : Ending) (w' : World) : Prop := match spansO x with
  | none => e = .returned (.tuple #[.slice none 0 0, .bool false]) ∧ Touch (fun _ => False) w w'
  | some ps => ∃ a n c, e = .returned (.tuple #[.slice a n c, .bool true]) ∧ PL 31 w' (.slice a n c) ps ∧ Touch (fun _ => False) w w'
theorem spans_none {w : World} {x : JV} {e : Ending} {w' : World} (h : spansO x = none) (he : e = .returned (.tuple #[.slice none 0 0, .bool false])) (t : Touch (fun _ => False) w w') : SpansP w x e w' := by
  unfold SpansP
  rw [h]
  exact ⟨he, t⟩
theorem spans_some {w : World} {x : JV} {e : Ending} {w' : World} {ps : List (Nat × Nat)} {a : Option Addr} {n c : Nat} (h : spansO x = some ps) (he : e = .returned (.tuple #[.slice a n c, .bool true])) (hp : PL 31 w' (.slice a n c) ps) (t : Touch (fun _ => False) w w') : SpansP w x e w' := by
  unfold SpansP
  rw [h]
  exact ⟨_, _, _, he, hp, t⟩
set_option maxRecDepth 100000 in
set_option maxHeartbeats 4000000 in
theorem spans_kind (k : Int) (t : ByteArray) (a2 a3 : Option Addr) (n2 c2 n3 c3 : Nat) (w : World) (hk : k ≠ 5) :
    Calls Tryd.prog 10 #[.agg #[.int .i64 k, .string t, .slice a2 n2 c2, .slice a3 n3 c3]] w fun e w' => e = .returned (.tuple #[.slice none 0 0, .bool false]) ∧ Touch (fun _ => False) w w' := by
  have T0 := hid ((Touch.refl (fun _ => False) w).alloc (.cells #[.int .i64 k, .string t, .slice a2 n2 c2, .slice a3 n3 c3] 36))
  have hb : (k != 5) = true := by simp; exact hk
  clear hk
  go_enter Tryd.func10, Tryd.ntmps10
  go_wp2
  refine bodyPost_ret (results_tmp2 rfl _ _ _) rfl ?_
  exact ⟨rfl, T0.out⟩
set_option maxRecDepth 100000 in
set_option maxHeartbeats 8000000 in
theorem spans_five (t : ByteArray) (a2 a3 : Option Addr) (n2 c2 n3 c3 : Nat) (ks : List ByteArray) (kids : List JV) (cs : List Cel) (B : Nat → Prop) (w : World) (h3 : CL w (.slice a3 n3 c3) cs) (hl : cs.length = kids.length) (hm : kids.length ≤ 8000000)
    (hk : ∀ (i : Nat) (c : Cel) (x : JV), cs[i]? = some c → kids[i]? = some x → TV w B c x) :
    Calls Tryd.prog 10 #[.agg #[.int .i64 5, .string t, .slice a2 n2 c2, .slice a3 n3 c3]] w fun e w' => SpansP w (.node 5 t ks kids) e w' := by
  obtain ⟨i1, hi31, hz0, hz1, hz2⟩ := info_parts info31b
  have T0 := hid ((Touch.refl (fun _ => False) w).alloc (.cells #[.int .i64 5, .string t, .slice a2 n2 c2, .slice a3 n3 c3] 36))
  have B0 := hid (jfour_new (w := w) (.int .i64 5) (.string t) (.slice a2 n2 c2) (.slice a3 n3 c3) 36)
  have H3 := hid h3
  have HL := hid (h3.len.trans hl)
  have HCL := hid hl
  have HK := hid hk
  have hmx : n3 ≤ 8000000 := by rw [h3.len, hl]; exact hm
  clear hm
  obtain ⟨X, hX⟩ : ∃ X : JV, X = .node 5 t ks kids := ⟨_, rfl⟩
  have HX := hid (show spansO X = splO kids from by rw [hX, spans_eq, if_pos rfl])
  rw [← hX]
  clear h3 hl hk hX
  go_enter Tryd.func10, Tryd.ntmps10
  go_upto_region 1 with fail
  generalize w.alloc (.cells #[.int .i64 5, .string t, .slice a2 n2 c2, .slice a3 n3 c3] 36) = w1 at *
  generalize w.heap.size = q at *
  obtain ⟨⟨q0, q1, q2, q3⟩, _⟩ := cells4 B0.out
  have S0 := hid (show SPL 31 w1 w1 (.slice none 0 0) [] from ⟨World.ownsRow_nil _ _ _ _, (fun g e => by cases e), Touch.refl _ _⟩)
  go_wp2_with fail
  go_loopg [4, 15] n3 (fun gk v4 v15 wq => ∃ (i : Nat) (ps : List (Nat × Nat)) (a : Option Addr) (c : Nat), i + gk = n3 ∧ v15 = .int .i64 (i : Nat) ∧ v4 = .slice a i c ∧ Hid (splO (kids.take i) = some ps) ∧ Hid (ps.length = i) ∧ Hid (SPL 31 w1 wq (.slice a i c) ps))
  case atStart => exact ⟨0, [], none, 0, by omega, rfl, rfl, hid rfl, hid rfl, S0⟩
  case round =>
    obtain ⟨i, ps, a, c, hi, rfl, rfl, HP, HN, SS⟩ := hrel
    clear S0 q0 q1 q2 q3
    by_cases hlt : i < n3
    · have hltI : (i : Int) < (n3 : Int) := by omega
      obtain ⟨kx, hkx⟩ : ∃ kx, kids[i]? = some kx := ⟨_, List.getElem?_eq_getElem (by have := HL.out; omega)⟩
      obtain ⟨kc, hkc⟩ : ∃ kc, cs[i]? = some kc := ⟨_, List.getElem?_eq_getElem (by have := HL.out; have := HCL.out; omega)⟩
      have TWR := T0.out.trans SS.out.touch (fun _ _ e => e)
      have V0 := (HK.out i kc kx hkc hkx).kept TWR (fun _ _ e => e)
      obtain ⟨xk, xt, xa2, xn2, xc2, xa3, xn3, xc3, rfl⟩ := V0.shape
      have VV := hid V0
      obtain ⟨g, rfl, e0, e1, e2, e3⟩ := CL.at (H3.out : CL w (.slice a3 n3 c3) cs) i _ hkc
      dsimp only at e0 e1 e2 e3
      have lg := World.block_lt_of_cell? w _ e0
      replace e0 := (TWR.cell (p := ⟨g, i * 4, none⟩) lg id).trans e0
      replace e1 := (TWR.cell (p := ⟨g, i * 4 + 1, none⟩) lg id).trans e1
      replace e2 := (TWR.cell (p := ⟨g, i * 4 + 2, none⟩) lg id).trans e2
      replace e3 := (TWR.cell (p := ⟨g, i * 4 + 3, none⟩) lg id).trans e3
      have HKX := hid hkx
      clear TWR V0 lg hkx hkc
      go_upto_region 7 with fail
      have TA := (Touch.refl (fun _ => False) wr).alloc (.cells #[.int .i64 xk, .string xt, .slice xa2 xn2 xc2, .slice xa3 xn3 xc3] 36)
      have BX := hid (jfour_new (w := wr) (.int .i64 xk) (.string xt) (.slice xa2 xn2 xc2) (.slice xa3 xn3 xc3) 36)
      have S2 := hid (SS.out.new TA)
      have V2 := hid (VV.out.kept TA (fun _ _ e => e))
      clear TA SS VV e0 e1 e2 e3
      generalize wr.alloc (.cells #[.int .i64 xk, .string xt, .slice xa2 xn2 xc2, .slice xa3 xn3 xc3] 36) = w2 at *
      generalize wr.heap.size = r6 at *
      obtain ⟨⟨x0, x1, x2, x3⟩, _⟩ := cells4 BX.out
      have KS := hid (show Calls Tryd.prog 16 #[.agg #[.int .i64 xk, .string xt, .slice xa2 xn2 xc2, .slice xa3 xn3 xc3]] w2 _ from readSpan_any (c := ⟨xk, xt, .slice xa2 xn2 xc2, .slice xa3 xn3 xc3⟩) V2.out)
      cases hS : spanO kx with
      | none =>
        rw [spanV_none hS] at KS
        have HB := hid (HX.out.trans (spl_bad HP.out HKX.out hS))
        clear hS
        go_wp2_with fail
        refine KS.out.mono ?_
        rintro e w3 ⟨rfl, t3⟩
        have T3 := hid (T0.out.trans (S2.out.new t3).touch (fun _ _ e => e))
        clear t3 KS x0 x1 x2 x3
        go_upto_region 8 with fail
        have T4 := hid (T3.out.alloc (.cells #[.int .i64 0, .int .i64 0] 31))
        generalize w3.alloc (.cells #[.int .i64 0, .int .i64 0] 31) = w4 at *
        go_wp2
        refine bodyPost_ret (results_tmp2 rfl _ _ _) rfl ?_
        exact spans_none HB.out rfl T4.out
      | some p =>
        obtain ⟨pa, pb⟩ := p
        rw [spanV_some hS] at KS
        have HP2 := hid (spl_more HP.out HKX.out hS)
        clear hS
        go_wp2_with fail
        refine KS.out.mono ?_
        rintro e w3 ⟨rfl, t3⟩
        have S3 := hid (S2.out.new t3)
        clear t3 KS x0 x1 x2 x3 S2
        go_upto_region 8 with fail
        have TA := (Touch.refl (fun _ => False) w3).alloc (.cells #[.int .i64 (pa : Nat), .int .i64 (pb : Nat)] 31)
        have BY := hid (jtwo_new (w := w3) (.int .i64 (pa : Nat)) (.int .i64 (pb : Nat)) 31)
        have S4 := hid (S3.out.new TA)
        clear TA S3
        generalize w3.alloc (.cells #[.int .i64 (pa : Nat), .int .i64 (pb : Nat)] 31) = w4 at *
        generalize w3.heap.size = r7 at *
        obtain ⟨⟨y0, y1⟩, _⟩ := cells2 BY.out
        have OW := hid (show w4.ownsRow 0 31 2 (.slice a i c) i (ps.flatMap pcl) from by have := S4.out.own; unfold PL at this; rw [HN.out] at this; exact this)
        go_wp2_with (at_builtin; (refine wpList_append_own_at _ rfl _ _ 23 rfl 0 31 i1 (.agg #[.int .i64 0, .int .i64 0]) 2 16 Tryd.underlying23 hi31 hz0 hz1 hz2 rfl (by decide) _ _ _ rfl (OW.out.alloc _) ⟨w4.heap.size, 0, none⟩ 1 1 [.int .i64 (pa : Nat), .int .i64 (pb : Nat)] rfl rfl (row_new w4 [.int .i64 (pa : Nat), .int .i64 (pb : Nat)] 31) (by intro u hu; simp at hu; rcases hu with rfl | rfl <;> rfl) (by unfold maxLen; omega) (by omega) (Nat.zero_le _) ?_))
        intro v' w5 hown hgrow _ hat
        have S5 := hid (SPL.push (p := (pa, pb)) S4.out HN.out.symm hown hgrow hat)
        obtain ⟨a8, c8, hv8⟩ := own_shape hown
        subst hv8
        clear hown hgrow hat OW S4 y0 y1
        go_wp2
        go_roundg (gk - 1)
        case measure => omega
        case rel => exact ⟨i + 1, ps ++ [(pa, pb)], a8, c8, by omega, by go_num, rfl, HP2, hid (by rw [List.length_append, HN.out]; rfl), S5⟩
    · have hltI : ¬ (i : Int) < (n3 : Int) := by omega
      obtain rfl : i = n3 := by omega
      have HE := hid (show spansO X = some ps from by rw [HX.out, ← HP.out, List.take_of_length_le (by rw [HL.out]; exact Nat.le_refl _)])
      go_wp2
      refine bodyPost_ret (results_tmp2 rfl _ _ _) rfl ?_
      exact spans_some HE.out rfl SS.out.own (T0.out.trans SS.out.touch (fun _ _ e => e))
def kidN : JV → Nat
  | .node _ _ _ kids => kids.length
/-- readSpans, of any tree. -/
theorem readSpans_any {w : World} {B : Nat → Prop} {c : Cel} {x : JV} (h : TV w B c x) (hm : kidN x ≤ 8000000) : Calls Tryd.prog 10 #[c.agg] w fun e w' => SpansP w x e w' := by
  obtain ⟨k, t, ks, kids⟩ := x
  obtain ⟨a2, c2, a3, c3, n2, n3, cs, rfl, _, hc, hl, hk⟩ := h.open
  by_cases h5 : k = 5
  · subst h5
    exact spans_five t a2 a3 n2 c2 n3 c3 ks kids cs B w hc hl hm hk
  · exact (spans_kind k t a2 a3 n2 c2 n3 c3 w h5).mono (fun e w' ⟨h1, h2⟩ => spans_none (by rw [spans_eq, if_neg h5]) h1 h2)
end Go.Proofs.YtjpmjcadnnglnaaDoor

/- isObject; conditions: as told. -/
namespace Go.Proofs.YtjpmjcadnnglnaaDoor
open Go.RowKit
open Go.Lib

theorem toList_ne {s t : ByteArray} (h : s ≠ t) : (s.toList == t.toList) = false := by
  rw [Bool.eq_false_iff]
  intro k
  have := beq_iff_eq.1 k
  rw [Lib.toList_data, Lib.toList_data] at this
  exact h (ByteArray.ext (Array.toList_inj.1 this))
def K4 : List ByteArray := [nmS, lnS, txS, spS]
theorem eq_four {ks : List ByteArray} (hl : ks.length = 4) (h : ∀ j, j < 4 → ks.getD j ⟨#[]⟩ = K4.getD j ⟨#[]⟩) : ks = K4 := by
  match ks, hl with
  | [a, b, c, d], _ =>
    have h0 : a = nmS := h 0 (by decide)
    have h1 : b = lnS := h 1 (by decide)
    have h2 : c = txS := h 2 (by decide)
    have h3 : d = spS := h 3 (by decide)
    rw [h0, h1, h2, h3]
    rfl
def kB (ks : List ByteArray) : Bool := decide (ks = K4)
theorem kB_len {ks : List ByteArray} (h : ks.length ≠ 4) : kB ks = false := by
  unfold kB
  rw [decide_eq_false]
  intro e
  rw [e] at h
  exact h rfl
theorem kB_ne {ks : List ByteArray} {i : Nat} (h : ks.getD i ⟨#[]⟩ ≠ K4.getD i ⟨#[]⟩) : kB ks = false := by
  unfold kB
  rw [decide_eq_false]
  intro e
  rw [e] at h
  exact h rfl
theorem kB_yes {ks : List ByteArray} (hl : ks.length = 4) (h : ∀ j, j < 4 → ks.getD j ⟨#[]⟩ = K4.getD j ⟨#[]⟩) : kB ks = true := by
  unfold kB
  rw [decide_eq_true (eq_four hl h)]
set_option maxRecDepth 100000 in
set_option maxHeartbeats 4000000 in
theorem equal4 (a : Option Addr) (n c g : Nat) (ks : List ByteArray) (w : World) (h : SL w (.slice a n c) ks) (hg : ∀ i, i < 4 → w.cell? ⟨g, i, none⟩ = some (.string (K4.getD i ⟨#[]⟩))) :
    Calls Tryd.prog 15 #[.slice a n c, .slice (some ⟨g, 0, none⟩) 4 4] w fun e w' => e = .returned (.bool (kB ks)) ∧ Touch (fun _ => False) w w' := by
  have hn := h.len2
  obtain ⟨X, hX⟩ : ∃ X, X = kB ks := ⟨_, rfl⟩
  have HX := hid hX
  rw [← hX]
  by_cases h4 : n = 4
  · have HL := hid (show ks.length = 4 by omega)
    have HS := hid h
    have HG := hid hg
    subst h4
    have HW := hid (show w = w from rfl)
    clear h hg hn hX
    go_enter Tryd.func15, Tryd.ntmps15
    go_wp2_with fail
    go_loopg [13] 4 (fun gk v13 wq => ∃ i : Nat, i + gk = 4 ∧ v13 = .int .i64 (i : Nat) ∧ Hid (∀ j, j < i → ks.getD j ⟨#[]⟩ = K4.getD j ⟨#[]⟩) ∧ Hid (Touch (fun _ => False) w wq))
    case atStart => exact ⟨0, by omega, rfl, hid (fun j h => by omega), hid (Touch.refl _ _)⟩
    case round =>
      obtain ⟨i, hi, rfl, HE, TT⟩ := hrel
      by_cases hlt : i < 4
      · have hltI : (i : Int) < 4 := by omega
        obtain ⟨g1, rfl, e1⟩ := SL.at2 (HS.out : SL w (.slice a 4 c) ks) i (by rw [HL.out]; exact hlt)
        have e2 := HG.out i hlt
        replace e1 := (TT.out.cell (p := ⟨g1, i, none⟩) (World.block_lt_of_cell? w _ e1) id).trans e1
        replace e2 := (TT.out.cell (p := ⟨g, i, none⟩) (World.block_lt_of_cell? w _ e2) id).trans e2
        have HQ := hid (show ks.getD i ⟨#[]⟩ = K4.getD i ⟨#[]⟩ → ∀ j, j < i + 1 → ks.getD j ⟨#[]⟩ = K4.getD j ⟨#[]⟩ from fun e j hj => by
          rcases Nat.lt_or_ge j i with h | h
          · exact HE.out j h
          · have : j = i := by omega
            rw [this]
            exact e)
        have HNE := hid (fun (e : ks.getD i ⟨#[]⟩ ≠ K4.getD i ⟨#[]⟩) => kB_ne e)
        generalize ks.getD i ⟨#[]⟩ = KA at *
        generalize K4.getD i ⟨#[]⟩ = KB at *
        by_cases hab : KA = KB
        · have HQ2 := hid (HQ.out hab)
          subst hab
          clear HQ HNE
          go_wp2_with fail
          go_quiet (fail)
          go_wp2
          go_roundg (gk - 1)
          case measure => omega
          case rel => exact ⟨i + 1, by omega, by go_num, HQ2, hid (TT.out.trans ((Touch.refl (fun _ => False) wr).drewN nq) (fun _ _ e => e))⟩
        · have HF := hid (HX.out.trans (HNE.out hab))
          have hb1 : (KA.toList == KB.toList) = false := toList_ne hab
          clear HQ HNE
          go_wp2_with fail
          go_quiet (fail)
          go_wp2
          go_ret
          refine ⟨?_, TT.out.trans ((Touch.refl (fun _ => False) wr).drewN nq) (fun _ _ e => e)⟩
          rw [HF.out]
          rfl
      · have hltI : ¬ (i : Int) < 4 := by omega
        have HT := hid (HX.out.trans (kB_yes HL.out (fun j hj => HE.out j (by omega))))
        go_wp2
        go_ret
        refine ⟨?_, TT.out⟩
        rw [HT.out]
        rfl
  · have HF := hid (hX.trans (kB_len (by omega)))
    have hb : ((n : Int) != 4) = true := by simp; omega
    clear h hg hn HX
    go_enter Tryd.func15, Tryd.ntmps15
    go_wp2
    go_ret
    refine ⟨?_, Touch.refl _ _⟩
    rw [HF.out]
    rfl
theorem four_new (w : World) (a b c d : Value) (ty : TypeId) (g : Nat) (hg : g = w.heap.size) : ∀ i, i < 4 → (w.alloc (.cells #[a, b, c, d] ty)).cell? ⟨g, i, none⟩ = some ([a, b, c, d].getD i undef) := by
  intro i hi
  subst hg
  have h := jfour_new (w := w) a b c d ty
  obtain ⟨⟨h0, h1, h2, h3⟩, _⟩ := cells4 h
  rcases (show i = 0 ∨ i = 1 ∨ i = 2 ∨ i = 3 by omega) with rfl | rfl | rfl | rfl
  · exact h0
  · exact h1
  · exact h2
  · exact h3
set_option maxRecDepth 100000 in
set_option maxHeartbeats 4000000 in
theorem isObject_any (k : Int) (t : ByteArray) (a2 a3 : Option Addr) (n2 c2 n3 c3 : Nat) (ks : List ByteArray) (w : World) (h2 : SL w (.slice a2 n2 c2) ks) :
    Calls Tryd.prog 8 #[.agg #[.int .i64 k, .string t, .slice a2 n2 c2, .slice a3 n3 c3]] w fun e w' => e = .returned (.bool (decide (k = 6) && kB ks)) ∧ Touch (fun _ => False) w w' := by
  have TA := (Touch.refl (fun _ => False) w).alloc (.cells #[.int .i64 k, .string t, .slice a2 n2 c2, .slice a3 n3 c3] 36)
  have B0 := hid (jfour_new (w := w) (.int .i64 k) (.string t) (.slice a2 n2 c2) (.slice a3 n3 c3) 36)
  have S0 := hid (show SL _ (.slice a2 n2 c2) ks from rowKept h2 TA (fun _ _ e => e))
  have T0 := hid TA
  obtain ⟨X, hX⟩ : ∃ X, X = (decide (k = 6) && kB ks) := ⟨_, rfl⟩
  have HX := hid hX
  rw [← hX]
  clear TA h2 hX
  by_cases h6 : k = 6
  · have HT := hid (show X = kB ks from by rw [HX.out, decide_eq_true h6]; rfl)
    have hb : (k == 6) = true := by simp; exact h6
    subst h6
    clear HX
    go_enter Tryd.func8, Tryd.ntmps8
    go_upto_region 1 with fail
    generalize w.alloc (.cells #[.int .i64 6, .string t, .slice a2 n2 c2, .slice a3 n3 c3] 36) = w1 at *
    generalize w.heap.size = q at *
    obtain ⟨⟨q0, q1, q2, q3⟩, _⟩ := cells4 B0.out
    have TB := (Touch.refl (fun _ => False) w1).alloc (.cells #[.string nmS, .string lnS, .string txS, .string spS] 9)
    have KE := hid (equal4 a2 n2 c2 w1.heap.size ks (w1.alloc (.cells #[.string nmS, .string lnS, .string txS, .string spS] 9)) (rowKept S0.out TB (fun _ _ e => e)) (fun i hi => (four_new w1 _ _ _ _ 9 _ rfl i hi).trans (by
      rcases (show i = 0 ∨ i = 1 ∨ i = 2 ∨ i = 3 by omega) with rfl | rfl | rfl | rfl <;> rfl)))
    have T1 := hid (T0.out.trans TB (fun _ _ e => e))
    unfold nmS lnS txS spS at KE T1
    clear TB
    go_wp2_with fail
    refine KE.out.mono ?_
    rintro e w2 ⟨rfl, t2⟩
    have T2 := hid (T1.out.trans t2 (fun _ _ e => e))
    clear t2 KE T1 q0 q1 q2 q3
    generalize kB ks = KK at *
    go_wp2
    go_ret
    refine ⟨?_, T2.out⟩
    rw [HT.out]
    rfl
  · have HF := hid (show X = false from by rw [HX.out, decide_eq_false h6]; rfl)
    have hb : (k == 6) = false := by simp; exact h6
    clear HX
    go_enter Tryd.func8, Tryd.ntmps8
    go_wp2
    go_ret
    refine ⟨?_, T0.out⟩
    rw [HF.out]
    rfl
end Go.Proofs.YtjpmjcadnnglnaaDoor

/- print's Read; condition: the two tables of coding lie there. -/
namespace Go.Proofs.YtjpmjcadnnglnaaDoor
open Go.RowKit
open Go.Lib

abbrev RdO := Option (ByteArray × Nat × ByteArray × List (Nat × Nat))
/-- What Read answers. -/
def RdP (ty : TypeId) (w : World) (o : RdO) (e : Ending) (w' : World) : Prop := match o with
  | none => e = .returned (.tuple #[.string ⟨#[]⟩, .int .i64 0, .string ⟨#[]⟩, .slice none 0 0, .bool false]) ∧ Touch (fun _ => False) w w'
  | some (a, n, c, l) => ∃ ad m cp, e = .returned (.tuple #[.string a, .int .i64 (n : Nat), .string c, .slice ad m cp, .bool true]) ∧ PL ty w' (.slice ad m cp) l ∧ Touch (fun _ => False) w w'
theorem rd_none {ty : TypeId} {w : World} {o : RdO} {e : Ending} {w' : World} (h : o = none) (he : e = .returned (.tuple #[.string ⟨#[]⟩, .int .i64 0, .string ⟨#[]⟩, .slice none 0 0, .bool false])) (t : Touch (fun _ => False) w w') : RdP ty w o e w' := by
  subst h
  exact ⟨he, t⟩
theorem rd_some {ty : TypeId} {w : World} {o : RdO} {e : Ending} {w' : World} {a c : ByteArray} {n : Nat} {l : List (Nat × Nat)} {ad : Option Addr} {m cp : Nat} (h : o = some (a, n, c, l)) (he : e = .returned (.tuple #[.string a, .int .i64 (n : Nat), .string c, .slice ad m cp, .bool true])) (hp : PL ty w' (.slice ad m cp) l) (t : Touch (fun _ => False) w w') : RdP ty w o e w' := by
  subst h
  exact ⟨_, _, _, he, hp, t⟩
theorem obj_eq (ka kb kc : Int) (ta tb tc : ByteArray) (sa sb sc : List ByteArray) (la lb lc : List JV) (d : JV) : objO [.node ka ta sa la, .node kb tb sb lb, .node kc tc sc lc, d] = if ka = 4 ∧ numB kb tb = true ∧ kc = 4 then (match spansO d with
      | none => none
      | some l => some (ta, numN kb tb, tc, l))
    else none := rfl
def rdE (s : ByteArray) : RdO := match parE s with
  | .error _ => none
  | .ok x => readO x
set_option maxRecDepth 100000 in
set_option maxHeartbeats 4000000 in
theorem read_err (s : ByteArray) (w : World) (ht : Tabs w) (ec ek : Nat) (hP : parE s = .error (ec, ek)) :
    Calls Tryd.prog 5 #[.string s] w fun e w' => RdP 31 w none e w' := by
  have KP := hid (parse_any s w ht)
  have hec : ec ≠ 0 := err_par hP
  rw [hP] at KP
  unfold ParP zV fV at KP
  have hbe : ((ec : Int) != 0) = true := by simp; omega
  clear ht hP
  go_enter Tryd.func5, Tryd.ntmps5
  go_wp2_with fail
  refine KP.out.mono ?_
  rintro e w2 ⟨rfl, t2⟩
  have T2 := hid t2
  clear t2 KP
  go_upto_region 2 with fail
  have TA := ((Touch.refl (fun _ => False) w2).alloc (.cells #[.int .i64 0, .string ⟨#[]⟩, .slice none 0 0, .slice none 0 0] 36)).alloc (.cells #[.int .i64 (ec : Nat), .int .i64 (ek : Nat)] 39)
  have BR := hid (jtwo_new (w := w2.alloc (.cells #[.int .i64 0, .string ⟨#[]⟩, .slice none 0 0, .slice none 0 0] 36)) (.int .i64 (ec : Nat)) (.int .i64 (ek : Nat)) 39)
  rw [size_alloc1] at BR
  have T3 := hid (T2.out.trans TA (fun _ _ e => e))
  clear TA T2
  generalize (w2.alloc (.cells #[.int .i64 0, .string ⟨#[]⟩, .slice none 0 0, .slice none 0 0] 36)).alloc (.cells #[.int .i64 (ec : Nat), .int .i64 (ek : Nat)] 39) = w3 at *
  obtain ⟨⟨r0, r1⟩, _⟩ := cells2 BR.out
  clear BR
  go_wp2
  refine bodyPost_ret (results_tmp5 rfl _ _ _) rfl ?_
  exact rd_none rfl rfl T3.out
set_option maxRecDepth 100000 in
set_option maxHeartbeats 8000000 in
theorem read_no (s : ByteArray) (w : World) (ht : Tabs w) (k : Int) (t : ByteArray) (ks : List ByteArray) (kids : List JV) (hP : parE s = .ok (.node k t ks kids)) (hno : (decide (k = 6) && kB ks) = false) :
    Calls Tryd.prog 5 #[.string s] w fun e w' => RdP 31 w none e w' := by
  have KP := hid (parse_any s w ht)
  rw [hP] at KP
  unfold ParP at KP
  clear ht hP
  go_enter Tryd.func5, Tryd.ntmps5
  go_wp2_with fail
  refine KP.out.mono ?_
  rintro e w2 ⟨rk, rt, ra2, rn2, rc2, ra3, rn3, rc3, B2, rfl, tv, _, t2⟩
  have T2 := hid t2
  have V2 := hid tv
  clear t2 KP tv
  go_upto_region 2 with fail
  have TA := ((Touch.refl (fun _ => False) w2).alloc (.cells #[.int .i64 rk, .string rt, .slice ra2 rn2 rc2, .slice ra3 rn3 rc3] 36)).alloc (.cells #[.int .i64 0, .int .i64 0] 39)
  have TA2 := (Touch.refl (fun _ => False) (w2.alloc (.cells #[.int .i64 rk, .string rt, .slice ra2 rn2 rc2, .slice ra3 rn3 rc3] 36))).alloc (.cells #[.int .i64 0, .int .i64 0] 39)
  have BR := hid (jtwo_new (w := w2.alloc (.cells #[.int .i64 rk, .string rt, .slice ra2 rn2 rc2, .slice ra3 rn3 rc3] 36)) (.int .i64 0) (.int .i64 0) 39)
  rw [size_alloc1] at BR
  have BV := hid ((TA2.block w2.heap.size (by rw [size_alloc1]; omega) id).trans (jfour_new (w := w2) (.int .i64 rk) (.string rt) (.slice ra2 rn2 rc2) (.slice ra3 rn3 rc3) 36))
  have T3 := hid (T2.out.trans TA (fun _ _ e => e))
  have V3 := hid (V2.out.kept TA (fun _ _ e => e))
  clear TA TA2 T2 V2
  generalize (w2.alloc (.cells #[.int .i64 rk, .string rt, .slice ra2 rn2 rc2, .slice ra3 rn3 rc3] 36)).alloc (.cells #[.int .i64 0, .int .i64 0] 39) = w3 at *
  generalize w2.heap.size + 1 = p8 at *
  generalize w2.heap.size = p7 at *
  obtain ⟨⟨r0, r1⟩, _⟩ := cells2 BR.out
  obtain ⟨⟨q0, q1, q2, q3⟩, _⟩ := cells4 BV.out
  clear BR
  obtain ⟨_, _, _, _, _, _, cs, hc, h2, _⟩ := V3.out.open
  cases hc
  have KO := hid (isObject_any k t ra2 ra3 rn2 rc2 rn3 rc3 ks w3 h2)
  rw [hno] at KO
  clear h2 V3 hno
  go_wp2_with fail
  refine KO.out.mono ?_
  rintro e w4 ⟨rfl, t4⟩
  have T4 := hid (T3.out.trans t4 (fun _ _ e => e))
  clear t4 KO T3
  go_wp2
  refine bodyPost_ret (results_tmp5 rfl _ _ _) rfl ?_
  exact rd_none rfl rfl T4.out
/-- A kid of four cells. -/
structure K1 (w : World) (g i : Nat) (k : Int) (t : ByteArray) (v2 v3 : Value) : Prop where
  c0 : w.cell? ⟨g, i, none⟩ = some (.int .i64 k)
  c1 : w.cell? ⟨g, i + 1, none⟩ = some (.string t)
  c2 : w.cell? ⟨g, i + 2, none⟩ = some v2
  c3 : w.cell? ⟨g, i + 3, none⟩ = some v3
theorem K1.new {w w' : World} {g i : Nat} {k : Int} {t : ByteArray} {v2 v3 : Value} (h : K1 w g i k t v2 v3) (tc : Touch (fun _ => False) w w') : K1 w' g i k t v2 v3 := by
  have lg := World.block_lt_of_cell? w _ h.c0
  exact ⟨(tc.cell (p := ⟨g, i, none⟩) lg id).trans h.c0, (tc.cell (p := ⟨g, i + 1, none⟩) lg id).trans h.c1, (tc.cell (p := ⟨g, i + 2, none⟩) lg id).trans h.c2, (tc.cell (p := ⟨g, i + 3, none⟩) lg id).trans h.c3⟩
theorem two_drew (w : World) (a b : Array Value) (t u : TypeId) : ((w.alloc (.cells a t)).alloc (.cells b u)).drew.heap[w.heap.size]? = some (.cells a t (0, 0)) ∧ ((w.alloc (.cells a t)).alloc (.cells b u)).drew.heap[w.heap.size + 1]? = some (.cells b u (0, 0)) ∧ Touch (fun _ => False) w ((w.alloc (.cells a t)).alloc (.cells b u)).drew := by
  refine ⟨?_, ?_, (((Touch.refl _ w).alloc _).alloc _).drew⟩
  · have h := block_new w a t
    exact ((((Touch.refl (fun _ => False) (w.alloc (.cells a t))).alloc (.cells b u)).drew).block w.heap.size (by rw [size_alloc1]; omega) id).trans h
  · have h := block_new (w.alloc (.cells a t)) b u
    rw [size_alloc1] at h
    exact h
set_option maxRecDepth 100000 in
set_option maxHeartbeats 16000000 in
theorem read_yes (s : ByteArray) (w : World) (ht : Tabs w) (t : ByteArray) (ks : List ByteArray) (ka kb kc kd : Int) (ta tb tc td : ByteArray) (sa sb sc sd : List ByteArray) (la lb lc ld : List JV)
    (hP : parE s = .ok (.node 6 t ks [.node ka ta sa la, .node kb tb sb lb, .node kc tc sc lc, .node kd td sd ld])) (hK : kB ks = true) (hld : ld.length ≤ 8000000) :
    Calls Tryd.prog 5 #[.string s] w fun e w' => RdP 31 w (objO [.node ka ta sa la, .node kb tb sb lb, .node kc tc sc lc, .node kd td sd ld]) e w' := by
  have KP := hid (parse_any s w ht)
  rw [hP] at KP
  unfold ParP at KP
  clear ht hP
  have HO := hid (obj_eq ka kb kc ta tb tc sa sb sc la lb lc (.node kd td sd ld))
  generalize hOO : objO [.node ka ta sa la, .node kb tb sb lb, .node kc tc sc lc, .node kd td sd ld] = OO at *
  clear hOO
  go_enter Tryd.func5, Tryd.ntmps5
  go_wp2_with fail
  refine KP.out.mono ?_
  rintro e w2 ⟨rk, rt, ra2, rn2, rc2, ra3, rn3, rc3, B2, rfl, tv, _, t2⟩
  have T2 := hid t2
  have V2 := hid tv
  clear t2 KP tv
  go_upto_region 2 with fail
  have TA := ((Touch.refl (fun _ => False) w2).alloc (.cells #[.int .i64 rk, .string rt, .slice ra2 rn2 rc2, .slice ra3 rn3 rc3] 36)).alloc (.cells #[.int .i64 0, .int .i64 0] 39)
  have TA2 := (Touch.refl (fun _ => False) (w2.alloc (.cells #[.int .i64 rk, .string rt, .slice ra2 rn2 rc2, .slice ra3 rn3 rc3] 36))).alloc (.cells #[.int .i64 0, .int .i64 0] 39)
  have BR := hid (jtwo_new (w := w2.alloc (.cells #[.int .i64 rk, .string rt, .slice ra2 rn2 rc2, .slice ra3 rn3 rc3] 36)) (.int .i64 0) (.int .i64 0) 39)
  rw [size_alloc1] at BR
  have BV := hid ((TA2.block w2.heap.size (by rw [size_alloc1]; omega) id).trans (jfour_new (w := w2) (.int .i64 rk) (.string rt) (.slice ra2 rn2 rc2) (.slice ra3 rn3 rc3) 36))
  have T3 := hid (T2.out.trans TA (fun _ _ e => e))
  have V3 := hid (V2.out.kept TA (fun _ _ e => e))
  clear TA TA2 T2 V2
  generalize (w2.alloc (.cells #[.int .i64 rk, .string rt, .slice ra2 rn2 rc2, .slice ra3 rn3 rc3] 36)).alloc (.cells #[.int .i64 0, .int .i64 0] 39) = w3 at *
  generalize w2.heap.size + 1 = p8 at *
  generalize w2.heap.size = p7 at *
  obtain ⟨⟨r0, r1⟩, _⟩ := cells2 BR.out
  obtain ⟨⟨q0, q1, q2, q3⟩, _⟩ := cells4 BV.out
  clear BR
  obtain ⟨_, _, _, _, _, _, cs, hc, h2, h3, hl, hk⟩ := V3.out.open
  cases hc
  have KO := hid (isObject_any 6 t ra2 ra3 rn2 rc2 rn3 rc3 ks w3 h2)
  rw [hK] at KO
  have hn3 : rn3 = 4 := h3.len.trans hl
  subst hn3
  obtain ⟨C0, e0⟩ : ∃ C, cs[0]? = some C := ⟨_, List.getElem?_eq_getElem (by rw [hl]; exact (by decide : 0 < 4))⟩
  obtain ⟨C1, e1⟩ : ∃ C, cs[1]? = some C := ⟨_, List.getElem?_eq_getElem (by rw [hl]; exact (by decide : 1 < 4))⟩
  obtain ⟨C2, e2⟩ : ∃ C, cs[2]? = some C := ⟨_, List.getElem?_eq_getElem (by rw [hl]; exact (by decide : 2 < 4))⟩
  obtain ⟨C3, e3⟩ : ∃ C, cs[3]? = some C := ⟨_, List.getElem?_eq_getElem (by rw [hl]; exact (by decide : 3 < 4))⟩
  obtain ⟨xa2, xc2, xa3, xc3, xn2, xn3, _, rfl, _⟩ := (hk 0 _ _ e0 rfl).open
  obtain ⟨ya2, yc2, ya3, yc3, yn2, yn3, _, rfl, _⟩ := (hk 1 _ _ e1 rfl).open
  obtain ⟨za2, zc2, za3, zc3, zn2, zn3, _, rfl, _⟩ := (hk 2 _ _ e2 rfl).open
  have V4 := hid (hk 3 _ _ e3 rfl)
  obtain ⟨ua2, uc2, ua3, uc3, un2, un3, _, rfl, _⟩ := (hk 3 _ _ e3 rfl).open
  obtain ⟨g, rfl, g0, g1, g2, g3⟩ := h3.at 0 _ e0
  obtain ⟨g', hg', g4, g5, g6, g7⟩ := h3.at 1 _ e1
  cases hg'
  obtain ⟨g', hg', g8, g9, g10, g11⟩ := h3.at 2 _ e2
  cases hg'
  obtain ⟨g', hg', g12, g13, g14, g15⟩ := h3.at 3 _ e3
  cases hg'
  have A0 := hid (show K1 w3 g 0 ka ta (.slice xa2 xn2 xc2) (.slice xa3 xn3 xc3) from ⟨g0, g1, g2, g3⟩)
  have A1 := hid (show K1 w3 g 4 kb tb (.slice ya2 yn2 yc2) (.slice ya3 yn3 yc3) from ⟨g4, g5, g6, g7⟩)
  have A2 := hid (show K1 w3 g 8 kc tc (.slice za2 zn2 zc2) (.slice za3 zn3 zc3) from ⟨g8, g9, g10, g11⟩)
  have A3 := hid (show K1 w3 g 12 kd td (.slice ua2 un2 uc2) (.slice ua3 un3 uc3) from ⟨g12, g13, g14, g15⟩)
  clear h2 h3 hl hk e0 e1 e2 e3 g0 g1 g2 g3 g4 g5 g6 g7 g8 g9 g10 g11 g12 g13 g14 g15 V3 hK
  go_wp2_with fail
  refine KO.out.mono ?_
  rintro e w4 ⟨rfl, t4⟩
  have T4 := hid (T3.out.trans t4 (fun _ _ e => e))
  have BV4 := hid ((t4.block p7 (lt_of_block BV.out) id).trans BV.out)
  have D0 := hid (A0.out.new t4)
  have D1 := hid (A1.out.new t4)
  have D2 := hid (A2.out.new t4)
  have D3 := hid (A3.out.new t4)
  have V5 := hid (V4.out.kept t4 (fun _ _ e => e))
  clear t4 KO T3 BV A0 A1 A2 A3 V4 r0 r1 q0 q1 q2 q3
  obtain ⟨⟨q0, q1, q2, q3⟩, _⟩ := cells4 BV4.out
  have d0 : w4.cell? ⟨g, 0, none⟩ = some (.int .i64 ka) := D0.out.c0
  have d1 : w4.cell? ⟨g, 1, none⟩ = some (.string ta) := D0.out.c1
  have d2 : w4.cell? ⟨g, 2, none⟩ = some (.slice xa2 xn2 xc2) := D0.out.c2
  have d3 : w4.cell? ⟨g, 3, none⟩ = some (.slice xa3 xn3 xc3) := D0.out.c3
  have d8 : w4.cell? ⟨g, 8, none⟩ = some (.int .i64 kc) := D2.out.c0
  have d9 : w4.cell? ⟨g, 9, none⟩ = some (.string tc) := D2.out.c1
  have d10 : w4.cell? ⟨g, 10, none⟩ = some (.slice za2 zn2 zc2) := D2.out.c2
  have d11 : w4.cell? ⟨g, 11, none⟩ = some (.slice za3 zn3 zc3) := D2.out.c3
  have lg : g < w4.heap.size := World.block_lt_of_cell? w4 _ d0
  have lp : p7 < w4.heap.size := lt_of_block BV4.out
  have ng0 : g ≠ w4.heap.size := by omega
  have ng1 : g ≠ w4.heap.size + 1 := by omega
  have np0 : p7 ≠ w4.heap.size := by omega
  have np1 : p7 ≠ w4.heap.size + 1 := by omega
  have cA : ∀ o i, (w4.alloc o).cell? ⟨g, i, none⟩ = w4.cell? ⟨g, i, none⟩ := fun o i => ((Touch.refl (fun _ => False) w4).alloc o).cell (p := ⟨g, i, none⟩) lg id
  have cB : ∀ o o' i, ((w4.alloc o).alloc o').cell? ⟨g, i, none⟩ = w4.cell? ⟨g, i, none⟩ := fun o o' i => (((Touch.refl (fun _ => False) w4).alloc o).alloc o').cell (p := ⟨g, i, none⟩) lg id
  have eA : ∀ o i, (w4.alloc o).cell? ⟨p7, i, none⟩ = w4.cell? ⟨p7, i, none⟩ := fun o i => ((Touch.refl (fun _ => False) w4).alloc o).cell (p := ⟨p7, i, none⟩) lp id
  have eB : ∀ o o' i, ((w4.alloc o).alloc o').cell? ⟨p7, i, none⟩ = w4.cell? ⟨p7, i, none⟩ := fun o o' i => (((Touch.refl (fun _ => False) w4).alloc o).alloc o').cell (p := ⟨p7, i, none⟩) lp id
  go_wp2_with fail
  go_cut [9, 10] (fun v9 v10 wd => ∃ p9 p10, v9 = .pointer (some ⟨p9, 0, none⟩) ∧ v10 = .pointer (some ⟨p10, 0, none⟩) ∧ wd.heap[p9]? = some (.cells #[.int .i64 ka, .string ta, .slice xa2 xn2 xc2, .slice xa3 xn3 xc3] 36 (0, 0)) ∧ wd.heap[p10]? = some (.cells #[.int .i64 kc, .string tc, .slice za2 zn2 zc2, .slice za3 zn3 zc3] 36 (0, 0)) ∧ Touch (fun _ => False) w4 wd)
  case first =>
    go_region
    · go_wp2
      go_meet
      case rel => exact ⟨_, _, rfl, rfl, (two_drew w4 _ _ 36 36).1, (two_drew w4 _ _ 36 36).2.1, (two_drew w4 _ _ 36 36).2.2⟩
    · go_wp2
      go_meet
      case rel => exact ⟨_, _, rfl, rfl, (two_drew w4 _ _ 36 36).2.1, (two_drew w4 _ _ 36 36).1, (two_drew w4 _ _ 36 36).2.2⟩
  obtain ⟨p9, p10, rfl, rfl, hb9, hb10, hcw⟩ := hcut
  obtain ⟨wn, hwn⟩ : ∃ wn, wn = wc := ⟨_, rfl⟩
  rw [← hwn] at hb9 hb10 hcw ⊢
  clear hwn
  have N9 := hid hb9
  have N10 := hid hb10
  have T5 := hid (T4.out.trans hcw (fun _ _ e => e))
  have BV5 := hid ((hcw.block p7 (lt_of_block BV4.out) id).trans BV4.out)
  have F1 := hid (D1.out.new hcw)
  have F3 := hid (D3.out.new hcw)
  have V6 := hid (V5.out.kept hcw (fun _ _ e => e))
  clear hb9 hb10 hcw T4 BV4 D0 D1 D2 D3 V5 q0 q1 q2 q3 lg lp ng0 ng1 np0 np1 cA cB eA eB d0 d1 d2 d3 d8 d9 d10 d11
  obtain ⟨⟨q0, q1, q2, q3⟩, _⟩ := cells4 BV5.out
  have d4 : wn.cell? ⟨g, 4, none⟩ = some (.int .i64 kb) := F1.out.c0
  have d5 : wn.cell? ⟨g, 5, none⟩ = some (.string tb) := F1.out.c1
  have d6 : wn.cell? ⟨g, 6, none⟩ = some (.slice ya2 yn2 yc2) := F1.out.c2
  have d7 : wn.cell? ⟨g, 7, none⟩ = some (.slice ya3 yn3 yc3) := F1.out.c3
  have KN := hid (readNum_any kb tb ya2 ya3 yn2 yc2 yn3 yc3 wn)
  generalize hNB : numB kb tb = NB at *
  generalize hNN : numN kb tb = NN at *
  clear hNB hNN
  go_wp2_with fail
  refine KN.out.mono ?_
  rintro e w5 ⟨rfl, t5⟩
  have T6 := hid (T5.out.trans t5 (fun _ _ e => e))
  have M9 := hid ((t5.block p9 (lt_of_block N9.out) id).trans N9.out)
  have M10 := hid ((t5.block p10 (lt_of_block N10.out) id).trans N10.out)
  have BV6 := hid ((t5.block p7 (lt_of_block BV5.out) id).trans BV5.out)
  have F4 := hid (F3.out.new t5)
  have V7 := hid (V6.out.kept t5 (fun _ _ e => e))
  clear t5 KN T5 N9 N10 BV5 F1 F3 V6 q0 q1 q2 q3 d4 d5 d6 d7
  obtain ⟨⟨q0, q1, q2, q3⟩, _⟩ := cells4 BV6.out
  have d12 : w5.cell? ⟨g, 12, none⟩ = some (.int .i64 kd) := F4.out.c0
  have d13 : w5.cell? ⟨g, 13, none⟩ = some (.string td) := F4.out.c1
  have d14 : w5.cell? ⟨g, 14, none⟩ = some (.slice ua2 un2 uc2) := F4.out.c2
  have d15 : w5.cell? ⟨g, 15, none⟩ = some (.slice ua3 un3 uc3) := F4.out.c3
  have KS := hid (show Calls Tryd.prog 10 #[.agg #[.int .i64 kd, .string td, .slice ua2 un2 uc2, .slice ua3 un3 uc3]] w5 _ from readSpans_any (c := ⟨kd, td, .slice ua2 un2 uc2, .slice ua3 un3 uc3⟩) V7.out hld)
  unfold SpansP at KS
  clear V7 F4
  cases hS : spansO (.node kd td sd ld) with
  | none =>
    rw [hS] at KS HO
    have HE := hid (show OO = none from by
      rw [HO.out]
      split <;> rfl)
    clear hS HO
    go_wp2_with fail
    refine KS.out.mono ?_
    rintro e w6 ⟨rfl, t6⟩
    have T7 := hid (T6.out.trans t6 (fun _ _ e => e))
    have P9 := hid ((t6.block p9 (lt_of_block M9.out) id).trans M9.out)
    have P10 := hid ((t6.block p10 (lt_of_block M10.out) id).trans M10.out)
    clear t6 KS T6 M9 M10 BV6 q0 q1 q2 q3 d12 d13 d14 d15
    obtain ⟨⟨x0, x1, x2, x3⟩, _⟩ := cells4 P9.out
    obtain ⟨⟨z0, z1, z2, z3⟩, _⟩ := cells4 P10.out
    go_wp2
    all_goals
      refine bodyPost_ret (results_tmp5 rfl _ _ _) rfl ?_
      exact rd_none HE.out rfl T7.out
  | some l =>
    rw [hS] at KS HO
    clear hS
    go_wp2_with fail
    refine KS.out.mono ?_
    rintro e w6 ⟨sa', sn', sc', rfl, hpl, t6⟩
    have T7 := hid (T6.out.trans t6 (fun _ _ e => e))
    have P9 := hid ((t6.block p9 (lt_of_block M9.out) id).trans M9.out)
    have P10 := hid ((t6.block p10 (lt_of_block M10.out) id).trans M10.out)
    have L7 := hid hpl
    clear t6 KS T6 M9 M10 BV6 q0 q1 q2 q3 d12 d13 d14 d15 hpl
    obtain ⟨⟨x0, x1, x2, x3⟩, _⟩ := cells4 P9.out
    obtain ⟨⟨z0, z1, z2, z3⟩, _⟩ := cells4 P10.out
    by_cases hka : ka = 4
    · have hbA : (ka != 4) = false := by simp; exact hka
      cases NB with
      | false =>
        have HE := hid (show OO = none from by rw [HO.out, if_neg (by rintro ⟨_, h, _⟩; cases h)])
        clear HO
        go_wp2
        refine bodyPost_ret (results_tmp5 rfl _ _ _) rfl ?_
        exact rd_none HE.out rfl T7.out
      | true =>
        by_cases hkc : kc = 4
        · have hbC : (kc != 4) = false := by simp; exact hkc
          have HE := hid (show OO = some (ta, NN, tc, l) from by rw [HO.out, if_pos ⟨hka, rfl, hkc⟩])
          clear HO
          go_wp2_with fail
          go_quiet (fail)
          go_wp2
          refine bodyPost_ret (results_tmp5 rfl _ _ _) rfl ?_
          exact rd_some HE.out rfl (rowKept L7.out ((Touch.refl (fun _ => False) w6).drewN nq) (fun _ _ e => e)) (T7.out.trans ((Touch.refl (fun _ => False) w6).drewN nq) (fun _ _ e => e))
        · have hbC : (kc != 4) = true := by simp; exact hkc
          have HE := hid (show OO = none from by rw [HO.out, if_neg (by rintro ⟨_, _, h⟩; exact hkc h)])
          clear HO
          go_wp2
          refine bodyPost_ret (results_tmp5 rfl _ _ _) rfl ?_
          exact rd_none HE.out rfl T7.out
    · have hbA : (ka != 4) = true := by simp; exact hka
      have HE := hid (show OO = none from by rw [HO.out, if_neg (by rintro ⟨h, _⟩; exact hka h)])
      clear HO
      go_wp2
      refine bodyPost_ret (results_tmp5 rfl _ _ _) rfl ?_
      exact rd_none HE.out rfl T7.out
end Go.Proofs.YtjpmjcadnnglnaaDoor

/- print's Read, of any text; condition: the two tables of coding lie there. -/
namespace Go.Proofs.YtjpmjcadnnglnaaDoor
open Go.RowKit
open Go.Lib

theorem flat_ge {α : Type} (f : α → Bs) : ∀ (l : List α), l.length ≤ (l.flatMap (fun i => 44 :: f i)).length
  | [] => Nat.zero_le _
  | i :: l => by
    have := flat_ge f l
    rw [List.flatMap_cons, List.length_append, List.length_cons, List.length_cons]
    omega
theorem flat_mem44 {α : Type} (f : α → Bs) : ∀ (l : List α) (i : α), i ∈ l → (f i).length ≤ (l.flatMap (fun i => 44 :: f i)).length
  | j :: l, i, h => by
    rw [List.flatMap_cons, List.length_append, List.length_cons]
    rcases List.mem_cons.1 h with rfl | h
    · omega
    · have := flat_mem44 f l i h
      omega
theorem pcL_ge (kd : Int) (i : ByteArray × JV) : (shB i.2).length ≤ (pcL kd i).length := by
  unfold pcL
  rw [List.length_append]
  omega
theorem jn_ge (kd : Int) (l : List (ByteArray × JV)) : l.length ≤ (jnL kd l).length + 1 := by
  cases l with
  | nil => exact Nat.zero_le _
  | cons i l =>
    have := flat_ge (pcL kd) l
    rw [jnL_len, List.length_cons]
    omega
theorem jn_in (kd : Int) (l : List (ByteArray × JV)) (i : ByteArray × JV) (h : i ∈ l) : (shB i.2).length ≤ (jnL kd l).length := by
  have h1 := pcL_ge kd i
  cases l with
  | nil => cases h
  | cons j l =>
    rw [jnL_len]
    rcases List.mem_cons.1 h with rfl | h
    · omega
    · have := flat_mem44 (pcL kd) l i h
      omega
theorem sh_row (kd : Int) (hk : kd = 5 ∨ kd = 6) (l : List (ByteArray × JV)) : (shB (.node kd ⟨#[]⟩ (kyL kd l) (l.map Prod.snd))).length = (jnL kd l).length + 2 := by
  rcases hk with rfl | rfl
  · rw [sh_row5, List.length_cons, List.length_append, List.length_singleton]
  · rw [sh_row6, List.length_cons, List.length_append, List.length_singleton]
theorem kids_len {n : Nat} {x : JV} (h : OkV n x) : kidN x ≤ (shB x).length := by
  cases h with
  | word _ k hk => exact Nat.zero_le _
  | num _ t hn hs => exact Nat.zero_le _
  | text _ t hk => exact Nat.zero_le _
  | row n kd l hk hK h5 hO =>
    rw [sh_row kd hk]
    have := jn_ge kd l
    show (l.map Prod.snd).length ≤ _
    rw [List.length_map]
    omega
theorem okv_num {n : Nat} {k : Int} {t : ByteArray} {ks : List ByteArray} {kids : List JV} (h : OkV n (.node k t ks kids)) : k = 3 → NumT t := by
  intro e
  subst e
  cases h with
  | word _ _ hk => omega
  | num _ _ hn hs => exact hn
  | row _ _ _ hk _ _ _ => omega
/-- An object's kids. -/
theorem okv_obj {n : Nat} {t : ByteArray} {ks : List ByteArray} {kids : List JV} (h : OkV (n + 1) (.node 6 t ks kids)) : kids.length = ks.length ∧ ∀ x ∈ kids, OkV n x ∧ (shB x).length ≤ (shB (.node 6 t ks kids)).length := by
  have key : ∀ x : JV, OkV (n + 1) x → x = .node 6 t ks kids → kids.length = ks.length ∧ ∀ y ∈ kids, OkV n y ∧ (shB y).length ≤ (shB x).length := by
    intro x hx e
    cases hx with
    | word _ k hk =>
      cases e
      omega
    | num _ t hn hs => cases e
    | text _ t hk => cases e
    | row n kd l hk hK h5 hO =>
      cases e
      refine ⟨by unfold kyL; rw [if_pos rfl, List.length_map, List.length_map], fun y hy => ?_⟩
      obtain ⟨i, hi, rfl⟩ := List.mem_map.1 hy
      refine ⟨hO i hi, ?_⟩
      rw [sh_row 6 (.inr rfl)]
      have := jn_in 6 l i hi
      omega
  exact key _ h rfl
theorem kB_iff {ks : List ByteArray} : kB ks = true ↔ ks = [nmS, lnS, txS, spS] := by
  unfold kB
  rw [decide_eq_true_eq]
  rfl
/-- Read, of any text. -/
theorem read_any (s : ByteArray) (w : World) (ht : Tabs w) : Calls Tryd.prog 5 #[.string s] w fun e w' => RdP 31 w (rdE s) e w' := by
  unfold rdE
  cases hP : parE s with
  | error e =>
    obtain ⟨ec, ek⟩ := e
    exact read_err s w ht ec ek hP
  | ok x =>
    obtain ⟨hok, hlen⟩ := par_p hP
    obtain ⟨k, t, ks, kids⟩ := x
    simp only
    rw [read_eq]
    by_cases h : k = 6 ∧ ks = [nmS, lnS, txS, spS]
    · rw [if_pos h]
      obtain ⟨h6, hk⟩ := h
      subst h6
      obtain ⟨g1, g2⟩ := okv_obj hok
      rw [hk] at g1
      have g3 : kids.length = 4 := g1
      match kids, g3, g2, hP with
      | [.node ka ta sa la, .node kb tb sb lb, .node kc tc sc lc, .node kd td sd ld], _, g2, hP =>
        obtain ⟨o1, o2⟩ := g2 (.node kd td sd ld) (by simp)
        have o3 := kids_len o1
        exact read_yes s w ht t ks ka kb kc kd ta tb tc td sa sb sc sd la lb lc ld hP (kB_iff.2 hk) (by
          show kidN (.node kd td sd ld) ≤ _
          omega)
    · rw [if_neg h]
      refine read_no s w ht k t ks kids hP ?_
      by_cases h6 : k = 6
      · have : kB ks = false := by
          rw [Bool.eq_false_iff]
          intro e
          exact h ⟨h6, kB_iff.1 e⟩
        rw [this, Bool.and_false]
      · rw [decide_eq_false h6]
        rfl
end Go.Proofs.YtjpmjcadnnglnaaDoor
