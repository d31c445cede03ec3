/- JsonParses: alike of a tree and the document's values of the same tree; no condition. -/
import Derived.Test.YtabhlhgfacpohaaDoorWv
namespace Go.Proofs.YtabhlhgfacpohaaDoor
open Go.RowKit
open Go.Lib

theorem DL.len {w : World} {a : Option Addr} {n c : Nat} {ds : List Cel} (h : DL w (.slice a n c) ds) : n = ds.length := by
  obtain ⟨_, _, hh⟩ := own_shape h
  cases hh
  rfl
theorem IL.len {w : World} {a : Option Addr} {n c : Nat} {ps : List Nat} (h : IL w (.slice a n c) ps) : n = ps.length := by
  obtain ⟨_, _, hh⟩ := own_shape h
  cases hh
  rfl
theorem DL.at {w : World} {a : Option Addr} {n cp : Nat} {cs : List Cel} (h : DL w (.slice a n cp) cs) (i : Nat) (c : Cel) (hi : cs[i]? = some c) : ∃ g, a = some ⟨g, 0, none⟩ ∧ w.cell? ⟨g, i * 4, none⟩ = some (.int .i64 c.k) ∧ w.cell? ⟨g, i * 4 + 1, none⟩ = some (.string c.t) ∧ w.cell? ⟨g, i * 4 + 2, none⟩ = some c.v2 ∧ w.cell? ⟨g, i * 4 + 3, none⟩ = some c.v3 := by
  have hlt := (List.getElem?_eq_some_iff.1 hi).1
  rcases h.2 with ⟨_, h0⟩ | ⟨g, cap, cur, hv, hg, hh, rest⟩
  · omega
  · cases hv
    refine ⟨g, rfl, ?_, ?_, ?_, ?_⟩
    all_goals
      have h' := h
      unfold DL at h'
    · rw [show i * 4 = i * 4 + 0 from rfl, h'.cellAt (i * 4 + 0) (by omega), cel_get cs i 0 c hi (by decide)]
      rfl
    · rw [h'.cellAt (i * 4 + 1) (by omega), cel_get cs i 1 c hi (by decide)]
      rfl
    · rw [h'.cellAt (i * 4 + 2) (by omega), cel_get cs i 2 c hi (by decide)]
      rfl
    · rw [h'.cellAt (i * 4 + 3) (by omega), cel_get cs i 3 c hi (by decide)]
      rfl
theorem IL.at {w : World} {a : Option Addr} {n c : Nat} {ps : List Nat} (h : IL w (.slice a n c) ps) (i q : Nat) (hi : ps[i]? = some q) : ∃ g, a = some ⟨g, 0, none⟩ ∧ w.cell? ⟨g, i, none⟩ = some (.int .i64 (q : Nat)) := by
  have hlt := (List.getElem?_eq_some_iff.1 hi).1
  rcases h.2 with ⟨_, h0⟩ | ⟨g, cap, cur, hv, hg, hh, rest⟩
  · omega
  · cases hv
    refine ⟨g, rfl, ?_⟩
    have h' := h
    unfold IL at h'
    rw [h'.cellAt i (by omega), List.getElem?_map, hi]
    rfl
set_option maxRecDepth 100000 in
set_option maxHeartbeats 8000000 in
theorem alike_of (rk : Int) (rt : ByteArray) (a2 a3 b2 b3 : Option Addr) (n2 c2 n3 c3 m2 d2 m3 d3 : Nat) (ks : List ByteArray) (cs : List Cel) (ps : List Nat) (av : Option Addr) (nv cv : Nat) (ds : List Cel) (r0 : Int) (p0 : Nat) (w : World) (h2 : SL w (.slice a2 n2 c2) ks) (h3 : CL w (.slice a3 n3 c3) cs) (k2 : SL w (.slice b2 m2 d2) ks) (k3 : IL w (.slice b3 m3 d3) ps) (hl : cs.length = ps.length)
    (hD : DL w (.slice av nv cv) ds) (hp : ds[p0]? = some ⟨rk, rt, .slice b2 m2 d2, .slice b3 m3 d3⟩)
    (KK0 : ∀ (j : Nat) (c : Cel) (q : Nat), cs[j]? = some c → ps[j]? = some q → (∃ k t a2 n2 c2 a3 n3 c3, c = ⟨k, t, .slice a2 n2 c2, .slice a3 n3 c3⟩) ∧ ∀ w', Touch (fun _ => False) w w' → Calls Tryd.prog 18 #[c.agg, .agg #[.slice av nv cv, .int .i64 r0, .int .i64 0, .int .i64 0], .int .i64 (q : Nat)] w' fun e w'' => e = .returned (.bool true) ∧ Touch (fun _ => False) w' w'') :
    Calls Tryd.prog 18 #[.agg #[.int .i64 rk, .string rt, .slice a2 n2 c2, .slice a3 n3 c3], .agg #[.slice av nv cv, .int .i64 r0, .int .i64 0, .int .i64 0], .int .i64 (p0 : Nat)] w fun e w' => e = .returned (.bool true) ∧ Touch (fun _ => False) w w' := by
  have hn2 := h2.len2
  have hm2 := k2.len2
  have hn3 := h3.len
  have hm3 := k3.len
  have hnv := hD.len
  obtain rfl : m2 = n2 := by omega
  obtain rfl : m3 = n3 := by omega
  have hmx2 := own_max h2
  have hmx3 := own_max h3
  have hmxv := own_max hD
  have hp0 : p0 < nv := by rw [hnv]; exact (List.getElem?_eq_some_iff.1 hp).1
  have hp0I : (p0 : Int) < (nv : Int) := by omega
  have hnvb : nv ≤ 9223372036854775807 := by omega
  obtain ⟨gv, rfl, v0, v1, v2, v3⟩ := hD.at p0 _ hp
  dsimp only at v0 v1 v2 v3
  have KK := hid KK0
  have HLL := hid hl
  clear KK0
  have TW := ((Touch.refl (fun _ => False) w).alloc (.cells #[.int .i64 rk, .string rt, .slice a2 m2 c2, .slice a3 m3 c3] 26)).alloc (.cells #[.slice (some ⟨gv, 0, none⟩) nv cv, .int .i64 r0, .int .i64 0, .int .i64 0] 47)
  have X1 := hid (((Touch.refl (fun _ => False) (w.alloc (.cells #[.int .i64 rk, .string rt, .slice a2 m2 c2, .slice a3 m3 c3] 26))).alloc (.cells #[.slice (some ⟨gv, 0, none⟩) nv cv, .int .i64 r0, .int .i64 0, .int .i64 0] 47)).block w.heap.size (by rw [size_alloc1]; omega) id |>.trans (jfour_new (w := w) (.int .i64 rk) (.string rt) (.slice a2 m2 c2) (.slice a3 m3 c3) 26))
  have X2 := hid (jfour_new (w := w.alloc (.cells #[.int .i64 rk, .string rt, .slice a2 m2 c2, .slice a3 m3 c3] 26)) (.slice (some ⟨gv, 0, none⟩) nv cv) (.int .i64 r0) (.int .i64 0) (.int .i64 0) 47)
  rw [size_alloc1] at X2
  have lv := World.block_lt_of_cell? w _ v0
  have y0 := (TW.cell (p := ⟨gv, p0 * 4, none⟩) lv id).trans v0
  have y1 := (TW.cell (p := ⟨gv, p0 * 4 + 1, none⟩) lv id).trans v1
  have y2 := (TW.cell (p := ⟨gv, p0 * 4 + 2, none⟩) lv id).trans v2
  have y3 := (TW.cell (p := ⟨gv, p0 * 4 + 3, none⟩) lv id).trans v3
  clear v0 v1 v2 v3 lv
  have T1 := hid TW
  have hb2 : m2 ≤ 9223372036854775807 := by omega
  have hb3 : m3 ≤ 9223372036854775807 := by omega
  have HN2 := hid hn2
  have HN3 := hid hn3
  have P2 := hid h2
  have P3 := hid h3
  have Q2 := hid k2
  have Q3 := hid k3
  clear h2 h3 k2 k3 hn2 hm2 hn3 hm3 hmx2 hmx3 TW hD hp hnv hmxv
  go_enter Tryd.func18, Tryd.ntmps18
  go_upto_region 1 with fail
  generalize (w.alloc (.cells #[.int .i64 rk, .string rt, .slice a2 m2 c2, .slice a3 m3 c3] 26)).alloc (.cells #[.slice (some ⟨gv, 0, none⟩) nv cv, .int .i64 r0, .int .i64 0, .int .i64 0] 47) = w1 at *
  generalize w.heap.size + 1 = q at *
  generalize w.heap.size = p at *
  obtain ⟨⟨q0, q1, q2, q3⟩, _⟩ := cells4 X2.out
  go_upto_region 2 with fail
  have TA := (Touch.refl (fun _ => False) w1).alloc (.cells #[.int .i64 rk, .string rt, .slice b2 m2 d2, .slice b3 m3 d3] 77)
  have X3 := hid (jfour_new (w := w1) (.int .i64 rk) (.string rt) (.slice b2 m2 d2) (.slice b3 m3 d3) 77)
  have Z1 := hid ((TA.block p (lt_of_block X1.out) id).trans X1.out)
  have Z2 := hid ((TA.block q (lt_of_block X2.out) id).trans X2.out)
  have T2 := hid (T1.out.trans TA (fun _ _ e => e))
  clear TA X1 X2 T1 q0 q1 q2 q3 y0 y1 y2 y3
  generalize w1.alloc (.cells #[.int .i64 rk, .string rt, .slice b2 m2 d2, .slice b3 m3 d3] 77) = w2 at *
  generalize w1.heap.size = o at *
  obtain ⟨⟨p0', p1, p2, p3⟩, _⟩ := cells4 Z1.out
  obtain ⟨⟨o0, o1, o2, o3⟩, _⟩ := cells4 X3.out
  go_wp2_with fail
  clear p0' p1 p2 p3 o0 o1 o2 o3
  go_loopg [8] m2 (fun gk v wq => ∃ k : Nat, k + gk = m2 ∧ v = .int .i64 (k : Nat) ∧ Hid (Touch (fun _ => False) w2 wq))
  case atStart => exact ⟨0, by omega, rfl, hid (Touch.refl _ _)⟩
  case round =>
    obtain ⟨k, hk, rfl, TK⟩ := hrel
    have Y1 := hid ((TK.out.block p (lt_of_block Z1.out) id).trans Z1.out)
    have Y3 := hid ((TK.out.block o (lt_of_block X3.out) id).trans X3.out)
    obtain ⟨⟨_, _, p2, p3⟩, _⟩ := cells4 Y1.out
    obtain ⟨⟨_, _, o2, o3⟩, _⟩ := cells4 Y3.out
    by_cases hlt : k < m2
    · have hltI : (k : Int) < (m2 : Int) := by omega
      have TK2 := hid (T2.out.trans TK.out (fun _ _ e => e))
      obtain ⟨g1, rfl, e1⟩ := SL.at2 (P2.out : SL w (.slice a2 m2 c2) ks) k (by have := HN2.out; omega)
      obtain ⟨g2, rfl, e2⟩ := SL.at2 (Q2.out : SL w (.slice b2 m2 d2) ks) k (by have := HN2.out; omega)
      obtain ⟨KY, hKY⟩ : ∃ KY, KY = ks.getD k ⟨#[]⟩ := ⟨_, rfl⟩
      rw [← hKY] at e1 e2
      have f1 := (TK2.out.cell (p := ⟨g1, k, none⟩) (World.block_lt_of_cell? w _ e1) id).trans e1
      have f2 := (TK2.out.cell (p := ⟨g2, k, none⟩) (World.block_lt_of_cell? w _ e2) id).trans e2
      clear e1 e2 hKY
      go_wp2_with fail
      go_quiet (fail)
      go_wp2
      go_roundg (gk - 1)
      case measure => omega
      case rel => exact ⟨k + 1, by omega, by go_num, hid (TK.out.trans ((Touch.refl (fun _ => False) wr).drewN nq) (fun _ _ e => e))⟩
    · have hltI : ¬ (k : Int) < (m2 : Int) := by omega
      go_wp2_with fail
      clear p2 p3 o2 o3
      go_loopg [9] m3 (fun gk v wq => ∃ k : Nat, k + gk = m3 ∧ v = .int .i64 (k : Nat) ∧ Hid (Touch (fun _ => False) w2 wq))
      case atStart => exact ⟨0, by omega, rfl, TK⟩
      case round =>
        obtain ⟨j, hj, rfl, TJ⟩ := hrel
        clear TK Y1 Y3
        have Y1 := hid ((TJ.out.block p (lt_of_block Z1.out) id).trans Z1.out)
        have Y2 := hid ((TJ.out.block q (lt_of_block Z2.out) id).trans Z2.out)
        have Y3 := hid ((TJ.out.block o (lt_of_block X3.out) id).trans X3.out)
        obtain ⟨⟨_, _, p2, p3⟩, _⟩ := cells4 Y1.out
        obtain ⟨⟨q0, q1, q2, q3⟩, _⟩ := cells4 Y2.out
        obtain ⟨⟨_, _, o2, o3⟩, _⟩ := cells4 Y3.out
        by_cases hjl : j < m3
        · have hjI : (j : Int) < (m3 : Int) := by omega
          have TJ2 := hid (T2.out.trans TJ.out (fun _ _ e => e))
          obtain ⟨c, hc⟩ : ∃ c, cs[j]? = some c := ⟨_, List.getElem?_eq_getElem (by have := HN3.out; omega)⟩
          obtain ⟨pj, hpj⟩ : ∃ pj, ps[j]? = some pj := ⟨_, List.getElem?_eq_getElem (by have := HN3.out; have := HLL.out; omega)⟩
          obtain ⟨⟨xk, xt, xa2, xn2, xc2, xa3, xn3, xc3, rfl⟩, KE0⟩ := KK.out j c pj hc hpj
          obtain ⟨g1, rfl, e0, e1, e2, e3⟩ := CL.at (P3.out : CL w (.slice a3 m3 c3) cs) j _ hc
          obtain ⟨g2, rfl, d0⟩ := IL.at (Q3.out : IL w (.slice b3 m3 d3) ps) j pj hpj
          dsimp only at e0 e1 e2 e3
          have l1 := World.block_lt_of_cell? w _ e0
          have l2 := World.block_lt_of_cell? w _ d0
          replace e0 := (TJ2.out.cell (p := ⟨g1, j * 4, none⟩) l1 id).trans e0
          replace e1 := (TJ2.out.cell (p := ⟨g1, j * 4 + 1, none⟩) l1 id).trans e1
          replace e2 := (TJ2.out.cell (p := ⟨g1, j * 4 + 2, none⟩) l1 id).trans e2
          replace e3 := (TJ2.out.cell (p := ⟨g1, j * 4 + 3, none⟩) l1 id).trans e3
          replace d0 := (TJ2.out.cell (p := ⟨g2, j, none⟩) l2 id).trans d0
          have hen18 : ∀ args w, (callFunc 18 args).run Tryd.prog w = .ok (.enter 18 args) w := Go.Proofs.enters_of Tryd.func18 (by kernel_rfl) rfl
          have KE := hid (show Calls Tryd.prog 18 #[.agg #[.int .i64 xk, .string xt, .slice xa2 xn2 xc2, .slice xa3 xn3 xc3], .agg #[.slice (some ⟨gv, 0, none⟩) nv cv, .int .i64 r0, .int .i64 0, .int .i64 0], .int .i64 (pj : Nat)] wr.drew fun e w' => ∃ v, e = .returned v ∧ (v = .bool true ∧ Touch (fun _ => False) wr w') from (KE0 wr.drew TJ2.out.drew).mono (fun e w' ⟨h1, h2⟩ => ⟨_, h1, rfl, (Touch.refl (fun _ => False) wr).drew.trans h2 (fun _ _ e => e)⟩))
          clear l1 l2 KE0 hc hpj
          go_wp2_with fail
          go_region_law (first
            | (refine step_call (by rfl) 18 _ _ (by rfl) #[.agg #[.int .i64 xk, .string xt, .slice xa2 xn2 xc2, .slice xa3 xn3 xc3], .agg #[.slice (some ⟨gv, 0, none⟩) nv cv, .int .i64 r0, .int .i64 0, .int .i64 0], .int .i64 (pj : Nat)] (by rfl) hen18 (fun v w' => v = .bool true ∧ Touch (fun _ => False) wr w') KE.out ?_
               intro v w7 hr
               obtain ⟨rfl, t7⟩ := hr
               have T7 := hid t7
               clear t7))
          all_goals
            go_wp2
            go_roundg (gk - 1)
            case measure => omega
            case rel => exact ⟨j + 1, by omega, by go_num, hid (TJ.out.trans T7.out (fun _ _ e => e))⟩
        · have hjI : ¬ (j : Int) < (m3 : Int) := by omega
          go_wp2
          go_ret
          exact ⟨rfl, T2.out.trans TJ.out (fun _ _ e => e)⟩
theorem DT.place {w : World} {B : Nat → Prop} {ds : List Cel} {p : Nat} {x : JV} (h : DT w B ds p x) : ∃ k t a2 n2 c2 a3 n3 c3, ds[p]? = some ⟨k, t, .slice a2 n2 c2, .slice a3 n3 c3⟩ := by
  cases h with
  | mk p k t v2 v3 ks ps kids hp h2 b2 h3 b3 hl hk =>
    obtain ⟨a2, c2, hv2⟩ := own_shape h2
    obtain ⟨a3, c3, hv3⟩ := own_shape h3
    subst hv2
    subst hv3
    exact ⟨_, _, _, _, _, _, _, _, hp⟩
theorem alike_any {w0 : World} {B : Nat → Prop} {c : Cel} {x : JV} (h : TV w0 B c x) : ∀ (B' : Nat → Prop) (av : Option Addr) (nv cv : Nat) (ds : List Cel) (r0 : Int) (p : Nat) (w : World), DL w0 (.slice av nv cv) ds → DT w0 B' ds p x → Touch (fun _ => False) w0 w → Calls Tryd.prog 18 #[c.agg, .agg #[.slice av nv cv, .int .i64 r0, .int .i64 0, .int .i64 0], .int .i64 (p : Nat)] w fun e w' => e = .returned (.bool true) ∧ Touch (fun _ => False) w w' := by
  induction h with
  | mk k t v2 v3 ks kids cs h2 b2 h3 b3 hl hk ih =>
    intro B' av nv cv ds r0 p w hD h' T
    cases h' with
    | mk _ _ _ u2 u3 _ ps _ hp g2 _ g3 _ gl gk =>
      obtain ⟨a2, c2, hv2⟩ := own_shape h2
      obtain ⟨a3, c3, hv3⟩ := own_shape h3
      obtain ⟨e2, f2, hu2⟩ := own_shape g2
      obtain ⟨e3, f3, hu3⟩ := own_shape g3
      subst hv2
      subst hv3
      subst hu2
      subst hu3
      refine alike_of k t a2 a3 e2 e3 _ c2 _ c3 _ f2 _ f3 ks cs ps av nv cv ds r0 p w (rowKept h2 T (fun _ _ e => e)) (rowKept h3 T (fun _ _ e => e)) (rowKept g2 T (fun _ _ e => e)) (rowKept g3 T (fun _ _ e => e)) (by omega) (rowKept hD T (fun _ _ e => e)) hp ?_
      intro j c q hc hq
      have hj : j < kids.length := by rw [← hl]; exact (List.getElem?_eq_some_iff.1 hc).1
      have ex : kids[j]? = some kids[j] := List.getElem?_eq_getElem hj
      exact ⟨(hk j c _ hc ex).shape, fun w' T' => ih j c _ hc ex B' av nv cv ds r0 q w' hD (gk j q _ hq ex) (T.trans T' (fun _ _ e => e))⟩
end Go.Proofs.YtabhlhgfacpohaaDoor
