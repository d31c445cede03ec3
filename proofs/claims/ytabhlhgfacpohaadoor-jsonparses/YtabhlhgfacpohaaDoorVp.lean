/- equal, of two trees that are the same; no condition. -/
import Derived.Test.YtabhlhgfacpohaaDoorQVa
import Derived.Deep.RegionLaw
namespace Go.Proofs.YtabhlhgfacpohaaDoor
open Go.RowKit
open Go.Lib

theorem own_max {w : World} {e : TypeId} {sz n : Nat} {v : Value} {xs : List Value} (h : w.ownsRow 0 e sz v n xs) : n ≤ 9223372036854775807 := by
  rcases h.2 with ⟨_, h0⟩ | ⟨g, cap, cur, hv, hg, hh, h1, h2, _⟩
  · omega
  · unfold maxLen at h2
    omega
theorem SL.at2 {w : World} {a : Option Addr} {n c : Nat} {ks : List ByteArray} (h : SL w (.slice a n c) ks) (i : Nat) (hi : i < ks.length) : ∃ g, a = some ⟨g, 0, none⟩ ∧ w.cell? ⟨g, i, none⟩ = some (.string (ks.getD i ⟨#[]⟩)) := by
  rcases h.2 with ⟨_, h0⟩ | ⟨g, cap, cur, hv, hg, hh, rest⟩
  · omega
  · cases hv
    refine ⟨g, rfl, ?_⟩
    have h' := h
    unfold SL at h'
    rw [h'.cellAt i (by omega), List.getElem?_map, List.getElem?_eq_getElem hi, List.getD_eq_getElem?_getD, List.getElem?_eq_getElem hi]
    rfl
theorem SL.len2 {w : World} {a : Option Addr} {n c : Nat} {ks : List ByteArray} (h : SL w (.slice a n c) ks) : n = ks.length := by
  obtain ⟨_, _, hh⟩ := own_shape h
  cases hh
  rfl
theorem CL.len {w : World} {a : Option Addr} {n c : Nat} {cs : List Cel} (h : CL w (.slice a n c) cs) : n = cs.length := by
  obtain ⟨_, _, hh⟩ := own_shape h
  cases hh
  rfl
theorem cel_get : ∀ (cs : List Cel) (i j : Nat) (c : Cel), cs[i]? = some c → j < 4 → (cs.flatMap Cel.cells)[i * 4 + j]? = c.cells[j]?
  | [], i, j, c, h, _ => by cases h
  | d :: cs, 0, j, c, h, hj => by
    cases h
    rw [List.flatMap_cons, List.getElem?_append_left (by show _ < 4; omega), Nat.zero_mul, Nat.zero_add]
  | d :: cs, i + 1, j, c, h, hj => by
    rw [List.flatMap_cons, List.getElem?_append_right (by show 4 ≤ _; omega)]
    rw [show (i + 1) * 4 + j - d.cells.length = i * 4 + j from by show (i + 1) * 4 + j - 4 = _; omega]
    exact cel_get cs i j c h hj
theorem CL.at {w : World} {a : Option Addr} {n cp : Nat} {cs : List Cel} (h : CL w (.slice a n cp) cs) (i : Nat) (c : Cel) (hi : cs[i]? = some c) : ∃ g, a = some ⟨g, 0, none⟩ ∧ w.cell? ⟨g, i * 4, none⟩ = some (.int .i64 c.k) ∧ w.cell? ⟨g, i * 4 + 1, none⟩ = some (.string c.t) ∧ w.cell? ⟨g, i * 4 + 2, none⟩ = some c.v2 ∧ w.cell? ⟨g, i * 4 + 3, none⟩ = some c.v3 := by
  have hlt : i < cs.length := (List.getElem?_eq_some_iff.1 hi).1
  rcases h.2 with ⟨_, h0⟩ | ⟨g, cap, cur, hv, hg, hh, rest⟩
  · omega
  · cases hv
    have h' := h
    unfold CL at h'
    refine ⟨g, rfl, ?_, ?_, ?_, ?_⟩
    · have := cel_get cs i 0 c hi (by decide)
      rw [Nat.add_zero] at this
      rw [h'.cellAt (i * 4) (by omega), this]
      rfl
    · rw [h'.cellAt (i * 4 + 1) (by omega), cel_get cs i 1 c hi (by decide)]
      rfl
    · rw [h'.cellAt (i * 4 + 2) (by omega), cel_get cs i 2 c hi (by decide)]
      rfl
    · rw [h'.cellAt (i * 4 + 3) (by omega), cel_get cs i 3 c hi (by decide)]
      rfl
def Cel.agg (c : Cel) : Value := .agg #[.int .i64 c.k, .string c.t, c.v2, c.v3]
set_option maxRecDepth 100000 in
set_option maxHeartbeats 8000000 in
theorem equal_of (rk : Int) (rt : ByteArray) (a2 a3 b2 b3 : Option Addr) (n2 c2 n3 c3 m2 d2 m3 d3 : Nat) (ks : List ByteArray) (cs ds : List Cel) (w : World) (h2 : SL w (.slice a2 n2 c2) ks) (h3 : CL w (.slice a3 n3 c3) cs) (k2 : SL w (.slice b2 m2 d2) ks) (k3 : CL w (.slice b3 m3 d3) ds) (hl : cs.length = ds.length)
    (KK0 : ∀ (j : Nat) (c d : Cel), cs[j]? = some c → ds[j]? = some d → (∃ k t a2 n2 c2 a3 n3 c3, c = ⟨k, t, .slice a2 n2 c2, .slice a3 n3 c3⟩) ∧ (∃ k t a2 n2 c2 a3 n3 c3, d = ⟨k, t, .slice a2 n2 c2, .slice a3 n3 c3⟩) ∧ ∀ w', Touch (fun _ => False) w w' → Calls Tryd.prog 15 #[c.agg, d.agg] w' fun e w'' => e = .returned (.bool true) ∧ Touch (fun _ => False) w' w'') :
    Calls Tryd.prog 15 #[.agg #[.int .i64 rk, .string rt, .slice a2 n2 c2, .slice a3 n3 c3], .agg #[.int .i64 rk, .string rt, .slice b2 m2 d2, .slice b3 m3 d3]] w fun e w' => e = .returned (.bool true) ∧ Touch (fun _ => False) w w' := by
  have hn2 := h2.len2
  have hm2 := k2.len2
  have hn3 := h3.len
  have hm3 := k3.len
  obtain rfl : m2 = n2 := by omega
  obtain rfl : m3 = n3 := by omega
  have hmx2 := own_max h2
  have hmx3 := own_max h3
  have KK := hid KK0
  have HLL := hid hl
  clear KK0
  have TW := ((Touch.refl (fun _ => False) w).alloc (.cells #[.int .i64 rk, .string rt, .slice a2 m2 c2, .slice a3 m3 c3] 26)).alloc (.cells #[.int .i64 rk, .string rt, .slice b2 m2 d2, .slice b3 m3 d3] 26)
  have X1 := hid (((Touch.refl (fun _ => False) (w.alloc (.cells #[.int .i64 rk, .string rt, .slice a2 m2 c2, .slice a3 m3 c3] 26))).alloc (.cells #[.int .i64 rk, .string rt, .slice b2 m2 d2, .slice b3 m3 d3] 26)).block w.heap.size (by rw [size_alloc1]; omega) id |>.trans (jfour_new (w := w) (.int .i64 rk) (.string rt) (.slice a2 m2 c2) (.slice a3 m3 c3) 26))
  have X2 := hid (jfour_new (w := w.alloc (.cells #[.int .i64 rk, .string rt, .slice a2 m2 c2, .slice a3 m3 c3] 26)) (.int .i64 rk) (.string rt) (.slice b2 m2 d2) (.slice b3 m3 d3) 26)
  rw [size_alloc1] at X2
  have P2 := hid (rowKept h2 TW (fun _ _ e => e))
  have P3 := hid (rowKept h3 TW (fun _ _ e => e))
  have Q2 := hid (rowKept k2 TW (fun _ _ e => e))
  have Q3 := hid (rowKept k3 TW (fun _ _ e => e))
  have T1 := hid TW
  have hb2 : m2 ≤ 9223372036854775807 := by omega
  have hb3 : m3 ≤ 9223372036854775807 := by omega
  have HN2 := hid hn2
  have HN3 := hid hn3
  clear h2 h3 k2 k3 hn2 hm2 hn3 hm3 hmx2 hmx3 TW
  go_enter Tryd.func15, Tryd.ntmps15
  go_upto_region 1 with fail
  generalize (w.alloc (.cells #[.int .i64 rk, .string rt, .slice a2 m2 c2, .slice a3 m3 c3] 26)).alloc (.cells #[.int .i64 rk, .string rt, .slice b2 m2 d2, .slice b3 m3 d3] 26) = w1 at *
  generalize w.heap.size + 1 = q at *
  generalize w.heap.size = p at *
  obtain ⟨⟨p0, p1, p2, p3⟩, _⟩ := cells4 X1.out
  obtain ⟨⟨q0, q1, q2, q3⟩, _⟩ := cells4 X2.out
  go_wp2_with fail
  clear p0 p1 p2 p3 q0 q1 q2 q3
  go_loopg [5] m2 (fun gk v wq => ∃ k : Nat, k + gk = m2 ∧ v = .int .i64 (k : Nat) ∧ Hid (Touch (fun _ => False) w1 wq))
  case atStart => exact ⟨0, by omega, rfl, hid (Touch.refl _ _)⟩
  case round =>
    obtain ⟨k, hk, rfl, TK⟩ := hrel
    have Y1 := hid ((TK.out.block p (lt_of_block X1.out) id).trans X1.out)
    have Y2 := hid ((TK.out.block q (lt_of_block X2.out) id).trans X2.out)
    obtain ⟨⟨_, _, p2, p3⟩, _⟩ := cells4 Y1.out
    obtain ⟨⟨_, _, q2, q3⟩, _⟩ := cells4 Y2.out
    by_cases hlt : k < m2
    · have hltI : (k : Int) < (m2 : Int) := by omega
      obtain ⟨g1, rfl, e1⟩ := SL.at2 (P2.out : SL w1 (.slice a2 m2 c2) ks) k (by have := HN2.out; omega)
      obtain ⟨g2, rfl, e2⟩ := SL.at2 (Q2.out : SL w1 (.slice b2 m2 d2) ks) k (by have := HN2.out; omega)
      obtain ⟨KY, hKY⟩ : ∃ KY, KY = ks.getD k ⟨#[]⟩ := ⟨_, rfl⟩
      rw [← hKY] at e1 e2
      have f1 := (TK.out.cell (p := ⟨g1, k, none⟩) (World.block_lt_of_cell? w1 _ e1) id).trans e1
      have f2 := (TK.out.cell (p := ⟨g2, k, none⟩) (World.block_lt_of_cell? w1 _ e2) id).trans e2
      clear e1 e2 hKY
      go_wp2_with fail
      go_quiet (fail)
      go_wp2
      go_roundg (gk - 1)
      case measure => omega
      case rel => exact ⟨k + 1, by omega, by go_num, hid (TK.out.trans ((Touch.refl (fun _ => False) wr).drewN nq) (fun _ _ e => e))⟩
    · have hltI : ¬ (k : Int) < (m2 : Int) := by omega
      go_wp2_with fail
      clear p2 p3 q2 q3
      go_loopg [6] m3 (fun gk v wq => ∃ k : Nat, k + gk = m3 ∧ v = .int .i64 (k : Nat) ∧ Hid (Touch (fun _ => False) w1 wq))
      case atStart => exact ⟨0, by omega, rfl, TK⟩
      case round =>
        obtain ⟨j, hj, rfl, TJ⟩ := hrel
        clear TK Y1 Y2
        have Y1 := hid ((TJ.out.block p (lt_of_block X1.out) id).trans X1.out)
        have Y2 := hid ((TJ.out.block q (lt_of_block X2.out) id).trans X2.out)
        obtain ⟨⟨_, _, p2, p3⟩, _⟩ := cells4 Y1.out
        obtain ⟨⟨_, _, q2, q3⟩, _⟩ := cells4 Y2.out
        by_cases hjl : j < m3
        · have hjI : (j : Int) < (m3 : Int) := by omega
          obtain ⟨c, hc⟩ : ∃ c, cs[j]? = some c := ⟨_, List.getElem?_eq_getElem (by have := HN3.out; omega)⟩
          obtain ⟨dd, hdd⟩ : ∃ dd, ds[j]? = some dd := ⟨_, List.getElem?_eq_getElem (by have := HN3.out; have := HLL.out; omega)⟩
          obtain ⟨⟨xk, xt, xa2, xn2, xc2, xa3, xn3, xc3, rfl⟩, ⟨yk, yt, ya2, yn2, yc2, ya3, yn3, yc3, rfl⟩, KE0⟩ := KK.out j c dd hc hdd
          obtain ⟨g1, rfl, e0, e1, e2, e3⟩ := CL.at (P3.out : CL w1 (.slice a3 m3 c3) cs) j _ hc
          obtain ⟨g2, rfl, d0, d1, d2', d3'⟩ := CL.at (Q3.out : CL w1 (.slice b3 m3 d3) ds) j _ hdd
          dsimp only at e0 e1 e2 e3 d0 d1 d2' d3'
          have l1 := World.block_lt_of_cell? w1 _ e0
          have l2 := World.block_lt_of_cell? w1 _ d0
          replace e0 := (TJ.out.cell (p := ⟨g1, j * 4, none⟩) l1 id).trans e0
          replace e1 := (TJ.out.cell (p := ⟨g1, j * 4 + 1, none⟩) l1 id).trans e1
          replace e2 := (TJ.out.cell (p := ⟨g1, j * 4 + 2, none⟩) l1 id).trans e2
          replace e3 := (TJ.out.cell (p := ⟨g1, j * 4 + 3, none⟩) l1 id).trans e3
          replace d0 := (TJ.out.cell (p := ⟨g2, j * 4, none⟩) l2 id).trans d0
          replace d1 := (TJ.out.cell (p := ⟨g2, j * 4 + 1, none⟩) l2 id).trans d1
          replace d2' := (TJ.out.cell (p := ⟨g2, j * 4 + 2, none⟩) l2 id).trans d2'
          replace d3' := (TJ.out.cell (p := ⟨g2, j * 4 + 3, none⟩) l2 id).trans d3'
          have hen15 : ∀ args w, (callFunc 15 args).run Tryd.prog w = .ok (.enter 15 args) w := Go.Proofs.enters_of Tryd.func15 (by kernel_rfl) rfl
          have KE := hid (show Calls Tryd.prog 15 #[.agg #[.int .i64 xk, .string xt, .slice xa2 xn2 xc2, .slice xa3 xn3 xc3], .agg #[.int .i64 yk, .string yt, .slice ya2 yn2 yc2, .slice ya3 yn3 yc3]] wr.drew fun e w' => ∃ v, e = .returned v ∧ (v = .bool true ∧ Touch (fun _ => False) wr w') from (KE0 wr.drew (T1.out.trans TJ.out (fun _ _ e => e)).drew).mono (fun e w' ⟨h1, h2⟩ => ⟨_, h1, rfl, (Touch.refl (fun _ => False) wr).drew.trans h2 (fun _ _ e => e)⟩))
          clear l1 l2 KE0 hc hdd
          go_wp2_with fail
          go_region_law (first
            | (refine step_call (by rfl) 15 _ _ (by rfl) #[.agg #[.int .i64 xk, .string xt, .slice xa2 xn2 xc2, .slice xa3 xn3 xc3], .agg #[.int .i64 yk, .string yt, .slice ya2 yn2 yc2, .slice ya3 yn3 yc3]] (by rfl) hen15 (fun v w' => v = .bool true ∧ Touch (fun _ => False) wr w') KE.out ?_
               intro v w7 hr
               obtain ⟨rfl, t7⟩ := hr
               have T7 := hid t7
               clear t7))
          all_goals
            go_wp2
            go_roundg (gk - 1)
            case measure => omega
            case rel => exact ⟨j + 1, by omega, by go_num, hid (TJ.out.trans T7.out (fun _ _ e => e))⟩
        · have hjI : ¬ (j : Int) < (m3 : Int) := by omega
          go_wp2
          go_ret
          exact ⟨rfl, T1.out.trans TJ.out (fun _ _ e => e)⟩
theorem TV.shape {w : World} {B : Nat → Prop} {c : Cel} {x : JV} (h : TV w B c x) : ∃ k t a2 n2 c2 a3 n3 c3, c = ⟨k, t, .slice a2 n2 c2, .slice a3 n3 c3⟩ := by
  cases h with
  | mk k t v2 v3 ks kids cs h2 b2 h3 b3 hl hk =>
    obtain ⟨a2, c2, hv2⟩ := own_shape h2
    obtain ⟨a3, c3, hv3⟩ := own_shape h3
    subst hv2
    subst hv3
    exact ⟨_, _, _, _, _, _, _, _, rfl⟩
theorem equal_any {w0 : World} {B : Nat → Prop} {c : Cel} {x : JV} (h : TV w0 B c x) : ∀ (B' : Nat → Prop) (d : Cel) (w : World), TV w0 B' d x → Touch (fun _ => False) w0 w → Calls Tryd.prog 15 #[c.agg, d.agg] w fun e w' => e = .returned (.bool true) ∧ Touch (fun _ => False) w w' := by
  induction h with
  | mk k t v2 v3 ks kids cs h2 b2 h3 b3 hl hk ih =>
    intro B' d w h' T
    cases h' with
    | mk _ _ u2 u3 _ _ ds g2 _ g3 _ gl gk =>
      obtain ⟨a2, c2, hv2⟩ := own_shape h2
      obtain ⟨a3, c3, hv3⟩ := own_shape h3
      obtain ⟨e2, f2, hu2⟩ := own_shape g2
      obtain ⟨e3, f3, hu3⟩ := own_shape g3
      subst hv2
      subst hv3
      subst hu2
      subst hu3
      refine equal_of k t a2 a3 e2 e3 _ c2 _ c3 _ f2 _ f3 ks cs ds w (rowKept h2 T (fun _ _ e => e)) (rowKept h3 T (fun _ _ e => e)) (rowKept g2 T (fun _ _ e => e)) (rowKept g3 T (fun _ _ e => e)) (by omega) ?_
      intro j c d hc hd
      have hj : j < kids.length := by rw [← hl]; exact (List.getElem?_eq_some_iff.1 hc).1
      have ex : kids[j]? = some kids[j] := List.getElem?_eq_getElem hj
      refine ⟨(hk j c _ hc ex).shape, (gk j d _ hd ex).shape, fun w' T' => ih j c _ hc ex B' d w' (gk j d _ hd ex) (T.trans T' (fun _ _ e => e))⟩
end Go.Proofs.YtabhlhgfacpohaaDoor
