/- equal, of texts and of objects of texts; no condition. -/
import Derived.Test.YtabhlhgfacpohaaDoorSc
namespace Go.Proofs.YtabhlhgfacpohaaDoor
open Go.RowKit
open Go.Lib

set_option maxRecDepth 100000 in
set_option maxHeartbeats 4000000 in
theorem equal_text (o : ByteArray) (w : World) :
    Calls Tryd.prog 15 #[.agg #[.int .i64 4, .string o, .slice none 0 0, .slice none 0 0], .agg #[.int .i64 4, .string o, .slice none 0 0, .slice none 0 0]] w fun e w' => e = .returned (.bool true) ∧ Touch (fun _ => False) w w' := by
  have TA := hid (((Touch.refl (fun _ => False) w).alloc (.cells #[.int .i64 4, .string o, .slice none 0 0, .slice none 0 0] 26)).alloc (.cells #[.int .i64 4, .string o, .slice none 0 0, .slice none 0 0] 26))
  have X1 := ((Touch.refl (fun _ => False) (w.alloc (.cells #[.int .i64 4, .string o, .slice none 0 0, .slice none 0 0] 26))).alloc (.cells #[.int .i64 4, .string o, .slice none 0 0, .slice none 0 0] 26)).block w.heap.size (by rw [size_alloc1]; omega) id |>.trans (jfour_new (w := w) (.int .i64 4) (.string o) (.slice none 0 0) (.slice none 0 0) 26)
  have X2 := jfour_new (w := w.alloc (.cells #[.int .i64 4, .string o, .slice none 0 0, .slice none 0 0] 26)) (.int .i64 4) (.string o) (.slice none 0 0) (.slice none 0 0) 26
  rw [size_alloc1] at X2
  go_enter Tryd.func15, Tryd.ntmps15
  go_upto_region 1 with fail
  generalize (w.alloc (.cells #[.int .i64 4, .string o, .slice none 0 0, .slice none 0 0] 26)).alloc (.cells #[.int .i64 4, .string o, .slice none 0 0, .slice none 0 0] 26) = w1 at *
  generalize w.heap.size + 1 = q at *
  generalize w.heap.size = p at *
  obtain ⟨⟨p0, p1, p2, p3⟩, _⟩ := cells4 X1
  obtain ⟨⟨q0, q1, q2, q3⟩, _⟩ := cells4 X2
  clear X1 X2
  go_wp2_with fail
  go_loopg [5] 0 (fun gk v wq => v = .int .i64 0 ∧ w1 = wq)
  case atStart => exact ⟨rfl, rfl⟩
  case round =>
    obtain ⟨rfl, rfl⟩ := hrel
    go_wp2_with fail
    go_loopg [6] 0 (fun gk v wq => v = .int .i64 0 ∧ w1 = wq)
    case atStart => exact ⟨rfl, rfl⟩
    case round =>
      obtain ⟨rfl, rfl⟩ := hrel
      go_wp2
      go_ret
      exact ⟨rfl, TA.out⟩
set_option maxRecDepth 100000 in
set_option maxHeartbeats 8000000 in
theorem equal_obj (a2 a3 b2 b3 : Option Addr) (n2 c2 n3 c3 m2 d2 m3 d3 : Nat) (ks ts : List ByteArray) (w : World) (h2 : SL w (.slice a2 n2 c2) ks) (h3 : VL w (.slice a3 n3 c3) ts) (k2 : SL w (.slice b2 m2 d2) ks) (k3 : VL w (.slice b3 m3 d3) ts) (hl2 : ks.length ≤ 60) (hl3 : ts.length ≤ 60) :
    Calls Tryd.prog 15 #[.agg #[.int .i64 6, .string ⟨#[]⟩, .slice a2 n2 c2, .slice a3 n3 c3], .agg #[.int .i64 6, .string ⟨#[]⟩, .slice b2 m2 d2, .slice b3 m3 d3]] w fun e w' => e = .returned (.bool true) ∧ Touch (fun _ => False) w w' := by
  have hn2 := h2.len
  have hm2 := k2.len
  have hn3 := h3.len
  have hm3 := k3.len
  obtain rfl : m2 = n2 := by omega
  obtain rfl : m3 = n3 := by omega
  have TW := ((Touch.refl (fun _ => False) w).alloc (.cells #[.int .i64 6, .string ⟨#[]⟩, .slice a2 m2 c2, .slice a3 m3 c3] 26)).alloc (.cells #[.int .i64 6, .string ⟨#[]⟩, .slice b2 m2 d2, .slice b3 m3 d3] 26)
  have X1 := hid (((Touch.refl (fun _ => False) (w.alloc (.cells #[.int .i64 6, .string ⟨#[]⟩, .slice a2 m2 c2, .slice a3 m3 c3] 26))).alloc (.cells #[.int .i64 6, .string ⟨#[]⟩, .slice b2 m2 d2, .slice b3 m3 d3] 26)).block w.heap.size (by rw [size_alloc1]; omega) id |>.trans (jfour_new (w := w) (.int .i64 6) (.string ⟨#[]⟩) (.slice a2 m2 c2) (.slice a3 m3 c3) 26))
  have X2 := hid (jfour_new (w := w.alloc (.cells #[.int .i64 6, .string ⟨#[]⟩, .slice a2 m2 c2, .slice a3 m3 c3] 26)) (.int .i64 6) (.string ⟨#[]⟩) (.slice b2 m2 d2) (.slice b3 m3 d3) 26)
  rw [size_alloc1] at X2
  have P2 := hid (rowKept h2 TW (fun _ _ e => e))
  have P3 := hid (rowKept h3 TW (fun _ _ e => e))
  have Q2 := hid (rowKept k2 TW (fun _ _ e => e))
  have Q3 := hid (rowKept k3 TW (fun _ _ e => e))
  have T1 := hid TW
  have hb2 : m2 ≤ 60 := by omega
  have hb3 : m3 ≤ 60 := by omega
  have HN2 := hid hn2
  have HN3 := hid hn3
  clear h2 h3 k2 k3 TW hn2 hm2 hn3 hm3
  go_enter Tryd.func15, Tryd.ntmps15
  go_upto_region 1 with fail
  generalize (w.alloc (.cells #[.int .i64 6, .string ⟨#[]⟩, .slice a2 m2 c2, .slice a3 m3 c3] 26)).alloc (.cells #[.int .i64 6, .string ⟨#[]⟩, .slice b2 m2 d2, .slice b3 m3 d3] 26) = w1 at *
  generalize w.heap.size + 1 = q at *
  generalize w.heap.size = p at *
  obtain ⟨⟨p0, p1, p2, p3⟩, _⟩ := cells4 X1.out
  obtain ⟨⟨q0, q1, q2, q3⟩, _⟩ := cells4 X2.out
  go_wp2_with fail
  clear p0 p1 p2 p3 q0 q1 q2 q3
  go_loopg [5] m2 (fun gk v wq => ∃ k : Nat, k + gk = m2 ∧ v = .int .i64 (k : Nat) ∧ Hid (Touch (fun _ => False) w1 wq))
  case atStart => exact ⟨0, by omega, rfl, hid (Touch.refl _ _)⟩
  case round =>
    obtain ⟨k, hk, rfl, TK⟩ := hrel
    have Y1 := hid ((TK.out.block p (lt_of_block X1.out) id).trans X1.out)
    have Y2 := hid ((TK.out.block q (lt_of_block X2.out) id).trans X2.out)
    obtain ⟨⟨_, _, p2, p3⟩, _⟩ := cells4 Y1.out
    obtain ⟨⟨_, _, q2, q3⟩, _⟩ := cells4 Y2.out
    by_cases hlt : k < m2
    · have hltI : (k : Int) < (m2 : Int) := by omega
      obtain ⟨g1, rfl, e1⟩ := SL.at (P2.out : SL w1 (.slice a2 m2 c2) ks) k (by have := HN2.out; omega)
      obtain ⟨g2, rfl, e2⟩ := SL.at (Q2.out : SL w1 (.slice b2 m2 d2) ks) k (by have := HN2.out; omega)
      obtain ⟨KY, hKY⟩ : ∃ KY, KY = ks.getD k ⟨#[]⟩ := ⟨_, rfl⟩
      rw [← hKY] at e1 e2
      have f1 := (TK.out.cell (p := ⟨g1, k, none⟩) (World.block_lt_of_cell? w1 _ e1) id).trans e1
      have f2 := (TK.out.cell (p := ⟨g2, k, none⟩) (World.block_lt_of_cell? w1 _ e2) id).trans e2
      clear e1 e2 hKY
      go_wp2_with fail
      go_quiet (fail)
      go_wp2
      go_roundg (gk - 1)
      case measure => omega
      case rel => exact ⟨k + 1, by omega, by go_num, hid (TK.out.trans ((Touch.refl (fun _ => False) wr).drewN nq) (fun _ _ e => e))⟩
    · have hltI : ¬ (k : Int) < (m2 : Int) := by omega
      go_wp2_with fail
      clear p2 p3 q2 q3
      go_loopg [6] m3 (fun gk v wq => ∃ k : Nat, k + gk = m3 ∧ v = .int .i64 (k : Nat) ∧ Hid (Touch (fun _ => False) w1 wq))
      case atStart => exact ⟨0, by omega, rfl, TK⟩
      case round =>
        obtain ⟨j, hj, rfl, TJ⟩ := hrel
        clear TK Y1 Y2
        have Y1 := hid ((TJ.out.block p (lt_of_block X1.out) id).trans X1.out)
        have Y2 := hid ((TJ.out.block q (lt_of_block X2.out) id).trans X2.out)
        obtain ⟨⟨_, _, p2, p3⟩, _⟩ := cells4 Y1.out
        obtain ⟨⟨_, _, q2, q3⟩, _⟩ := cells4 Y2.out
        by_cases hjl : j < m3
        · have hjI : (j : Int) < (m3 : Int) := by omega
          obtain ⟨g1, rfl, e0, e1, e2, e3⟩ := VL.at (P3.out : VL w1 (.slice a3 m3 c3) ts) j (by have := HN3.out; omega)
          obtain ⟨g2, rfl, d0, d1, d2', d3'⟩ := VL.at (Q3.out : VL w1 (.slice b3 m3 d3) ts) j (by have := HN3.out; omega)
          obtain ⟨TX, hTX⟩ : ∃ TX, TX = ts.getD j ⟨#[]⟩ := ⟨_, rfl⟩
          rw [← hTX] at e1 d1
          have l1 := World.block_lt_of_cell? w1 _ e0
          have l2 := World.block_lt_of_cell? w1 _ d0
          replace e0 := (TJ.out.cell (p := ⟨g1, j * 4, none⟩) l1 id).trans e0
          replace e1 := (TJ.out.cell (p := ⟨g1, j * 4 + 1, none⟩) l1 id).trans e1
          replace e2 := (TJ.out.cell (p := ⟨g1, j * 4 + 2, none⟩) l1 id).trans e2
          replace e3 := (TJ.out.cell (p := ⟨g1, j * 4 + 3, none⟩) l1 id).trans e3
          replace d0 := (TJ.out.cell (p := ⟨g2, j * 4, none⟩) l2 id).trans d0
          replace d1 := (TJ.out.cell (p := ⟨g2, j * 4 + 1, none⟩) l2 id).trans d1
          replace d2' := (TJ.out.cell (p := ⟨g2, j * 4 + 2, none⟩) l2 id).trans d2'
          replace d3' := (TJ.out.cell (p := ⟨g2, j * 4 + 3, none⟩) l2 id).trans d3'
          have hen15 : ∀ args w, (callFunc 15 args).run Tryd.prog w = .ok (.enter 15 args) w := Go.Proofs.enters_of Tryd.func15 (by kernel_rfl) rfl
          have KE := hid (show Calls Tryd.prog 15 #[.agg #[.int .i64 4, .string TX, .slice none 0 0, .slice none 0 0], .agg #[.int .i64 4, .string TX, .slice none 0 0, .slice none 0 0]] wr.drew fun e w' => ∃ v, e = .returned v ∧ (v = .bool true ∧ Touch (fun _ => False) wr w') from (equal_text TX wr.drew).mono (fun e w' ⟨h1, h2⟩ => ⟨_, h1, rfl, (Touch.refl (fun _ => False) wr).drew.trans h2 (fun _ _ e => e)⟩))
          clear l1 l2 hTX
          go_wp2_with fail
          go_region_law (first
            | (refine step_call (by rfl) 15 _ _ (by rfl) #[.agg #[.int .i64 4, .string TX, .slice none 0 0, .slice none 0 0], .agg #[.int .i64 4, .string TX, .slice none 0 0, .slice none 0 0]] (by rfl) hen15 (fun v w' => v = .bool true ∧ Touch (fun _ => False) wr w') KE.out ?_
               intro v w7 hr
               obtain ⟨rfl, t7⟩ := hr
               have T7 := hid t7
               clear t7))
          all_goals
            go_wp2
            go_roundg (gk - 1)
            case measure => omega
            case rel => exact ⟨j + 1, by omega, by go_num, hid (TJ.out.trans T7.out (fun _ _ e => e))⟩
        · have hjI : ¬ (j : Int) < (m3 : Int) := by omega
          go_wp2
          go_ret
          exact ⟨rfl, T1.out.trans TJ.out (fun _ _ e => e)⟩
end Go.Proofs.YtabhlhgfacpohaaDoor
