/- Texts of this proof, one behind the other: what each says stands ahead of it. -/
import Derived.Test.YtffjkceedbblgaaGreatDoorM11
/- lay of a table: a symbol more is laid; conditions: as LaySpec tells. -/
namespace Go.Proofs.YtffjkceedbblgaaGreatDoor
open Go.RowKit

theorem fill_val (k e B : Nat) (h : 2 ^ e = B) (hk : k < 32) (hB : B ≤ 32) : wrap64 ((k : Int) + wrap64 (2 ^ e)) = ((k + B : Nat) : Int) := by
  have e1 : (2 : Int) ^ e = ((2 ^ e : Nat) : Int) := by simp
  rw [e1, h]
  clear h e1
  unfold wrap64
  omega

theorem fill_less (k B : Nat) (hk : k < 32) (hB : 0 < B) : 64 - ((k + B : Nat) : Int).toNat < 64 - (k : Int).toNat := by omega

set_option maxRecDepth 100000 in
set_option maxHeartbeats 4000000 in
theorem lay_pos (b sz g len n i0 : Nat) (C : Tb.Cells) (f code path : Nat → Nat) (laid : Nat → Prop) (w : World)
    (hT : Tab w b (.slice (some ⟨g, 0, none⟩) len len) C sz) (hI : Ints w (some ⟨g, 0, none⟩) len (fun i => (code i : Nat))) (hg : ¬ TFp w b g) (hi0 : i0 < len) (hn : n ≤ 1024) (hsz : 0 < sz)
    (hW : Tb.Walk C sz laid f path i0 n 0 0) (hnot : ¬ laid i0) (hS : Tb.Sym (fun i => laid i ∨ i = i0) f path) (hp : path i0 = rev (code i0) (f i0)) :
    Calls Tryz.prog 75 #[.pointer (some ⟨b, 0, none⟩), .int .i64 i0, .int .i64 (f i0 : Nat)] w fun e w' =>
      e = .returned (.tuple #[]) ∧ ∃ C' sz', TStep w w' b (.slice (some ⟨g, 0, none⟩) len len) C' sz' ∧ Good C' sz' (fun i => laid i ∨ i = i0) f path ∧ sz' ≤ 96 * (n + 1) := by
  obtain ⟨v, hb, hown⟩ := hT
  obtain ⟨a, cap, rfl⟩ := own_shape hown
  have h0 := cell_two0 hb
  have h1 := cell_two1 hb
  have d0 : w.cell? ⟨g, i0, none⟩ = some (.int .i64 (code i0 : Nat)) := by
    rcases hI with h | ⟨b', o, ha, _, hcell⟩
    · omega
    · simp at ha
      obtain ⟨rfl, rfl⟩ := ha
      have := hcell i0 hi0
      rwa [Nat.zero_add] at this
  have hl0 : ((sz : Int) == 0) = false := by simp; omega
  have hfl := hS.len i0 (.inr rfl)
  have TT := hid (show Tab w b (.slice (some ⟨g, 0, none⟩) len len) C sz from ⟨_, hb, hown⟩)
  have HW := hid hW
  have HS := hid hS
  have HN := hid hnot
  clear hb hown hI hW hS hnot
  go_enter Tryz.func75, Tryz.ntmps75
  go_wp2_with fail
  refine (turned_any (code i0) (f i0) _ (by omega)).mono ?_
  rintro e w1 ⟨rfl, rfl⟩
  rw [← hp]
  go_wp2_with fail
  clear h0 h1 d0
  go_loopw [6, 7, 8] (fun r re q wr => ∃ (d row : Nat) (C' : Tb.Cells) (sz' : Nat), r = .int .i64 (row : Nat) ∧ re = .int .i64 (f i0 - 5 * d : Nat) ∧ q = .int .i64 (path i0 / 2 ^ (5 * d) : Nat) ∧ 5 * d < f i0 ∧ TStep w1 wr b (.slice (some ⟨g, 0, none⟩) len len) C' sz' ∧ Tb.Walk C' sz' laid f path i0 n d row) (fun _ re _ _ => (intOf re).toNat)
  case atStart => exact ⟨0, 0, C, sz, rfl, by simp, by simp [hp], by omega, TStep.refl TT.out, HW.out⟩
  case round =>
    obtain ⟨d, row, C', sz', rfl, rfl, rfl, hd, hst, hw⟩ := hrel
    have hsz' : sz' ≤ 98496 := by have := hw.2.1; omega
    obtain ⟨hr32, hrlt⟩ := hw.lt
    have hrb : row ≤ 98496 := by omega
    have hPb : path i0 / 2 ^ (5 * d) ≤ 32768 := by
      have := HS.out.lt i0 (.inr rfl)
      have h2 : 2 ^ f i0 ≤ 2 ^ 15 := Nat.pow_le_pow_right (by decide) hfl.2
      have h3 := Nat.div_le_self (path i0) (2 ^ (5 * d))
      omega
    have ST := hid hst
    have WK := hid hw
    clear hst hw
    obtain ⟨P, hP⟩ : ∃ P, path i0 / 2 ^ (5 * d) = P := ⟨_, rfl⟩
    rw [hP] at hPb ⊢
    have HP := hid hP
    clear hP
    by_cases hmore : 5 * (d + 1) < f i0
    · have hgt : (5 : Int) < ((f i0 - 5 * d : Nat) : Int) := by omega
      go_wp2_with fail
      have hcast : (row : Int) + (P : Int) % 32 = ((row + P % 32 : Nat) : Int) := by omega
      rw [hcast]
      clear hcast
      have hstep := WK.out.step HS.out HN.out hmore
      rw [HP.out] at hstep
      have hsh : P / 32 = path i0 / 2 ^ (5 * (d + 1)) := by rw [← HP.out, shift5]
      have HST := hid hstep
      have HSH := hid hsh
      clear hstep hsh
      refine (rowBehind_any b sz' (row + P % 32) _ C' wr ST.out.tab (by omega) (by omega)).mono ?_
      rintro e w2 (⟨hF, rfl, rfl⟩ | ⟨hF, rfl, hst2⟩)
      · rcases HST.out with ⟨_, hw2⟩ | ⟨h0, _⟩
        · have W2 := hid hw2
          clear hw2 HST
          generalize C'.F (row + P % 32) = nr at *
          go_wp2
          go_roundw
          case rel => exact ⟨d + 1, nr, C', sz', rfl, by congr 1; omega, by rw [← HSH.out]; congr 1, hmore, ST.out, W2.out⟩
          case measure => simp [intOf]; omega
        · omega
      · rcases HST.out with ⟨h0, _⟩ | ⟨_, hw2⟩
        · omega
        · have W2 := hid (hw2 (putCell (cut C' sz') (row + P % 32) (C'.S (row + P % 32)) (C'.L (row + P % 32)) sz') (fun x hx hne => by
            obtain ⟨a1, a2, a3⟩ := putCell_ne (cut C' sz') (C'.S (row + P % 32)) (C'.L (row + P % 32)) sz' hne
            obtain ⟨b1, b2, b3⟩ := cut_same C' sz' x hx
            rw [a1, a2, a3]
            exact ⟨b1, b2, b3⟩) (putCell_at _ _ _ _ _).2.2 (fun x hx => by
            obtain ⟨a1, a2, a3⟩ := putCell_ne (cut C' sz') (i := row + P % 32) (k := sz' + x) (C'.S (row + P % 32)) (C'.L (row + P % 32)) sz' (by omega)
            obtain ⟨b1, b2, b3⟩ := cut_past C' sz' (sz' + x) (by omega)
            rw [a2, a3]
            exact ⟨b2, b3⟩))
          have S2 := hid (ST.out.trans hst2)
          clear hw2 HST hst2
          go_wp2
          go_roundw
          case rel => exact ⟨d + 1, sz', _, sz' + 32, rfl, by congr 1; omega, by rw [← HSH.out]; congr 1, hmore, S2.out, W2.out⟩
          case measure => simp [intOf]; omega
    · have hgt : ¬ (5 : Int) < ((f i0 - 5 * d : Nat) : Int) := by omega
      go_wp2_with fail
      obtain ⟨B, hB⟩ : ∃ B, 2 ^ (f i0 - 5 * d) = B := ⟨_, rfl⟩
      have hPB : P < B := by
        rw [← hB, ← HP.out]
        refine Nat.div_lt_of_lt_mul ?_
        rw [← Nat.pow_add, show 5 * d + (f i0 - 5 * d) = f i0 by omega]
        exact HS.out.lt i0 (.inr rfl)
      have hB32 : B ≤ 32 := by
        rw [← hB]
        exact Nat.pow_le_pow_right (n := 2) (by decide) (show f i0 - 5 * d ≤ 5 by omega)
      go_loopw [9] (fun i wr2 => ∃ k : Nat, i = .int .i64 (k : Nat) ∧ k % B = P ∧ k < 32 + B ∧ TStep w1 wr2 b (.slice (some ⟨g, 0, none⟩) len len) (Tb.fillTo C' row P B i0 (f i0) k) sz') (fun i _ => 64 - (intOf i).toNat)
      case atStart =>
        refine ⟨P, rfl, Nat.mod_eq_of_lt hPB, by omega, ?_⟩
        refine ST.out.ext (fun i _ => ?_)
        obtain ⟨a1, a2, a3⟩ := Tb.fillTo_zero (C := C') (row := row) (s := i0) (l := f i0) hPB i
        exact ⟨a1.symm, a2.symm, a3.symm⟩
      case round =>
        obtain ⟨k, rfl, hkm, hk, hst3⟩ := hrel
        by_cases hlt : k < 32
        · obtain ⟨g3, cap3, hb3, hbg3, hcell3, hfr3⟩ := hst3.tab.cells (by omega)
          have k1 := cell_two1 hb3
          obtain ⟨m0, m1, m2⟩ := hcell3 (row + k) (by omega)
          have f0 := hfr3 ((row + k) * 3)
          have f1 := hfr3 ((row + k) * 3 + 1)
          have f2 := hfr3 ((row + k) * 3 + 2)
          have S3 := hid hst3
          have HB3 := hid hb3
          clear hst3 hb3 hcell3 hfr3 hbg3
          generalize (Tb.fillTo C' row P B i0 (f i0) k).S (row + k) = x0 at *
          generalize (Tb.fillTo C' row P B i0 (f i0) k).L (row + k) = x1 at *
          generalize (Tb.fillTo C' row P B i0 (f i0) k).F (row + k) = x2 at *
          go_wp2_with fail
          have hval := fill_val k (f i0 - 5 * d) B hB hlt hB32
          rw [hval]
          refine ⟨⟨k + B, rfl, by rw [Nat.add_mod_right]; exact hkm, Nat.add_lt_add_right hlt B, ?_⟩, by simp only [intOf]; exact fill_less k B hlt (Nat.lt_of_le_of_lt (Nat.zero_le P) hPB)⟩
          refine TStep.ext (S3.out.trans (tab_set3 S3.out.tab HB3.out (row + k) i0 (f i0) (Nat.lt_of_lt_of_le (Nat.add_lt_add_left hlt row) hrlt))) (fun i _ => ?_)
          obtain ⟨c1, c2⟩ := Tb.fillTo_step (C := C') (row := row) (s := i0) (l := f i0) (Nat.lt_of_le_of_lt (Nat.zero_le P) hPB) hkm i
          by_cases e : i = row + k
          · obtain ⟨a1, a2, a3⟩ := c1 e
            rw [a1, a2, a3, e]
            exact putCell_at _ _ _ _ _
          · obtain ⟨a1, a2, a3⟩ := c2 e
            rw [a1, a2, a3]
            exact putCell_ne _ _ _ _ e
        · go_wp2_with fail
          go_end0
          have hd2 : d ≤ 2 := by omega
          refine ⟨rfl, _, sz', hst3, .inr ⟨by omega, WK.out.1, ?_⟩, by have := WK.out.2.1; omega⟩
          have hfill := WK.out.fill (i := k) HS.out HN.out hd (by omega) (by omega) (by rw [hB]; exact hk) (by rw [hB, HP.out]; exact hkm)
          rw [hB, HP.out] at hfill
          exact hfill

set_option maxRecDepth 100000 in
set_option maxHeartbeats 4000000 in
theorem lay_zero (b g len n i0 : Nat) (C0 : Tb.Cells) (f code path : Nat → Nat) (laid : Nat → Prop) (w : World)
    (hT : Tab w b (.slice (some ⟨g, 0, none⟩) len len) C0 0) (hI : Ints w (some ⟨g, 0, none⟩) len (fun i => (code i : Nat))) (hg : ¬ TFp w b g) (hi0 : i0 < len) (hn : n ≤ 1024)
    (hno : ∀ i, ¬ laid i) (hS : Tb.Sym (fun i => laid i ∨ i = i0) f path) (hp : path i0 = rev (code i0) (f i0)) :
    Calls Tryz.prog 75 #[.pointer (some ⟨b, 0, none⟩), .int .i64 i0, .int .i64 (f i0 : Nat)] w fun e w' =>
      e = .returned (.tuple #[]) ∧ ∃ C' sz', TStep w w' b (.slice (some ⟨g, 0, none⟩) len len) C' sz' ∧ Good C' sz' (fun i => laid i ∨ i = i0) f path ∧ sz' ≤ 96 * (n + 1) := by
  have hT0 := hT
  obtain ⟨v, hb, hown⟩ := hT
  obtain ⟨a, cap, rfl⟩ := own_shape hown
  have h1 := cell_two1 hb
  have hglt : g < w.heap.size := by
    rcases hI with h | ⟨b', o, ha, hlt, _⟩
    · omega
    · simp at ha
      obtain ⟨rfl, rfl⟩ := ha
      exact hlt
  have D0 := hid (show w.cell? ⟨g, i0, none⟩ = some (.int .i64 (code i0 : Nat)) from by
    rcases hI with h | ⟨b', o, ha, _, hcell⟩
    · omega
    · simp at ha
      obtain ⟨rfl, rfl⟩ := ha
      have := hcell i0 hi0
      rwa [Nat.zero_add] at this)
  have hfl := hS.len i0 (.inr rfl)
  have T0 := hid hT0
  have HS := hid hS
  have HN := hid (hno i0)
  have HNO := hid hno
  have HG := hid hg
  clear hT0 hb hown hI hS hno hg
  go_enter Tryz.func75, Tryz.ntmps75
  go_wp2_with fail
  refine (addRow_any b 0 _ C0 w T0.out (by omega)).mono ?_
  rintro e w1 ⟨rfl, hst0⟩
  obtain ⟨C, hC⟩ : ∃ C, cut C0 0 = C := ⟨_, rfl⟩
  have hC0 : ∀ x, x < 32 → C.L x = 0 ∧ C.F x = 0 := by
    intro x hx
    rw [← hC]
    exact (cut_past C0 0 x (by omega)).2
  rw [hC] at hst0
  obtain ⟨sz, hsz⟩ : ∃ sz, 0 + 32 = sz := ⟨_, rfl⟩
  rw [hsz] at hst0
  have HW := hid (show Tb.Walk C sz laid f path i0 n 0 0 from by rw [← hsz]; exact Tb.Walk.first i0 n HNO.out hC0)
  have TT := hid hst0.tab
  have ST0 := hid hst0
  obtain ⟨v1, hb1, hown1⟩ := hst0.tab
  have h0 := cell_two0 hb1
  have d0 : w1.cell? ⟨g, i0, none⟩ = some (.int .i64 (code i0 : Nat)) := by rw [hst0.touch.cell (p := ⟨g, i0, none⟩) hglt HG.out]; exact D0.out
  clear hst0 hb1 hown1 hC0 hC h1 hsz
  go_wp2_with fail
  refine (turned_any (code i0) (f i0) _ (by omega)).mono ?_
  rintro e w1 ⟨rfl, rfl⟩
  rw [← hp]
  go_wp2_with fail
  clear h0 d0
  go_loopw [6, 7, 8] (fun r re q wr => ∃ (d row : Nat) (C' : Tb.Cells) (sz' : Nat), r = .int .i64 (row : Nat) ∧ re = .int .i64 (f i0 - 5 * d : Nat) ∧ q = .int .i64 (path i0 / 2 ^ (5 * d) : Nat) ∧ 5 * d < f i0 ∧ TStep w1 wr b (.slice (some ⟨g, 0, none⟩) len len) C' sz' ∧ Tb.Walk C' sz' laid f path i0 n d row) (fun _ re _ _ => (intOf re).toNat)
  case atStart => exact ⟨0, 0, C, sz, rfl, by simp, by simp [hp], by omega, TStep.refl TT.out, HW.out⟩
  case round =>
    obtain ⟨d, row, C', sz', rfl, rfl, rfl, hd, hst, hw⟩ := hrel
    have hsz' : sz' ≤ 98496 := by have := hw.2.1; omega
    obtain ⟨hr32, hrlt⟩ := hw.lt
    have hrb : row ≤ 98496 := by omega
    have hPb : path i0 / 2 ^ (5 * d) ≤ 32768 := by
      have := HS.out.lt i0 (.inr rfl)
      have h2 : 2 ^ f i0 ≤ 2 ^ 15 := Nat.pow_le_pow_right (by decide) hfl.2
      have h3 := Nat.div_le_self (path i0) (2 ^ (5 * d))
      omega
    have ST := hid hst
    have WK := hid hw
    clear hst hw
    obtain ⟨P, hP⟩ : ∃ P, path i0 / 2 ^ (5 * d) = P := ⟨_, rfl⟩
    rw [hP] at hPb ⊢
    have HP := hid hP
    clear hP
    by_cases hmore : 5 * (d + 1) < f i0
    · have hgt : (5 : Int) < ((f i0 - 5 * d : Nat) : Int) := by omega
      go_wp2_with fail
      have hcast : (row : Int) + (P : Int) % 32 = ((row + P % 32 : Nat) : Int) := by omega
      rw [hcast]
      clear hcast
      have hstep := WK.out.step HS.out HN.out hmore
      rw [HP.out] at hstep
      have hsh : P / 32 = path i0 / 2 ^ (5 * (d + 1)) := by rw [← HP.out, shift5]
      have HST := hid hstep
      have HSH := hid hsh
      clear hstep hsh
      refine (rowBehind_any b sz' (row + P % 32) _ C' wr ST.out.tab (by omega) (by omega)).mono ?_
      rintro e w2 (⟨hF, rfl, rfl⟩ | ⟨hF, rfl, hst2⟩)
      · rcases HST.out with ⟨_, hw2⟩ | ⟨h0, _⟩
        · have W2 := hid hw2
          clear hw2 HST
          generalize C'.F (row + P % 32) = nr at *
          go_wp2
          go_roundw
          case rel => exact ⟨d + 1, nr, C', sz', rfl, by congr 1; omega, by rw [← HSH.out]; congr 1, hmore, ST.out, W2.out⟩
          case measure => simp [intOf]; omega
        · omega
      · rcases HST.out with ⟨h0, _⟩ | ⟨_, hw2⟩
        · omega
        · have W2 := hid (hw2 (putCell (cut C' sz') (row + P % 32) (C'.S (row + P % 32)) (C'.L (row + P % 32)) sz') (fun x hx hne => by
            obtain ⟨a1, a2, a3⟩ := putCell_ne (cut C' sz') (C'.S (row + P % 32)) (C'.L (row + P % 32)) sz' hne
            obtain ⟨b1, b2, b3⟩ := cut_same C' sz' x hx
            rw [a1, a2, a3]
            exact ⟨b1, b2, b3⟩) (putCell_at _ _ _ _ _).2.2 (fun x hx => by
            obtain ⟨a1, a2, a3⟩ := putCell_ne (cut C' sz') (i := row + P % 32) (k := sz' + x) (C'.S (row + P % 32)) (C'.L (row + P % 32)) sz' (by omega)
            obtain ⟨b1, b2, b3⟩ := cut_past C' sz' (sz' + x) (by omega)
            rw [a2, a3]
            exact ⟨b2, b3⟩))
          have S2 := hid (ST.out.trans hst2)
          clear hw2 HST hst2
          go_wp2
          go_roundw
          case rel => exact ⟨d + 1, sz', _, sz' + 32, rfl, by congr 1; omega, by rw [← HSH.out]; congr 1, hmore, S2.out, W2.out⟩
          case measure => simp [intOf]; omega
    · have hgt : ¬ (5 : Int) < ((f i0 - 5 * d : Nat) : Int) := by omega
      go_wp2_with fail
      obtain ⟨B, hB⟩ : ∃ B, 2 ^ (f i0 - 5 * d) = B := ⟨_, rfl⟩
      have hPB : P < B := by
        rw [← hB, ← HP.out]
        refine Nat.div_lt_of_lt_mul ?_
        rw [← Nat.pow_add, show 5 * d + (f i0 - 5 * d) = f i0 by omega]
        exact HS.out.lt i0 (.inr rfl)
      have hB32 : B ≤ 32 := by
        rw [← hB]
        exact Nat.pow_le_pow_right (n := 2) (by decide) (show f i0 - 5 * d ≤ 5 by omega)
      go_loopw [9] (fun i wr2 => ∃ k : Nat, i = .int .i64 (k : Nat) ∧ k % B = P ∧ k < 32 + B ∧ TStep w1 wr2 b (.slice (some ⟨g, 0, none⟩) len len) (Tb.fillTo C' row P B i0 (f i0) k) sz') (fun i _ => 64 - (intOf i).toNat)
      case atStart =>
        refine ⟨P, rfl, Nat.mod_eq_of_lt hPB, by omega, ?_⟩
        refine ST.out.ext (fun i _ => ?_)
        obtain ⟨a1, a2, a3⟩ := Tb.fillTo_zero (C := C') (row := row) (s := i0) (l := f i0) hPB i
        exact ⟨a1.symm, a2.symm, a3.symm⟩
      case round =>
        obtain ⟨k, rfl, hkm, hk, hst3⟩ := hrel
        by_cases hlt : k < 32
        · obtain ⟨g3, cap3, hb3, hbg3, hcell3, hfr3⟩ := hst3.tab.cells (by omega)
          have k1 := cell_two1 hb3
          obtain ⟨m0, m1, m2⟩ := hcell3 (row + k) (by omega)
          have f0 := hfr3 ((row + k) * 3)
          have f1 := hfr3 ((row + k) * 3 + 1)
          have f2 := hfr3 ((row + k) * 3 + 2)
          have S3 := hid hst3
          have HB3 := hid hb3
          clear hst3 hb3 hcell3 hfr3 hbg3
          generalize (Tb.fillTo C' row P B i0 (f i0) k).S (row + k) = x0 at *
          generalize (Tb.fillTo C' row P B i0 (f i0) k).L (row + k) = x1 at *
          generalize (Tb.fillTo C' row P B i0 (f i0) k).F (row + k) = x2 at *
          go_wp2_with fail
          have hval := fill_val k (f i0 - 5 * d) B hB hlt hB32
          rw [hval]
          refine ⟨⟨k + B, rfl, by rw [Nat.add_mod_right]; exact hkm, Nat.add_lt_add_right hlt B, ?_⟩, by simp only [intOf]; exact fill_less k B hlt (Nat.lt_of_le_of_lt (Nat.zero_le P) hPB)⟩
          refine TStep.ext (S3.out.trans (tab_set3 S3.out.tab HB3.out (row + k) i0 (f i0) (Nat.lt_of_lt_of_le (Nat.add_lt_add_left hlt row) hrlt))) (fun i _ => ?_)
          obtain ⟨c1, c2⟩ := Tb.fillTo_step (C := C') (row := row) (s := i0) (l := f i0) (Nat.lt_of_le_of_lt (Nat.zero_le P) hPB) hkm i
          by_cases e : i = row + k
          · obtain ⟨a1, a2, a3⟩ := c1 e
            rw [a1, a2, a3, e]
            exact putCell_at _ _ _ _ _
          · obtain ⟨a1, a2, a3⟩ := c2 e
            rw [a1, a2, a3]
            exact putCell_ne _ _ _ _ e
        · go_wp2_with fail
          go_end0
          have hd2 : d ≤ 2 := by omega
          refine ⟨rfl, _, sz', ST0.out.trans hst3, .inr ⟨by omega, WK.out.1, ?_⟩, by have := WK.out.2.1; omega⟩
          have hfill := WK.out.fill (i := k) HS.out HN.out hd (by omega) (by omega) (by rw [hB]; exact hk) (by rw [hB, HP.out]; exact hkm)
          rw [hB, HP.out] at hfill
          exact hfill

theorem lay_any : LaySpec := by
  intro b sz g len n i0 C f code path laid w hT hI hg hi0 hn hsz hG hnot hS hp
  rcases hG with ⟨rfl, hno⟩ | ⟨hpos, h32, E, R, v, hown⟩
  · exact lay_zero b g len n i0 C f code path laid w hT hI hg hi0 hn hno hS hp
  · refine lay_pos b sz g len n i0 C f code path laid w hT hI hg hi0 hn hpos ⟨h32, by omega, E, R, v, ?_, ?_, ?_⟩ hnot hS hp
    · intro d q h
      obtain ⟨j, h1, h2⟩ := hown d q h
      exact ⟨j, .inl h1, h2⟩
    · intro d' hd'
      obtain rfl : d' = 0 := by omega
      simpa [Nat.mod_one] using v.root.1
    · simpa [Nat.mod_one] using v.root.2
end Go.Proofs.YtffjkceedbblgaaGreatDoor
