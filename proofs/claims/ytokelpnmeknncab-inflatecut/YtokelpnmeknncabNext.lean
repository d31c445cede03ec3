/- Next of a table: the symbol whose bits come next, or none; conditions: the table is laid as it should be, at most three rows deep. -/
import Derived.Test.YtokelpnmeknncabTab
import Derived.Test.YtokelpnmeknncabTake
import Derived.WalkMore
import Derived.ScopeJumps
namespace Go.Proofs.Ytokelpnmeknncab
open Go.RowKit

theorem next_nil (r : Value) (w : World) (hr : ∃ a, r = .pointer a) :
    Calls Try.prog 14 #[.pointer none, r] w fun e w' => e = .returned (.tuple #[.int .i64 0, .int .i64 1]) ∧ w' = w := by
  obtain ⟨a, rfl⟩ := hr
  go_enter Try.func14, Try.ntmps14
  go_wp2
  go_step3
  go_wp2
  rw [Exit.noGoto_ret]
  go_ret2
  exact ⟨rfl, rfl⟩

theorem next_noreader (b : Nat) (w : World) :
    Calls Try.prog 14 #[.pointer (some ⟨b, 0, none⟩), .pointer none] w fun e w' => e = .returned (.tuple #[.int .i64 0, .int .i64 1]) ∧ w' = w := by
  go_enter Try.func14, Try.ntmps14
  go_wp2
  go_step3
  go_wp2
  rw [Exit.noGoto_ret]
  go_ret2
  exact ⟨rfl, rfl⟩

/-- What Next answers, of bits p ahead (15, or as many as there are). -/
def Answer (laid : Nat → Prop) (f path : Nat → Nat) (p : Nat) (s : ByteArray) (t r : Nat) (w : World) (e : Ending) (w' : World) : Prop :=
  (∃ i, laid i ∧ p % 2 ^ f i = path i ∧ t + f i ≤ 8 * s.size ∧ e = .returned (.tuple #[.int .i64 (i : Nat), .int .i64 0]) ∧ RStep w w' r s (t + f i)) ∨
  (∃ i, laid i ∧ p % 2 ^ f i = path i ∧ 8 * s.size < t + f i ∧ e = .returned (.tuple #[.int .i64 0, .int .i64 3]) ∧ RStep w w' r s t) ∨
  ((∀ i, laid i → p % 2 ^ f i ≠ path i) ∧ e = .returned (.tuple #[.int .i64 0, .int .i64 5]) ∧ RStep w w' r s t)

theorem shift5 (p d : Nat) : p / 2 ^ (5 * d) / 32 = p / 2 ^ (5 * (d + 1)) := by
  rw [Nat.div_div_eq_div_mul, show 5 * (d + 1) = 5 * d + 5 by omega, Nat.pow_add]

theorem wide_step {w w' w'' : World} {r : Nat} {s : ByteArray} {t' : Nat} {o : Obj} (h0 : Touch (fun _ => False) w w') (h : RStep (w'.alloc o) w'' r s t') : RStep w w'' r s t' :=
  ⟨h.rd, ((h0.mono (S' := fun k => k = r) (fun _ _ e => e.elim)).alloc o).trans h.touch (fun _ _ e => e)⟩

theorem rd_under {w w' : World} {r : Nat} {s : ByteArray} {t : Nat} {o : Obj} (hr : Rd w r s t) (h0 : Touch (fun _ => False) w w') : Rd (w'.alloc o) r s t := by
  unfold Rd
  rw [Below.heap_alloc _ _ _ (Nat.lt_of_lt_of_le hr.lt h0.size), h0.block r hr.lt id]
  exact hr

theorem cell_alloc3 (w : World) (x y z : Value) (t : TypeId) : (w.alloc (.cells #[x, y, z] t)).heap[w.heap.size]? = some (.cells #[x, y, z] t) := by
  show (w.heap.push _)[_]? = _
  simp

set_option maxRecDepth 100000 in
set_option maxHeartbeats 4000000 in
theorem next_any (b r sz t : Nat) (cv : Value) (C : Tb.Cells) (laid : Nat → Prop) (f path : Nat → Nat) (E : Nat → Nat → Prop) (R : Nat → Nat → Nat) (s : ByteArray) (w : World) (hT : Tab w b cv C sz) (hR : Rd w r s t) (hsz : 0 < sz) (hszb : sz ≤ 100000)
    (hv : Tb.Inv C sz laid f path E R) (hsy : Tb.Sym laid f path) (hdeep : ∀ d q, E d q → d ≤ 2) (hs : s.size ≤ 140737488355328) (ht : t ≤ 8 * s.size) :
    Calls Try.prog 14 #[.pointer (some ⟨b, 0, none⟩), .pointer (some ⟨r, 0, none⟩)] w fun e w' => Answer laid f path (Bt.rval s t (min 15 (8 * s.size - t))) s t r w e w' := by
  obtain ⟨g, cap, hb, hbg, hcell, hfr⟩ := hT.cells hsz
  have h1 := cell_two1 hb
  have hblt := hT.lt
  have hglt : g < w.heap.size := World.block_lt_of_cell? w _ (hcell 0 hsz).1
  have hl0 : ((sz : Int) == 0) = false := by simp; omega
  have hp := peek_yes r s t 15 w hR hs ht (by decide)
  have pb := Bt.rval_lt s t (min 15 (8 * s.size - t))
  generalize hm : min 15 (8 * s.size - t) = m at *
  generalize hP : Bt.rval s t m = p at *
  have PB : Hid (p ≤ 32768) := by
    have : 2 ^ m ≤ 2 ^ 15 := Nat.pow_le_pow_right (by decide) (by omega)
    show p ≤ 32768
    omega
  have HP := hid hp
  have V := hid hv
  have SY := hid hsy
  have DP := hid hdeep
  have HC := hid hcell
  have RD := hid hR
  have H1 := hid h1
  clear hT hcell hfr hR hb hv hsy hdeep hp hm hP pb
  go_enter Try.func14, Try.ntmps14
  go_wp2
  refine wp_scope_jumps 0 (fun a' w' => ∃ (d : Nat) (u9 u29 u30 u31 u32 u33 u34 u35 u36 u37 u38 u39 u40 u41 u42 u43 u44 u45 : Value), a' = { tmps := #[.pointer (some ⟨b, 0, none⟩), .pointer (some ⟨r, 0, none⟩), undef, undef, .int .i64 0, .int .i64 0, .int .i64 (p / 2 ^ (5 * d) : Nat), .int .i64 (m : Nat), .int .i64 (R d (p % 2 ^ (5 * d)) : Nat), u9, undef, undef, .pointer (some ⟨b, 0, none⟩), .bool false, .bool false, .pointer (some ⟨r, 0, none⟩), .bool false, .bool false, .pointer (some ⟨b, 0, none⟩), .pointer (some ⟨b, 0, none⟩), .pointer (some ⟨b, 1, none⟩), .slice (some ⟨g, 0, none⟩) sz cap, .int .i64 (sz : Nat), .bool false, .tuple #[.int .i64 (p : Nat), .int .i64 (m : Nat)], .pointer (some ⟨r, 0, none⟩), .tuple #[.int .i64 (p : Nat), .int .i64 (m : Nat)], .int .i64 (p : Nat), .int .i64 (m : Nat), u29, u30, u31, u32, u33, u34, u35, u36, u37, u38, u39, u40, u41, u42, u43, u44, u45, undef, undef, undef, undef, undef, undef, undef, undef, undef, undef, undef, undef, undef, undef, undef], defers := [] } ∧ Touch (fun _ => False) w w' ∧ w'.heap.size = w.heap.size + d ∧ E d (p % 2 ^ (5 * d)) ∧ (∀ i, laid i → f i ≤ 5 * d → p % 2 ^ f i ≠ path i)) (fun _ w' => w.heap.size + 4 - w'.heap.size) (by rfl) ?_ ?_
  · go_wp2_with fail
    refine Calls.mono HP.out ?_
    rintro e w1 ⟨rfl, hst⟩
    have T := hid (hst.touch (fun _ => False))
    have HSZ := hid (show w1.heap.size = w.heap.size from hst.size)
    clear hst h1
    have hrow := V.out.row 0 0 V.out.root.1
    have hst := V.out.step p 0 (by rw [Nat.mul_zero, Nat.pow_zero, Nat.mod_one]; exact V.out.root.1) (fun i hi hle => by have := (SY.out.len i hi).1; omega)
    simp only [Nat.mul_zero, Nat.pow_zero, Nat.mod_one, Nat.div_one, V.out.root.2, Nat.zero_add] at hst hrow
    have hpm := Nat.mod_lt p (show 32 > 0 by decide)
    have hix : p % 32 < sz := by obtain ⟨q, h1, h2⟩ := hrow; omega
    have hixi : (p : Int) % 32 < (sz : Int) := by omega
    have hpab : p ≤ 32768 := PB.out
    obtain ⟨e0, e1, e2⟩ := HC.out (p % 32) hix
    rw [← T.out.cell (p := ⟨g, _, none⟩) hglt id] at e0 e1 e2
    have k1 : w1.cell? ⟨b, 1, none⟩ = some (.slice (some ⟨g, 0, none⟩) sz cap) := by rw [T.out.cell (p := ⟨b, 1, none⟩) hblt id]; exact H1.out
    have HST := hid hst
    clear hst hrow
    rcases HST.out with ⟨i, g1, g2, g3, g4, g5⟩ | ⟨g1, g2, g3, g4⟩ | ⟨g1, g2, g3⟩
    · rw [g3] at e0
      rw [g4] at e1
      rw [g5] at e2
      have hlen := SY.out.len i g1
      have G1 := hid g1
      have G2 := hid g2
      clear HST g3 g4 g5 g1 g2
      have RD2 := hid (rd_under (o := .cells #[.int .i64 (i : Nat), .int .i64 (f i : Nat), .int .i64 0] 69) RD.out T.out)
      have hl0 : ((f i : Int) == 0) = false := by simp; omega
      go_wp2_with fail
      go_step3
      go_wp2_with fail
      by_cases hfit : t + f i ≤ 8 * s.size
      · refine (take_yes r s t (f i) _ RD2.out hs (by omega) hfit).mono ?_
        rintro e w3 ⟨rfl, hk⟩
        have hblk : w3.heap[w1.heap.size]? = some (.cells #[.int .i64 (i : Nat), .int .i64 (f i : Nat), .int .i64 0] 69) := by rw [hk.touch.block _ (by simp) (by have := RD.out.lt; have := T.out.size; omega)]; exact cell_alloc3 _ _ _ _ _
        have m0 : w3.cell? ⟨w1.heap.size, 0, none⟩ = some (.int .i64 (i : Nat)) := by simp [World.cell?, hblk]
        have K3 := hid (wide_step T.out hk)
        clear hk hblk
        go_wp2
        try simp only [Exit.jump]
        go_ret2
        exact .inl ⟨i, G1.out, G2.out, hfit, rfl, K3.out⟩
      · refine (take_end r s t (f i) _ RD2.out hs (by omega) ht (by omega)).mono ?_
        rintro e w3 ⟨rfl, hk⟩
        have K3 := hid (wide_step T.out (hk.rstep RD2.out))
        clear hk
        go_wp2
        try simp only [Exit.jump]
        go_ret2
        exact .inr (.inl ⟨i, G1.out, G2.out, by omega, rfl, K3.out⟩)
    · rw [g2] at e2
      obtain ⟨nr, hnr⟩ : ∃ nr, R (0 + 1) (p % 2 ^ (5 * (0 + 1))) = nr := ⟨_, rfl⟩
      rw [hnr] at e2 g3
      have hpos : (0 : Int) < (nr : Int) := by omega
      have HNR := hid hnr
      have G1 := hid g1
      have G4 := hid g4
      clear HST g2 hnr g1 g4
      generalize C.S (p % 32) = x0 at *
      generalize C.L (p % 32) = x1 at *
      go_wp2_with fail
      go_step3
      go_wp2
      go_step3
      rw [show (p : Int) / 32 = ((p / 2 ^ (5 * (0 + 1)) : Nat) : Int) by simp, ← HNR.out]
      refine ⟨rfl, 0 + 1, _, _, _, _, _, _, _, _, _, _, _, _, _, _, _, _, _, _, rfl, T.out.alloc _, by simp [HSZ.out], G1.out, G4.out⟩
    · rw [g2] at e1
      rw [g3] at e2
      have G1 := hid g1
      clear HST g2 g3 g1
      generalize C.S (p % 32) = x0 at *
      go_wp2_with fail
      go_step3
      go_wp2
      try simp only [Exit.jump]
      go_ret2
      exact .inr (.inr ⟨G1.out, rfl, wide_step (o := .cells #[.int .i64 (x0 : Nat), .int .i64 0, .int .i64 0] 69) T.out (RStep.refl (rd_under RD.out T.out))⟩)
  · rintro a' W ⟨d, u9, u29, u30, u31, u32, u33, u34, u35, u36, u37, u38, u39, u40, u41, u42, u43, u44, u45, rfl, hT, hsize, hE, hno⟩
    have T := hid hT
    have HE := hid hE
    have HNO := hid hno
    have HSZ := hid hsize
    clear hT hE hno h1 hsize
    have hrow := V.out.row d _ HE.out
    have hst := V.out.step p d HE.out HNO.out
    obtain ⟨row, hrw⟩ : ∃ row, R d (p % 2 ^ (5 * d)) = row := ⟨_, rfl⟩
    obtain ⟨pa, hpa⟩ : ∃ pa, p / 2 ^ (5 * d) = pa := ⟨_, rfl⟩
    rw [hrw, hpa] at hst
    rw [hrw] at hrow
    rw [hrw, hpa]
    have HRW := hid hrw
    have HPA := hid hpa
    have hpm := Nat.mod_lt pa (show 32 > 0 by decide)
    have hix : row + pa % 32 < sz := by obtain ⟨q, h1, h2⟩ := hrow; omega
    have hixi : (row : Int) + (pa : Int) % 32 < (sz : Int) := by omega
    have hrb : row ≤ 1000000 := by omega
    have hpab : pa ≤ 32768 := by rw [← hpa]; exact Nat.le_trans (Nat.div_le_self _ _) PB.out
    clear hrw hpa
    obtain ⟨e0, e1, e2⟩ := HC.out (row + pa % 32) hix
    rw [← T.out.cell (p := ⟨g, _, none⟩) hglt id] at e0 e1 e2
    have k1 : W.cell? ⟨b, 1, none⟩ = some (.slice (some ⟨g, 0, none⟩) sz cap) := by rw [T.out.cell (p := ⟨b, 1, none⟩) hblt id]; exact H1.out
    have HST := hid hst
    clear hst hrow
    rcases HST.out with ⟨i, g1, g2, g3, g4, g5⟩ | ⟨g1, g2, g3, g4⟩ | ⟨g1, g2, g3⟩
    · rw [g3] at e0
      rw [g4] at e1
      rw [g5] at e2
      have hlen := SY.out.len i g1
      have G1 := hid g1
      have G2 := hid g2
      clear HST g3 g4 g5 g1 g2
      have RD2 := hid (rd_under (o := .cells #[.int .i64 (i : Nat), .int .i64 (f i : Nat), .int .i64 0] 69) RD.out T.out)
      have hl0 : ((f i : Int) == 0) = false := by simp; omega
      go_wp2_with fail
      by_cases hfit : t + f i ≤ 8 * s.size
      · refine (take_yes r s t (f i) _ RD2.out hs (by omega) hfit).mono ?_
        rintro e w3 ⟨rfl, hk⟩
        have hblk : w3.heap[W.heap.size]? = some (.cells #[.int .i64 (i : Nat), .int .i64 (f i : Nat), .int .i64 0] 69) := by rw [hk.touch.block _ (by simp) (by have := RD.out.lt; have := T.out.size; omega)]; exact cell_alloc3 _ _ _ _ _
        have m0 : w3.cell? ⟨W.heap.size, 0, none⟩ = some (.int .i64 (i : Nat)) := by simp [World.cell?, hblk]
        have K3 := hid (wide_step T.out hk)
        clear hk hblk
        go_wp2
        try simp only [Exit.jump]
        go_ret2
        exact .inl ⟨i, G1.out, G2.out, hfit, rfl, K3.out⟩
      · refine (take_end r s t (f i) _ RD2.out hs (by omega) ht (by omega)).mono ?_
        rintro e w3 ⟨rfl, hk⟩
        have K3 := hid (wide_step T.out (hk.rstep RD2.out))
        clear hk
        go_wp2
        try simp only [Exit.jump]
        go_ret2
        exact .inr (.inl ⟨i, G1.out, G2.out, by omega, rfl, K3.out⟩)
    · rw [g2] at e2
      obtain ⟨nr, hnr⟩ : ∃ nr, R (d + 1) (p % 2 ^ (5 * (d + 1))) = nr := ⟨_, rfl⟩
      rw [hnr] at e2 g3
      have hpos : (0 : Int) < (nr : Int) := by omega
      have HNR := hid hnr
      have G1 := hid g1
      have G4 := hid g4
      clear HST g2 hnr g1 g4
      generalize C.S (row + pa % 32) = x0 at *
      generalize C.L (row + pa % 32) = x1 at *
      go_wp2
      go_step3
      rw [show (pa : Int) / 32 = ((p / 2 ^ (5 * (d + 1)) : Nat) : Int) by rw [← shift5, HPA.out]; simp, ← HNR.out]
      refine ⟨rfl, ⟨d + 1, _, _, _, _, _, _, _, _, _, _, _, _, _, _, _, _, _, _, rfl, T.out.alloc _, by simp [HSZ.out]; omega, G1.out, G4.out⟩, ?_⟩
      have hd := DP.out _ _ G1.out
      simp [HSZ.out]
      omega
    · rw [g2] at e1
      rw [g3] at e2
      have G1 := hid g1
      clear HST g2 g3 g1
      generalize C.S (row + pa % 32) = x0 at *
      go_wp2
      try simp only [Exit.jump]
      go_ret2
      exact .inr (.inr ⟨G1.out, rfl, wide_step (o := .cells #[.int .i64 (x0 : Nat), .int .i64 0, .int .i64 0] 69) T.out (RStep.refl (rd_under RD.out T.out))⟩)
end Go.Proofs.Ytokelpnmeknncab
