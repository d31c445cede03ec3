/- Texts of this proof, one behind the other: what each says stands ahead of it. -/
import Derived.Test.YtffjkceedbblgaaGreatDoorM3
import Derived.WalkMore
import Derived.ScopeJumps
import Derived.Test.YtffjkceedbblgaaGreatDoorM1
/- Next of a table: the symbol whose bits come next, or none; conditions: the table is laid as it should be, at most three rows deep. -/
namespace Go.Proofs.YtffjkceedbblgaaGreatDoor
open Go.RowKit

theorem next_nil (r : Value) (w : World) (hr : ∃ a, r = .pointer a) :
    Calls Tryz.prog 99 #[.pointer none, r] w fun e w' => e = .returned (.tuple #[.int .i64 0, .int .i64 1]) ∧ w' = w := by
  obtain ⟨a, rfl⟩ := hr
  go_enter Tryz.func99, Tryz.ntmps99
  go_wp2
  go_step3
  go_wp2
  rw [Exit.noGoto_ret]
  go_ret2
  exact ⟨rfl, rfl⟩

theorem next_noreader (b : Nat) (w : World) :
    Calls Tryz.prog 99 #[.pointer (some ⟨b, 0, none⟩), .pointer none] w fun e w' => e = .returned (.tuple #[.int .i64 0, .int .i64 1]) ∧ w' = w := by
  go_enter Tryz.func99, Tryz.ntmps99
  go_wp2
  go_step3
  go_wp2
  rw [Exit.noGoto_ret]
  go_ret2
  exact ⟨rfl, rfl⟩

/-- What Next answers, of bits p ahead (15, or as many as there are). -/
def Answer (laid : Nat → Prop) (f path : Nat → Nat) (p : Nat) (s : ByteArray) (t r : Nat) (w : World) (e : Ending) (w' : World) : Prop :=
  (∃ i, laid i ∧ p % 2 ^ f i = path i ∧ t + f i ≤ 8 * s.size ∧ e = .returned (.tuple #[.int .i64 (i : Nat), .int .i64 0]) ∧ RStep w w' r s (t + f i)) ∨
  (∃ i, laid i ∧ p % 2 ^ f i = path i ∧ 8 * s.size < t + f i ∧ e = .returned (.tuple #[.int .i64 0, .int .i64 3]) ∧ RStep w w' r s t) ∨
  ((∀ i, laid i → p % 2 ^ f i ≠ path i) ∧ e = .returned (.tuple #[.int .i64 0, .int .i64 5]) ∧ RStep w w' r s t)

theorem shift5 (p d : Nat) : p / 2 ^ (5 * d) / 32 = p / 2 ^ (5 * (d + 1)) := by
  rw [Nat.div_div_eq_div_mul, show 5 * (d + 1) = 5 * d + 5 by omega, Nat.pow_add]

theorem wide_step {w w' w'' : World} {r : Nat} {s : ByteArray} {t' : Nat} {o : Obj} (h0 : Touch (fun _ => False) w w') (h : RStep (w'.alloc o) w'' r s t') : RStep w w'' r s t' :=
  ⟨h.rd, ((h0.mono (S' := fun k => k = r) (fun _ _ e => e.elim)).alloc o).trans h.touch (fun _ _ e => e)⟩

theorem rd_under {w w' : World} {r : Nat} {s : ByteArray} {t : Nat} {o : Obj} (hr : Rd w r s t) (h0 : Touch (fun _ => False) w w') : Rd (w'.alloc o) r s t := by
  unfold Rd
  rw [Below.heap_alloc _ _ _ (Nat.lt_of_lt_of_le hr.lt h0.size), h0.block r hr.lt id]
  exact hr

theorem cell_alloc3 (w : World) (x y z : Value) (t : TypeId) : (w.alloc (.cells #[x, y, z] t)).heap[w.heap.size]? = some (.cells #[x, y, z] t) := by
  show (w.heap.push _)[_]? = _
  simp

set_option maxRecDepth 100000 in
set_option maxHeartbeats 4000000 in
theorem next_any (b r sz t : Nat) (cv : Value) (C : Tb.Cells) (laid : Nat → Prop) (f path : Nat → Nat) (E : Nat → Nat → Prop) (R : Nat → Nat → Nat) (s : ByteArray) (w : World) (hT : Tab w b cv C sz) (hR : Rd w r s t) (hsz : 0 < sz) (hszb : sz ≤ 100000)
    (hv : Tb.Inv C sz laid f path E R) (hsy : Tb.Sym laid f path) (hdeep : ∀ d q, E d q → d ≤ 2) (hs : s.size ≤ 140737488355328) (ht : t ≤ 8 * s.size) :
    Calls Tryz.prog 99 #[.pointer (some ⟨b, 0, none⟩), .pointer (some ⟨r, 0, none⟩)] w fun e w' => Answer laid f path (Bt.rval s t (min 15 (8 * s.size - t))) s t r w e w' := by
  obtain ⟨g, cap, hb, hbg, hcell, hfr⟩ := hT.cells hsz
  have h1 := cell_two1 hb
  have hblt := hT.lt
  have hglt : g < w.heap.size := World.block_lt_of_cell? w _ (hcell 0 hsz).1
  have hl0 : ((sz : Int) == 0) = false := by simp; omega
  have hp := peek_yes r s t 15 w hR hs ht (by decide)
  have pb := Bt.rval_lt s t (min 15 (8 * s.size - t))
  generalize hm : min 15 (8 * s.size - t) = m at *
  generalize hP : Bt.rval s t m = p at *
  have PB : Hid (p ≤ 32768) := by
    have : 2 ^ m ≤ 2 ^ 15 := Nat.pow_le_pow_right (by decide) (by omega)
    show p ≤ 32768
    omega
  have HP := hid hp
  have V := hid hv
  have SY := hid hsy
  have DP := hid hdeep
  have HC := hid hcell
  have RD := hid hR
  have H1 := hid h1
  clear hT hcell hfr hR hb hv hsy hdeep hp hm hP pb
  go_enter Tryz.func99, Tryz.ntmps99
  go_wp2
  refine wp_scope_jumps 0 (fun a' w' => ∃ (d : Nat) (u9 u29 u30 u31 u32 u33 u34 u35 u36 u37 u38 u39 u40 u41 u42 u43 u44 u45 : Value), a' = { tmps := #[.pointer (some ⟨b, 0, none⟩), .pointer (some ⟨r, 0, none⟩), undef, undef, .int .i64 0, .int .i64 0, .int .i64 (p / 2 ^ (5 * d) : Nat), .int .i64 (m : Nat), .int .i64 (R d (p % 2 ^ (5 * d)) : Nat), u9, undef, undef, .pointer (some ⟨b, 0, none⟩), .bool false, .bool false, .pointer (some ⟨r, 0, none⟩), .bool false, .bool false, .pointer (some ⟨b, 0, none⟩), .pointer (some ⟨b, 0, none⟩), .pointer (some ⟨b, 1, none⟩), .slice (some ⟨g, 0, none⟩) sz cap, .int .i64 (sz : Nat), .bool false, .tuple #[.int .i64 (p : Nat), .int .i64 (m : Nat)], .pointer (some ⟨r, 0, none⟩), .tuple #[.int .i64 (p : Nat), .int .i64 (m : Nat)], .int .i64 (p : Nat), .int .i64 (m : Nat), u29, u30, u31, u32, u33, u34, u35, u36, u37, u38, u39, u40, u41, u42, u43, u44, u45, undef, undef, undef, undef, undef, undef, undef, undef, undef, undef, undef, undef, undef, undef, undef], defers := [] } ∧ Touch (fun _ => False) w w' ∧ w'.heap.size = w.heap.size + d ∧ E d (p % 2 ^ (5 * d)) ∧ (∀ i, laid i → f i ≤ 5 * d → p % 2 ^ f i ≠ path i)) (fun _ w' => w.heap.size + 4 - w'.heap.size) (by rfl) ?_ ?_
  · go_wp2_with fail
    refine Calls.mono HP.out ?_
    rintro e w1 ⟨rfl, hst⟩
    have T := hid (hst.touch (fun _ => False))
    have HSZ := hid (show w1.heap.size = w.heap.size from hst.size)
    clear hst h1
    have hrow := V.out.row 0 0 V.out.root.1
    have hst := V.out.step p 0 (by rw [Nat.mul_zero, Nat.pow_zero, Nat.mod_one]; exact V.out.root.1) (fun i hi hle => by have := (SY.out.len i hi).1; omega)
    simp only [Nat.mul_zero, Nat.pow_zero, Nat.mod_one, Nat.div_one, V.out.root.2, Nat.zero_add] at hst hrow
    have hpm := Nat.mod_lt p (show 32 > 0 by decide)
    have hix : p % 32 < sz := by obtain ⟨q, h1, h2⟩ := hrow; omega
    have hixi : (p : Int) % 32 < (sz : Int) := by omega
    have hpab : p ≤ 32768 := PB.out
    obtain ⟨e0, e1, e2⟩ := HC.out (p % 32) hix
    rw [← T.out.cell (p := ⟨g, _, none⟩) hglt id] at e0 e1 e2
    have k1 : w1.cell? ⟨b, 1, none⟩ = some (.slice (some ⟨g, 0, none⟩) sz cap) := by rw [T.out.cell (p := ⟨b, 1, none⟩) hblt id]; exact H1.out
    have HST := hid hst
    clear hst hrow
    rcases HST.out with ⟨i, g1, g2, g3, g4, g5⟩ | ⟨g1, g2, g3, g4⟩ | ⟨g1, g2, g3⟩
    · rw [g3] at e0
      rw [g4] at e1
      rw [g5] at e2
      have hlen := SY.out.len i g1
      have G1 := hid g1
      have G2 := hid g2
      clear HST g3 g4 g5 g1 g2
      have RD2 := hid (rd_under (o := .cells #[.int .i64 (i : Nat), .int .i64 (f i : Nat), .int .i64 0] 167) RD.out T.out)
      have hl0 : ((f i : Int) == 0) = false := by simp; omega
      go_wp2_with fail
      go_step3
      go_wp2_with fail
      by_cases hfit : t + f i ≤ 8 * s.size
      · refine (take_yes r s t (f i) _ RD2.out hs (by omega) hfit).mono ?_
        rintro e w3 ⟨rfl, hk⟩
        have hblk : w3.heap[w1.heap.size]? = some (.cells #[.int .i64 (i : Nat), .int .i64 (f i : Nat), .int .i64 0] 167) := by rw [hk.touch.block _ (by simp) (by have := RD.out.lt; have := T.out.size; omega)]; exact cell_alloc3 _ _ _ _ _
        have m0 : w3.cell? ⟨w1.heap.size, 0, none⟩ = some (.int .i64 (i : Nat)) := by simp [World.cell?, hblk]
        have K3 := hid (wide_step T.out hk)
        clear hk hblk
        go_wp2
        try simp only [Exit.jump]
        go_ret2
        exact .inl ⟨i, G1.out, G2.out, hfit, rfl, K3.out⟩
      · refine (take_end r s t (f i) _ RD2.out hs (by omega) ht (by omega)).mono ?_
        rintro e w3 ⟨rfl, hk⟩
        have K3 := hid (wide_step T.out (hk.rstep RD2.out))
        clear hk
        go_wp2
        try simp only [Exit.jump]
        go_ret2
        exact .inr (.inl ⟨i, G1.out, G2.out, by omega, rfl, K3.out⟩)
    · rw [g2] at e2
      obtain ⟨nr, hnr⟩ : ∃ nr, R (0 + 1) (p % 2 ^ (5 * (0 + 1))) = nr := ⟨_, rfl⟩
      rw [hnr] at e2 g3
      have hpos : (0 : Int) < (nr : Int) := by omega
      have HNR := hid hnr
      have G1 := hid g1
      have G4 := hid g4
      clear HST g2 hnr g1 g4
      generalize C.S (p % 32) = x0 at *
      generalize C.L (p % 32) = x1 at *
      go_wp2_with fail
      go_step3
      go_wp2
      go_step3
      rw [show (p : Int) / 32 = ((p / 2 ^ (5 * (0 + 1)) : Nat) : Int) by simp, ← HNR.out]
      refine ⟨rfl, 0 + 1, _, _, _, _, _, _, _, _, _, _, _, _, _, _, _, _, _, _, rfl, T.out.alloc _, by simp [HSZ.out], G1.out, G4.out⟩
    · rw [g2] at e1
      rw [g3] at e2
      have G1 := hid g1
      clear HST g2 g3 g1
      generalize C.S (p % 32) = x0 at *
      go_wp2_with fail
      go_step3
      go_wp2
      try simp only [Exit.jump]
      go_ret2
      exact .inr (.inr ⟨G1.out, rfl, wide_step (o := .cells #[.int .i64 (x0 : Nat), .int .i64 0, .int .i64 0] 167) T.out (RStep.refl (rd_under RD.out T.out))⟩)
  · rintro a' W ⟨d, u9, u29, u30, u31, u32, u33, u34, u35, u36, u37, u38, u39, u40, u41, u42, u43, u44, u45, rfl, hT, hsize, hE, hno⟩
    have T := hid hT
    have HE := hid hE
    have HNO := hid hno
    have HSZ := hid hsize
    clear hT hE hno h1 hsize
    have hrow := V.out.row d _ HE.out
    have hst := V.out.step p d HE.out HNO.out
    obtain ⟨row, hrw⟩ : ∃ row, R d (p % 2 ^ (5 * d)) = row := ⟨_, rfl⟩
    obtain ⟨pa, hpa⟩ : ∃ pa, p / 2 ^ (5 * d) = pa := ⟨_, rfl⟩
    rw [hrw, hpa] at hst
    rw [hrw] at hrow
    rw [hrw, hpa]
    have HRW := hid hrw
    have HPA := hid hpa
    have hpm := Nat.mod_lt pa (show 32 > 0 by decide)
    have hix : row + pa % 32 < sz := by obtain ⟨q, h1, h2⟩ := hrow; omega
    have hixi : (row : Int) + (pa : Int) % 32 < (sz : Int) := by omega
    have hrb : row ≤ 1000000 := by omega
    have hpab : pa ≤ 32768 := by rw [← hpa]; exact Nat.le_trans (Nat.div_le_self _ _) PB.out
    clear hrw hpa
    obtain ⟨e0, e1, e2⟩ := HC.out (row + pa % 32) hix
    rw [← T.out.cell (p := ⟨g, _, none⟩) hglt id] at e0 e1 e2
    have k1 : W.cell? ⟨b, 1, none⟩ = some (.slice (some ⟨g, 0, none⟩) sz cap) := by rw [T.out.cell (p := ⟨b, 1, none⟩) hblt id]; exact H1.out
    have HST := hid hst
    clear hst hrow
    rcases HST.out with ⟨i, g1, g2, g3, g4, g5⟩ | ⟨g1, g2, g3, g4⟩ | ⟨g1, g2, g3⟩
    · rw [g3] at e0
      rw [g4] at e1
      rw [g5] at e2
      have hlen := SY.out.len i g1
      have G1 := hid g1
      have G2 := hid g2
      clear HST g3 g4 g5 g1 g2
      have RD2 := hid (rd_under (o := .cells #[.int .i64 (i : Nat), .int .i64 (f i : Nat), .int .i64 0] 167) RD.out T.out)
      have hl0 : ((f i : Int) == 0) = false := by simp; omega
      go_wp2_with fail
      by_cases hfit : t + f i ≤ 8 * s.size
      · refine (take_yes r s t (f i) _ RD2.out hs (by omega) hfit).mono ?_
        rintro e w3 ⟨rfl, hk⟩
        have hblk : w3.heap[W.heap.size]? = some (.cells #[.int .i64 (i : Nat), .int .i64 (f i : Nat), .int .i64 0] 167) := by rw [hk.touch.block _ (by simp) (by have := RD.out.lt; have := T.out.size; omega)]; exact cell_alloc3 _ _ _ _ _
        have m0 : w3.cell? ⟨W.heap.size, 0, none⟩ = some (.int .i64 (i : Nat)) := by simp [World.cell?, hblk]
        have K3 := hid (wide_step T.out hk)
        clear hk hblk
        go_wp2
        try simp only [Exit.jump]
        go_ret2
        exact .inl ⟨i, G1.out, G2.out, hfit, rfl, K3.out⟩
      · refine (take_end r s t (f i) _ RD2.out hs (by omega) ht (by omega)).mono ?_
        rintro e w3 ⟨rfl, hk⟩
        have K3 := hid (wide_step T.out (hk.rstep RD2.out))
        clear hk
        go_wp2
        try simp only [Exit.jump]
        go_ret2
        exact .inr (.inl ⟨i, G1.out, G2.out, by omega, rfl, K3.out⟩)
    · rw [g2] at e2
      obtain ⟨nr, hnr⟩ : ∃ nr, R (d + 1) (p % 2 ^ (5 * (d + 1))) = nr := ⟨_, rfl⟩
      rw [hnr] at e2 g3
      have hpos : (0 : Int) < (nr : Int) := by omega
      have HNR := hid hnr
      have G1 := hid g1
      have G4 := hid g4
      clear HST g2 hnr g1 g4
      generalize C.S (row + pa % 32) = x0 at *
      generalize C.L (row + pa % 32) = x1 at *
      go_wp2
      go_step3
      rw [show (pa : Int) / 32 = ((p / 2 ^ (5 * (d + 1)) : Nat) : Int) by rw [← shift5, HPA.out]; simp, ← HNR.out]
      refine ⟨rfl, ⟨d + 1, _, _, _, _, _, _, _, _, _, _, _, _, _, _, _, _, _, _, rfl, T.out.alloc _, by simp [HSZ.out]; omega, G1.out, G4.out⟩, ?_⟩
      have hd := DP.out _ _ G1.out
      simp [HSZ.out]
      omega
    · rw [g2] at e1
      rw [g3] at e2
      have G1 := hid g1
      clear HST g2 g3 g1
      generalize C.S (row + pa % 32) = x0 at *
      go_wp2
      try simp only [Exit.jump]
      go_ret2
      exact .inr (.inr ⟨G1.out, rfl, wide_step (o := .cells #[.int .i64 (x0 : Nat), .int .i64 0, .int .i64 0] 167) T.out (RStep.refl (rd_under RD.out T.out))⟩)
end Go.Proofs.YtffjkceedbblgaaGreatDoor

/- turned: a code with its highest bit the lowest. -/
namespace Go.Proofs.YtffjkceedbblgaaGreatDoor
open Go.RowKit

/-- The k lowest bits of x, the other way round. -/
def rev (x : Nat) : Nat → Nat
  | 0 => 0
  | k + 1 => 2 * rev x k + x / 2 ^ k % 2

theorem rev_lt (x : Nat) : ∀ k, rev x k < 2 ^ k
  | 0 => by simp [rev]
  | k + 1 => by have := rev_lt x k; rw [rev, Nat.pow_succ]; omega

theorem turn_step (x k : Nat) (hk : k < 15) : bits .or .i64 ((rev x k : Int) * 2) (bits .and .i64 ((x : Int) / 2 ^ k) 1) = ((rev x (k + 1) : Nat) : Int) := by
  have h := rev_lt x k
  have hp : 2 ^ k ≤ 2 ^ 15 := Nat.pow_le_pow_right (by decide) (by omega)
  have e1 : bits .and .i64 ((x : Int) / 2 ^ k) 1 = ((x / 2 ^ k % 2 : Nat) : Int) := by rw [i64_and1]; simp
  have e2 : (rev x k : Int) * 2 = ((rev x k * 2 : Nat) : Int) := by simp
  have hm := Nat.mod_lt (x / 2 ^ k) (show 2 > 0 by decide)
  rw [e1, e2, i64_or_nat _ _ (by omega) (by omega), nat_join 1 _ _ (by omega) (by omega), rev, Nat.mul_comm]

set_option maxHeartbeats 400000 in
theorem turned_any (x n : Nat) (w : World) (hn : n ≤ 15) :
    Calls Tryz.prog 87 #[.int .i64 x, .int .i64 n] w fun e w' => e = .returned (.int .i64 (rev x n : Nat)) ∧ w' = w := by
  go_enter Tryz.func87, Tryz.ntmps87
  go_wp2_with fail
  go_loop [5, 8] (fun b i => ∃ k : Nat, k ≤ n ∧ i = .int .i64 k ∧ b = .int .i64 (rev x k : Nat)) (fun _ i => n - (intOf i).toNat)
  case atStart => exact ⟨0, Nat.zero_le _, rfl, rfl⟩
  case round =>
    obtain ⟨k, hk, rfl, rfl⟩ := hrel
    by_cases hlt : k < n
    · have hst := turn_step x k (by omega)
      have hr := rev_lt x k
      have hp : 2 ^ k ≤ 2 ^ 15 := Nat.pow_le_pow_right (by decide) (by omega)
      have hrb : rev x k ≤ 32768 := by omega
      clear hr hp
      go_wp2
      go_round
      case rel => exact ⟨k + 1, by omega, by go_num, rfl⟩
      case measure => simp [intOf]; omega
    · obtain rfl : k = n := by omega
      go_wp2
      go_ret
      exact ⟨rfl, rfl⟩
end Go.Proofs.YtffjkceedbblgaaGreatDoor

/- Plain facts on canonical codes: how many codes of each length there are, the room they take, the next code; no condition. -/
namespace Go.Proofs.YtffjkceedbblgaaGreatDoor

/-- How many codes of each length the first k lengths make. -/
def cOf (f : Nat → Nat) (k n : Nat) : Nat := if n = 0 then 0 else cntTo f n k

theorem cOf_le (f : Nat → Nat) (k n : Nat) : cOf f k n ≤ k := by
  unfold cOf
  split
  · omega
  · exact cntTo_le f n k

/-- The room of the first k lengths; how many of them have a code. -/
def rm (f : Nat → Nat) : Nat → Nat
  | 0 => 0
  | k + 1 => rm f k + (if f k = 0 then 0 else 2 ^ (15 - f k))
def usedTo (f : Nat → Nat) : Nat → Nat
  | 0 => 0
  | k + 1 => usedTo f k + (if f k = 0 then 0 else 1)

theorem roomTo_add (c : Nat → Nat) (m : Nat) : ∀ K, roomTo (fun n => c n + (if n = m then 1 else 0)) K = roomTo c K + (if m < K then 2 ^ (15 - m) else 0)
  | 0 => by simp [roomTo]
  | K + 1 => by
    simp only [roomTo, roomTo_add c m K]
    by_cases e : K = m
    · subst e
      simp [Nat.add_mul]
      omega
    · rw [if_neg e, Nat.add_zero]
      by_cases e2 : m < K
      · rw [if_pos e2, if_pos (by omega)]; omega
      · rw [if_neg e2, if_neg (by omega)]; omega
theorem sumTo_add (c : Nat → Nat) (m : Nat) : ∀ K, sumTo (fun n => c n + (if n = m then 1 else 0)) K = sumTo c K + (if m < K then 1 else 0)
  | 0 => by simp [sumTo]
  | K + 1 => by
    simp only [sumTo, sumTo_add c m K]
    by_cases e : K = m
    · subst e
      simp
      omega
    · rw [if_neg e]
      by_cases e2 : m < K
      · rw [if_pos e2, if_pos (by omega)]; omega
      · rw [if_neg e2, if_neg (by omega)]; omega

theorem cOf_succ (f : Nat → Nat) (k : Nat) (h : f k ≠ 0) : cOf f (k + 1) = fun n => cOf f k n + (if n = f k then 1 else 0) := by
  funext n
  unfold cOf
  by_cases e : n = 0
  · subst e
    rw [if_pos rfl, if_pos rfl, if_neg (fun h' => h h'.symm)]
  · rw [if_neg e, if_neg e, cntTo]
    by_cases e2 : f k = n
    · rw [if_pos e2, if_pos e2.symm]
    · rw [if_neg e2, if_neg (fun h' => e2 h'.symm)]
theorem cOf_skip (f : Nat → Nat) (k : Nat) (h : f k = 0) : cOf f (k + 1) = cOf f k := by
  funext n
  unfold cOf
  by_cases e : n = 0
  · rw [if_pos e, if_pos e]
  · rw [if_neg e, if_neg e, cntTo, if_neg (by omega), Nat.add_zero]

theorem room_eq (f : Nat → Nat) (hf : ∀ i, f i ≤ 15) : ∀ k, roomTo (cOf f k) 16 = rm f k ∧ sumTo (cOf f k) 16 = usedTo f k
  | 0 => by
    have : cOf f 0 = fun _ => 0 := by funext n; unfold cOf cntTo; split <;> rfl
    rw [this]
    exact ⟨rfl, rfl⟩
  | k + 1 => by
    obtain ⟨h1, h2⟩ := room_eq f hf k
    simp only [rm, usedTo]
    by_cases e : f k = 0
    · rw [cOf_skip f k e, if_pos e, if_pos e]
      exact ⟨h1, h2⟩
    · rw [cOf_succ f k e, roomTo_add, sumTo_add, if_neg e, if_neg e, h1, h2]
      have := hf k
      rw [if_pos (by omega), if_pos (by omega)]
      exact ⟨rfl, rfl⟩

theorem rm_le' (f : Nat → Nat) (P : Nat) (hP : ∀ m, 2 ^ (15 - m) ≤ P) : ∀ k, rm f k ≤ k * P
  | 0 => by simp [rm]
  | k + 1 => by
    have h1 := rm_le' f P hP k
    have h2 := hP (f k)
    rw [rm, Nat.add_mul, Nat.one_mul]
    by_cases e : f k = 0
    · rw [if_pos e]; omega
    · rw [if_neg e]; omega
theorem rm_le (f : Nat → Nat) (k : Nat) : rm f k ≤ k * 32768 :=
  rm_le' f 32768 (fun m => Nat.le_trans (Nat.pow_le_pow_right (by decide) (Nat.sub_le 15 m)) (by decide)) k
theorem used_le (f : Nat → Nat) : ∀ k, usedTo f k ≤ k
  | 0 => by simp [usedTo]
  | k + 1 => by have := used_le f k; simp only [usedTo]; split <;> omega

theorem sum_zero (c : Nat → Nat) : ∀ K, sumTo c K = 0 → roomTo c K = 0 ∧ ∀ j, j < K → c j = 0
  | 0, _ => ⟨rfl, fun _ h => by omega⟩
  | K + 1, h => by
    rw [sumTo] at h
    obtain ⟨h1, h2⟩ := sum_zero c K (by omega)
    have hk : c K = 0 := by omega
    refine ⟨by rw [roomTo, h1, hk]; simp, fun j hj => ?_⟩
    by_cases e : j = K
    · rw [e]; exact hk
    · exact h2 j (by omega)

theorem sum_one (c : Nat → Nat) : ∀ K, sumTo c K = 1 → ∃ m, m < K ∧ c m = 1 ∧ roomTo c K = 2 ^ (15 - m) ∧ ∀ j, j < K → j ≠ m → c j = 0
  | 0, h => by simp [sumTo] at h
  | K + 1, h => by
    rw [sumTo] at h
    by_cases e : c K = 0
    · obtain ⟨m, hm, h1, h2, h3⟩ := sum_one c K (by omega)
      refine ⟨m, by omega, h1, by rw [roomTo, h2, e]; simp, fun j hj hne => ?_⟩
      by_cases e2 : j = K
      · rw [e2]; exact e
      · exact h3 j (by omega) hne
    · obtain ⟨h1, h2⟩ := sum_zero c K (by omega)
      have hk : c K = 1 := by omega
      exact ⟨K, by omega, hk, by rw [roomTo, h1, hk]; simp, fun j hj hne => h2 j (by omega)⟩

theorem half_room : ∀ m, m < 16 → (2 ^ (15 - m) = 16384 ↔ m = 1) := by decide

/-- One code alone takes half of the room just where it has one bit. -/
theorem one_bit (c : Nat → Nat) (h : sumTo c 16 = 1) : roomTo c 16 = 16384 ↔ c 1 = 1 := by
  obtain ⟨m, hm, h1, h2, h3⟩ := sum_one c 16 h
  rw [h2, half_room m hm]
  constructor
  · rintro rfl; exact h1
  · intro e
    by_cases e2 : 1 = m
    · exact e2.symm
    · have := h3 1 (by omega) e2; omega

/-- The same error by the room and by the number of codes. -/
def errOf (f : Nat → Nat) (len : Nat) : Nat := if 32768 < rm f len then 6 else if rm f len < 32768 ∧ 0 < usedTo f len ∧ ¬ (usedTo f len = 1 ∧ rm f len = 16384) then 7 else 0

theorem err_eq (f : Nat → Nat) (hf : ∀ i, f i ≤ 15) (len : Nat) : roomErr (cOf f len) = errOf f len := by
  obtain ⟨h1, h2⟩ := room_eq f hf len
  have h3 := one_bit (cOf f len)
  unfold roomErr errOf
  rw [h1, h2] at *
  by_cases a : 32768 < rm f len
  · rw [if_pos a, if_pos a]
  · rw [if_neg a, if_neg a]
    by_cases b : rm f len = 32768
    · rw [if_pos (.inl b), if_neg (by omega)]
    · by_cases c : usedTo f len = 0
      · rw [if_pos (.inr (.inl c)), if_neg (by omega)]
      · by_cases d : usedTo f len = 1
        · have h3 := h3 d
          by_cases e : cOf f len 1 = 1
          · rw [if_pos (.inr (.inr ⟨d, e⟩)), if_neg (fun h => h.2.2 ⟨d, h3.2 e⟩)]
          · rw [if_neg (by omega), if_pos ⟨by omega, by omega, fun h => e (h3.1 h.2)⟩]
        · rw [if_neg (by omega), if_pos ⟨by omega, by omega, fun h => d h.1⟩]

/-- The next code of length n, where the last one given is code, of length last. -/
def Nx (c f : Nat → Nat) (n s code last : Nat) : Prop :=
  last ≤ n ∧ (last = 0 → code = 0) ∧ firsts c n + cntTo f n s = (if last = 0 then 0 else (code + 1) * 2 ^ (n - last))

theorem Nx.start (c f : Nat → Nat) (h : c 0 = 0) : Nx c f 1 0 0 0 := ⟨by omega, fun _ => rfl, by simp [firsts, cntTo, h]⟩
theorem Nx.skip {c f : Nat → Nat} {n s code last : Nat} (h : Nx c f n s code last) (e : f s ≠ n) : Nx c f n (s + 1) code last := by
  obtain ⟨h1, h2, h3⟩ := h
  exact ⟨h1, h2, by rw [cntTo, if_neg e, Nat.add_zero]; exact h3⟩
theorem Nx.give {c f : Nat → Nat} {n s code last : Nat} (h : Nx c f n s code last) (e : f s = n) (hn : n ≠ 0) : codeOf c f s = (if last = 0 then 0 else (code + 1) * 2 ^ (n - last)) ∧ Nx c f n (s + 1) (codeOf c f s) n := by
  obtain ⟨h1, h2, h3⟩ := h
  have hc : codeOf c f s = firsts c n + cntTo f n s := by unfold codeOf; rw [e, if_neg hn]
  refine ⟨by rw [hc]; exact h3, Nat.le_refl _, fun h => absurd h hn, ?_⟩
  rw [cntTo, if_pos e, if_neg hn, hc, Nat.sub_self]
  omega
theorem Nx.next {f : Nat → Nat} {n len code last : Nat} (h : Nx (cOf f len) f n len code last) (hn : n ≠ 0) : Nx (cOf f len) f (n + 1) 0 code last := by
  obtain ⟨h1, h2, h3⟩ := h
  refine ⟨by omega, h2, ?_⟩
  have hc : cOf f len n = cntTo f n len := by unfold cOf; rw [if_neg hn]
  simp only [firsts, cntTo, Nat.add_zero]
  rw [hc, h3]
  by_cases e : last = 0
  · rw [if_pos e, if_pos e]
  · rw [if_neg e, if_neg e, show n + 1 - last = (n - last) + 1 by omega, Nat.pow_succ, Nat.mul_assoc]

end Go.Proofs.YtffjkceedbblgaaGreatDoor
