/- Texts of this proof, one behind the other: what each says stands ahead of it. -/
import Derived.Test.YtffjkceedbblgaaGreatDoorM10
import Derived.Test.YtffjkceedbblgaaGreatDoorM13
import Derived.Deep.LoopGhost
/- tablesOf: both tables, or what is wrong with the first lengths that make none; conditions: at most 1024 lengths of at most 15 each. -/
namespace Go.Proofs.YtffjkceedbblgaaGreatDoor
open Go.RowKit Go.Lib

theorem TblIn.wide {w : World} {b : Nat} {f : Nat → Nat} {len lo hi lo' hi' : Nat} (h : TblIn w b f len lo hi) (h1 : lo' ≤ lo) (h2 : hi ≤ hi') : TblIn w b f len lo' hi' := by
  obtain ⟨g, C, sz, a1, a2, a3, a4, a5⟩ := h
  exact ⟨g, C, sz, a1, a2, a3, a4, fun k hk => ⟨Nat.le_trans h1 (a5 k hk).1, Nat.lt_of_lt_of_le (a5 k hk).2 h2⟩⟩

theorem results_ct {P : Program} {fn : Func} {t p : Tmp} {ty : TypeId} (h : fn.results = #[.cell p ty, .tmp t]) (tmps : Array Value) (w : World) (g : Nat) (et : TypeId) (cs : Array Value) (fr : Nat × Nat) (d : TypeDesc)
    (hp : tmps.getD p undef = .pointer (some ⟨g, 0, none⟩)) (hg : w.heap[g]? = some (.cells cs et fr))
    (hu : P.underlying ty = some d) (hd : (match d with | .struct _ | .array _ _ => true | _ => false) = true) (hi : (P.info? ty).map (·.size) = some cs.size) :
    (results fn tmps).run P w = .ok (.tuple #[.agg cs, tmps.getD t undef]) w := by
  have hp' : tmps[p]?.getD undef = .pointer (some ⟨g, 0, none⟩) := by simpa using hp
  simp [results, h, hp', asAddr, run_loadVar_row w g et ty cs fr d hg hu hd hi]

theorem results_c {P : Program} {fn : Func} {p : Tmp} {ty : TypeId} (h : fn.results = #[.cell p ty]) (tmps : Array Value) (w : World) (g : Nat) (et : TypeId) (cs : Array Value) (fr : Nat × Nat) (d : TypeDesc)
    (hp : tmps.getD p undef = .pointer (some ⟨g, 0, none⟩)) (hg : w.heap[g]? = some (.cells cs et fr))
    (hu : P.underlying ty = some d) (hd : (match d with | .struct _ | .array _ _ => true | _ => false) = true) (hi : (P.info? ty).map (·.size) = some cs.size) :
    (results fn tmps).run P w = .ok (.agg cs) w := by
  have hp' : tmps[p]?.getD undef = .pointer (some ⟨g, 0, none⟩) := by simpa using hp
  simp [results, h, hp', asAddr, run_loadVar_row w g et ty cs fr d hg hu hd hi]

/-- What tablesOf answers. -/
def ToPost (fl : Nat → Nat) (ll : Nat) (fd : Nat → Nat) (ld : Nat) (w : World) (e : Ending) (w' : World) : Prop :=
  Touch (fun _ => False) w w' ∧
  ((errOf fl ll = 0 ∧ errOf fd ld = 0 ∧ ∃ bl bd, e = .returned (.tuple #[.agg #[.pointer (some ⟨bl, 0, none⟩), .pointer (some ⟨bd, 0, none⟩)], .int .i64 0]) ∧ TblIn w' bl fl ll w.heap.size w'.heap.size ∧ TblIn w' bd fd ld w.heap.size w'.heap.size) ∨
   (errOf fl ll ≠ 0 ∧ e = .returned (.tuple #[.agg #[.pointer none, .pointer none], .int .i64 (errOf fl ll : Nat)])) ∨
   (errOf fl ll = 0 ∧ errOf fd ld ≠ 0 ∧ e = .returned (.tuple #[.agg #[.pointer none, .pointer none], .int .i64 (errOf fd ld : Nat)])))

set_option maxRecDepth 100000 in
set_option maxHeartbeats 4000000 in
theorem tablesOf_any (a a' : Option Addr) (ll ld cap cap' : Nat) (fl fd : Nat → Nat) (w : World) (hl : ll ≤ 1024) (hd : ld ≤ 1024) (hfl : ∀ i, fl i ≤ 15) (hfd : ∀ i, fd i ≤ 15) (hi : Ints w a ll (fun i => (fl i : Nat))) (hi' : Ints w a' ld (fun i => (fd i : Nat))) :
    Calls Tryz.prog 102 #[.slice a ll cap, .slice a' ld cap'] w (ToPost fl ll fd ld w) := by
  have T0 := hid ((Touch.refl (fun _ => False) w).alloc (.cells #[.pointer none, .pointer none] 146))
  have fb0 : (w.alloc (.cells #[.pointer none, .pointer none] 146)).heap[w.heap.size]? = some (.cells #[.pointer none, .pointer none] 146 (0, 0)) := by
    show (w.heap.push _)[_]? = _
    simp
  have HI := hid (hi.beside T0.out (fun _ _ _ _ e => e))
  have HI' := hid (hi'.beside T0.out (fun _ _ _ _ e => e))
  clear hi hi'
  have hwA : w.heap.size < (w.alloc (.cells #[.pointer none, .pointer none] 146)).heap.size := by simp
  obtain ⟨q, hq⟩ : ∃ q, q = w.heap.size := ⟨_, rfl⟩
  rw [← hq] at fb0 hwA
  have HQ := hid hq
  go_enter Tryz.func102, Tryz.ntmps102
  go_wp2_with fail
  rw [← hq]
  clear hq
  generalize w.alloc (.cells #[.pointer none, .pointer none] 146) = wA at *
  by_cases el : errOf fl ll = 0
  · refine (new_ok a ll cap fl wA hl hfl HI.out el).mono ?_
    rintro e w1 ⟨bl, rfl, tbl, tc1⟩
    have fb1 : w1.heap[q]? = some (.cells #[.pointer none, .pointer none] 146 (0, 0)) := by rw [tc1.block q hwA id]; exact fb0
    have HI2 := hid (HI'.out.beside tc1 (fun _ _ _ _ e => e))
    have T1 := hid (T0.out.trans tc1 (fun _ _ e => e))
    have TB := hid tbl
    have hz1 := tc1.size
    clear tbl tc1 fb0
    go_wp2_with fail
    by_cases ed : errOf fd ld = 0
    · refine (new_ok a' ld cap' fd w1 hd hfd HI2.out ed).mono ?_
      rintro e w2 ⟨bd, rfl, tbd, tc2⟩
      have fb2 : w2.heap[q]? = some (.cells #[.pointer none, .pointer none] 146 (0, 0)) := by rw [tc2.block q (by omega) id]; exact fb1
      have T2 := hid (T1.out.trans tc2 (fun _ _ e => e))
      have TB2 := hid ((TB.out.kept tc2 (fun _ _ _ e => e)).wide (lo' := wA.heap.size) (hi' := w2.heap.size) (Nat.le_refl _) tc2.size)
      have TD2 := hid (tbd.wide (lo' := wA.heap.size) (hi' := w2.heap.size) hz1 (Nat.le_refl _))
      have k0 := cell_two0 fb2
      have k1 := cell_two1 fb2
      have kf0 := free_two (i := 0) fb2
      have kf1 := free_two (i := 1) fb2
      have FB2 := hid fb2
      have EL := hid el
      have ED := hid ed
      clear tbd tc2 fb1 fb2 TB el ed
      go_wp2
      have hfb := two_set1 (x := .pointer (some ⟨bd, 0, none⟩)) (two_set0 (x := .pointer (some ⟨bl, 0, none⟩)) FB2.out)
      refine bodyPost_ret (results_ct rfl _ _ q 146 _ (0, 0) _ rfl hfb Tryz.underlying146 rfl (by kernel_rfl)) rfl ?_
      have hqw := HQ.out
      have tcs := (T2.out.setCell (p := ⟨q, 0, none⟩) (fun h => absurd h (by simp; omega)) (.pointer (some ⟨bl, 0, none⟩))).setCell (p := ⟨q, 1, none⟩) (fun h => absurd h (by simp; omega)) (.pointer (some ⟨bd, 0, none⟩))
      have tks := ((Touch.refl (fun k => k = q) w2).setCell (p := ⟨q, 0, none⟩) (fun _ => rfl) (.pointer (some ⟨bl, 0, none⟩))).setCell (p := ⟨q, 1, none⟩) (fun _ => rfl) (.pointer (some ⟨bd, 0, none⟩))
      have hsz : ((w2.setCell ⟨q, 0, none⟩ (.pointer (some ⟨bl, 0, none⟩))).setCell ⟨q, 1, none⟩ (.pointer (some ⟨bd, 0, none⟩))).heap.size = w2.heap.size := by simp [World.setCell]
      refine ⟨tcs, .inl ⟨EL.out, ED.out, bl, bd, rfl, ?_, ?_⟩⟩
      · rw [hsz]
        exact (TB2.out.kept tks (fun k h1 _ e => by omega)).wide (by omega) (Nat.le_refl _)
      · rw [hsz]
        exact (TD2.out.kept tks (fun k h1 _ e => by omega)).wide (by omega) (Nat.le_refl _)
    · refine (new_err a' ld cap' fd w1 hd hfd HI2.out ed).mono ?_
      rintro e w2 ⟨rfl, tc2⟩
      have fb2 : w2.heap[q]? = some (.cells #[.pointer none, .pointer none] 146 (0, 0)) := by rw [tc2.block q (by omega) id]; exact fb1
      have T2 := hid (T1.out.trans tc2 (fun _ _ e => e))
      have k0 := cell_two0 fb2
      have k1 := cell_two1 fb2
      have kf0 := free_two (i := 0) fb2
      have kf1 := free_two (i := 1) fb2
      have FB2 := hid fb2
      have EL := hid el
      have ED := hid ed
      have hne : ((errOf fd ld : Int) != 0) = true := by simp; omega
      clear tc2 fb1 fb2 TB el ed
      go_wp2
      have hfb := two_set1 (x := .pointer none) (two_set0 (x := .pointer none) FB2.out)
      refine bodyPost_ret (results_ct rfl _ _ q 146 _ (0, 0) _ rfl hfb Tryz.underlying146 rfl (by kernel_rfl)) rfl ?_
      have hqw := HQ.out
      have tcs := (T2.out.setCell (p := ⟨q, 0, none⟩) (fun h => absurd h (by simp; omega)) (.pointer none)).setCell (p := ⟨q, 1, none⟩) (fun h => absurd h (by simp; omega)) (.pointer none)
      exact ⟨tcs, .inr (.inr ⟨EL.out, ED.out, rfl⟩)⟩
  · refine (new_err a ll cap fl wA hl hfl HI.out el).mono ?_
    rintro e w1 ⟨rfl, tc1⟩
    have fb1 : w1.heap[q]? = some (.cells #[.pointer none, .pointer none] 146 (0, 0)) := by rw [tc1.block q hwA id]; exact fb0
    have T1 := hid (T0.out.trans tc1 (fun _ _ e => e))
    have k0 := cell_two0 fb1
    have k1 := cell_two1 fb1
    have kf0 := free_two (i := 0) fb1
    have kf1 := free_two (i := 1) fb1
    have FB1 := hid fb1
    have EL := hid el
    have hne : ((errOf fl ll : Int) != 0) = true := by simp; omega
    clear tc1 fb1 el
    go_wp2
    have hfb := two_set1 (x := .pointer none) (two_set0 (x := .pointer none) FB1.out)
    refine bodyPost_ret (results_ct rfl _ _ q 146 _ (0, 0) _ rfl hfb Tryz.underlying146 rfl (by kernel_rfl)) rfl ?_
    have hqw := HQ.out
    have tcs := (T1.out.setCell (p := ⟨q, 0, none⟩) (fun h => absurd h (by simp; omega)) (.pointer none)).setCell (p := ⟨q, 1, none⟩) (fun h => absurd h (by simp; omega)) (.pointer none)
    exact ⟨tcs, .inr (.inl ⟨EL.out, rfl⟩)⟩
end Go.Proofs.YtffjkceedbblgaaGreatDoor

/- The lengths of kind 1's codes; no condition. -/
namespace Go.Proofs.YtffjkceedbblgaaGreatDoor
open Go.RowKit Go.Lib

def fivesTo (k : Nat) : List Nat := (List.range 32).map fun i => if i < k then 5 else 0
theorem fives_zero : natsV (fivesTo 0) = List.replicate 32 (.int .i64 0) := by rfl
theorem fives_set (k : Nat) : fivesTo (k + 1) = (fivesTo k).set k 5 := by
  apply List.ext_getElem
  · simp [fivesTo]
  · intro i h1 h2
    simp only [fivesTo, List.getElem_map, List.getElem_range, List.getElem_set]
    by_cases e : k = i
    · subst e; simp
    · rw [if_neg e]
      by_cases e2 : i < k
      · rw [if_pos e2, if_pos (by omega)]
      · rw [if_neg e2, if_neg (by omega)]
theorem fives_all : fivesTo 32 = (List.range 32).map Inf.fixD := by decide +kernel

set_option maxRecDepth 100000 in
set_option maxHeartbeats 4000000 in
theorem fixedD_any (w : World) : Calls Tryz.prog 41 #[] w fun e w' => ∃ g, e = .returned (.slice (some ⟨g, 0, none⟩) 32 32) ∧ Ints w' (some ⟨g, 0, none⟩) 32 (fun i => (Inf.fixD i : Nat)) ∧ Touch (fun _ => False) w w' := by
  obtain ⟨i0, hin, hz0, hz1, hz2⟩ := info_parts info3
  go_enter Tryz.func41, Tryz.ntmps41
  go_wp2_with (first
    | (at_make; refine wpList_make_full _ rfl _ _ 68 rfl w.heap.size 3 i0 (.int .i64 0) 1 Tryz.underlying68 hin hz0 hz1 .i64 .i64 _ _ 32 rfl rfl rfl rfl (by rw [hz2]; decide) (by unfold maxLen; omega) (by omega) ?_))
  intro w2 hown hgrow
  rw [toList_madeCells_one] at hown
  have TG := hid ((Touch.refl (fun _ => False) w).grown hgrow (fun k e => by simp at e))
  obtain ⟨g, hg⟩ : ∃ g, g = w.heap.size := ⟨_, rfl⟩
  rw [← hg] at hown ⊢
  have O := hid (show w2.ownsRow 0 3 1 (.slice (some ⟨g, 0, none⟩) 32 32) 32 (natsV (fivesTo 0)) from by
    rw [fives_zero]
    refine ⟨hown.1, ?_⟩
    rcases hown.2 with h | ⟨g', cap, cur, hv, _, r⟩
    · exact .inl h
    · exact .inr ⟨g', cap, cur, hv, Nat.zero_le _, r⟩)
  have HG := hid hg
  clear hown hgrow hg
  go_wp2_with fail
  go_loopg [6] 32 (fun gk i wr => ∃ k : Nat, k + gk = 32 ∧ i = .int .i64 (k : Nat) ∧ wr.ownsRow 0 3 1 (.slice (some ⟨g, 0, none⟩) 32 32) 32 (natsV (fivesTo k)) ∧ Touch (fun _ => False) w wr)
  case atStart => exact ⟨0, rfl, rfl, O.out, TG.out⟩
  case round =>
    obtain ⟨k, hk, rfl, ho, ht⟩ := hrel
    have O1 := hid ho
    have T1 := hid ht
    clear ho ht
    by_cases hlt : k < 32
    · obtain ⟨x, hx⟩ : ∃ x : Nat, wr.cell? ⟨g, k, none⟩ = some (.int .i64 (x : Nat)) := by
        have hl : k < (natsV (fivesTo k)).length := by simp [natsV, fivesTo]; omega
        have := O1.out.cells (g := g) rfl k ((natsV (fivesTo k))[k]) (List.getElem?_eq_getElem hl)
        rw [add_zero] at this
        exact ⟨(fivesTo k)[k]'(by simpa [natsV] using hl), by rw [this]; simp [natsV]⟩
      have hfz : wr.frozen? ⟨g, k, none⟩ = false := by
        rcases O1.out.2 with ⟨h, _⟩ | ⟨g', cap, cur, hv, _, hh, _⟩
        · simp at h
        · simp at hv
          obtain ⟨rfl, rfl⟩ := hv
          simp [World.frozen?, hh]
      go_wp2
      go_roundg (gk - 1)
      case measure => omega
      case rel =>
        refine ⟨k + 1, by omega, by go_num, ?_, T1.out.setCell (fun h => absurd h (by have := HG.out; simp; omega)) _⟩
        have := own3_set' O1.out k (.int .i64 5)
        rw [fives_set]
        have e : natsV ((fivesTo k).set k 5) = (natsV (fivesTo k)).set k (.int .i64 5) := by
          unfold natsV
          rw [List.map_set]
          rfl
        rw [e]
        exact this
    · obtain rfl : k = 32 := by omega
      go_wp2
      go_ret
      refine ⟨g, rfl, ?_, T1.out⟩
      have := O1.out
      rw [fives_all, natsV, List.map_map] at this
      exact own_ints this

theorem info111 : (Tryz.prog.info? 124).map (fun i => (i.zero, i.size, i.bytes)) = some (some (.agg #[.int .i64 0, .int .i64 0]), 2, 16) := by kernel_rfl
/-- The four parts. -/
def partsA : Array Value := #[.int .i64 144, .int .i64 8, .int .i64 256, .int .i64 9, .int .i64 280, .int .i64 7, .int .i64 288, .int .i64 8]
theorem run_part (i : Nat) (a b : Int) (w : World) (hi : i < 4) (ha : partsA.extract (i * 2) (i * 2 + 2) = #[.int .i64 a, .int .i64 b]) : (Instr.index 125 (.agg partsA) (.int .i64 (i : Int))).run Tryz.prog w = .ok (.agg #[.int .i64 a, .int .i64 b]) w := by
  obtain ⟨i0, h1, hz0, hz1, hz2⟩ := info_parts info111
  simp [Instr.index, run_underlying Tryz.underlying125, asIntOf, go_sem, part, sizeOf, typeInfo, h1, hz1, hi]
  rw [ha]

/-- Up to which symbol each part goes. -/
def upL (k : Nat) : Nat := if k = 0 then 0 else if k = 1 then 144 else if k = 2 then 256 else if k = 3 then 280 else 288
def litsTo (n : Nat) : List Nat := (List.range n).map Inf.fixL
theorem lits_succ (n : Nat) : litsTo (n + 1) = litsTo n ++ [Inf.fixL n] := by simp [litsTo, List.range_succ]
theorem fix_at0 (n : Nat) (h : n < 144) : Inf.fixL n = 8 := by unfold Inf.fixL; rw [if_pos h]
theorem fix_at1 (n : Nat) (h0 : 144 ≤ n) (h : n < 256) : Inf.fixL n = 9 := by unfold Inf.fixL; rw [if_neg (by omega), if_pos h]
theorem fix_at2 (n : Nat) (h0 : 256 ≤ n) (h : n < 280) : Inf.fixL n = 7 := by unfold Inf.fixL; rw [if_neg (by omega), if_neg (by omega), if_pos h]
theorem fix_at3 (n : Nat) (h0 : 280 ≤ n) (h : n < 288) : Inf.fixL n = 8 := by unfold Inf.fixL; rw [if_neg (by omega), if_neg (by omega), if_neg (by omega), if_pos h]

theorem row_ne {w : World} {v : Value} {n pb : Nat} {xs : List Value} {cs : Array Value} {ty : TypeId} (h : w.ownsRow 0 3 1 v n xs) (hb : w.heap[pb]? = some (.cells cs ty (0, 0))) (hty : ty ≠ 3) : v.ownBlock ≠ some pb := by
  intro e
  rcases h.2 with ⟨rfl, _⟩ | ⟨g, cap, cur, rfl, _, hh, _⟩
  · simp [Value.ownBlock] at e
  · simp [Value.ownBlock] at e
    subst e
    rw [hb] at hh
    simp at hh
    exact hty hh.2

/-- So many lengths stand in a list of the call's own. -/
structure Lf (W0 wr : World) (v : Value) (n : Nat) : Prop where
  own : wr.ownsRow 0 3 1 v n (natsV (litsTo n))
  new : ∀ g, v.ownBlock = some g → W0.heap.size ≤ g
  touch : Touch (fun _ => False) W0 wr

theorem Lf.alloc {W0 wr : World} {v : Value} {n : Nat} (h : Lf W0 wr v n) (o : Obj) : Lf W0 (wr.alloc o) v n := ⟨h.own.alloc _, h.new, h.touch.alloc _⟩

theorem Lf.more {W0 wr w1 : World} {v v' : Value} {n x : Nat} {o : Obj} (h : Lf W0 wr v n) (hx : Inf.fixL n = x) (hown : w1.ownsRow 0 3 1 v' (n + 1) (natsV (litsTo n) ++ [.int .i64 (x : Nat)])) (hg : (wr.alloc o).grownBy w1 v.ownBlock) (hat : v'.ownBlock = v.ownBlock ∨ v'.ownBlock = some (wr.heap.size + 1)) : Lf W0 w1 v' (n + 1) := by
  refine ⟨?_, fun g hg' => ?_, (h.touch.alloc o).grown hg (fun k e hk => by have := h.new k e; omega)⟩
  · rw [lits_succ, hx]
    unfold natsV at hown ⊢
    rw [List.map_append]
    exact hown
  · rcases hat with e | e
    · exact h.new g (by rw [← e]; exact hg')
    · rw [e] at hg'
      simp at hg'
      have := h.touch.size
      omega

set_option maxRecDepth 100000 in
set_option maxHeartbeats 4000000 in
theorem fixedL_any (w : World) : Calls Tryz.prog 40 #[] w fun e w' => ∃ a cap, e = .returned (.slice a 288 cap) ∧ Ints w' a 288 (fun i => (Inf.fixL i : Nat)) ∧ Touch (fun _ => False) w w' := by
  obtain ⟨i0, hin, hz0, hz1, hz2⟩ := info_parts info3
  go_enter Tryz.func40, Tryz.ntmps40
  go_wp2_with fail
  go_loopg [1, 9] 4 (fun gk v i wr => ∃ k : Nat, k + gk = 4 ∧ i = .int .i64 (k : Nat) ∧ Lf w wr v (upL k))
  case atStart => exact ⟨0, rfl, rfl, ⟨by simpa [litsTo, natsV, upL] using World.ownsRow_nil _ _ _ _, by intro g h; simp [Value.ownBlock] at h, Touch.refl _ _⟩⟩
  case round =>
    obtain ⟨k, hk, rfl, hlf⟩ := hrel
    have LF := hid hlf
    clear hlf
    by_cases hlt : k < 4
    · have hk4 : k = 0 ∨ k = 1 ∨ k = 2 ∨ k = 3 := by omega
      rcases hk4 with rfl | rfl | rfl | rfl
      · have LF0 := hid (LF.out.alloc (.cells #[.int .i64 144, .int .i64 8] 124))
        have BX0 := hid (show (wr.alloc (.cells #[.int .i64 144, .int .i64 8] 124)).heap[wr.heap.size]? = some (.cells #[.int .i64 144, .int .i64 8] 124 (0, 0)) by
          show (wr.heap.push _)[_]? = _
          simp)
        have hidx : ∀ wq : World, (Instr.index 125 (.agg #[.int .i64 144, .int .i64 8, .int .i64 256, .int .i64 9, .int .i64 280, .int .i64 7, .int .i64 288, .int .i64 8]) (.int .i64 0)).run Tryz.prog wq = .ok (.agg #[.int .i64 144, .int .i64 8]) wq := fun wq => run_part 0 144 8 wq (by decide) (by rfl)
        go_wp2_with fail
        clear hidx
        generalize wr.alloc (.cells #[.int .i64 144, .int .i64 8] 124) = wA at *
        generalize wr.heap.size = pb at *
        go_loopg [1] 144 (fun g2 v wx => ∃ n : Nat, n + g2 = 144 ∧ 0 ≤ n ∧ Lf w wx v n ∧ wx.heap[pb]? = some (.cells #[.int .i64 144, .int .i64 8] 124 (0, 0)))
        case atStart => exact ⟨0, rfl, Nat.le_refl _, LF0.out, BX0.out⟩
        case round =>
          obtain ⟨n, hn, hlo, hlf, hbx⟩ := hrel
          have L1 := hid hlf
          have B1 := hid hbx
          have k0 := cell_two0 hbx
          have k1 := cell_two1 hbx
          obtain ⟨av, cv, hav⟩ := own_shape hlf.own
          subst hav
          clear hlf hbx
          by_cases hlt2 : n < 144
          · go_wp2_with (at_builtin; refine wpList_append_own_at _ rfl _ _ 68 rfl 0 3 i0 (.int .i64 0) 1 8 Tryz.underlying68 hin hz0 hz1 hz2 rfl (by decide) _ n _ rfl (L1.out.own.alloc _) ⟨wr.heap.size, 0, none⟩ 1 1 [.int .i64 8] rfl rfl (cell_one_new wr _ _) (by intro u hu; simp at hu; subst hu; rfl) (by unfold maxLen; omega) (by omega) (Nat.zero_le _) ?_)
            intro v' w1 hown hgrow _ hat
            have L2 := hid (L1.out.more (fix_at0 n (by omega)) hown hgrow hat)
            have B2 := hid (show w1.heap[pb]? = some (.cells #[.int .i64 144, .int .i64 8] 124 (0, 0)) by
              rw [hgrow.block pb (by have := lt_of_block B1.out; simp; omega) (fun e => row_ne L1.out.own B1.out (by decide) e.symm), Below.heap_alloc _ _ _ (lt_of_block B1.out)]
              exact B1.out)
            clear hown hgrow hat
            go_wp2
            go_roundg (gk - 1)
            case measure => omega
            case rel => exact ⟨n + 1, by omega, by omega, L2.out, B2.out⟩
          · obtain rfl : n = 144 := by omega
            have L3 := hid (show Lf w wr (.slice av 144 cv) (upL 1) from L1.out)
            go_wp2
            go_roundg 3
            case measure => omega
            case rel => exact ⟨1, by omega, rfl, L3.out⟩
      · have LF0 := hid (LF.out.alloc (.cells #[.int .i64 256, .int .i64 9] 124))
        have BX0 := hid (show (wr.alloc (.cells #[.int .i64 256, .int .i64 9] 124)).heap[wr.heap.size]? = some (.cells #[.int .i64 256, .int .i64 9] 124 (0, 0)) by
          show (wr.heap.push _)[_]? = _
          simp)
        have hidx : ∀ wq : World, (Instr.index 125 (.agg #[.int .i64 144, .int .i64 8, .int .i64 256, .int .i64 9, .int .i64 280, .int .i64 7, .int .i64 288, .int .i64 8]) (.int .i64 1)).run Tryz.prog wq = .ok (.agg #[.int .i64 256, .int .i64 9]) wq := fun wq => run_part 1 256 9 wq (by decide) (by rfl)
        go_wp2_with fail
        clear hidx
        generalize wr.alloc (.cells #[.int .i64 256, .int .i64 9] 124) = wA at *
        generalize wr.heap.size = pb at *
        go_loopg [1] 112 (fun g2 v wx => ∃ n : Nat, n + g2 = 256 ∧ 144 ≤ n ∧ Lf w wx v n ∧ wx.heap[pb]? = some (.cells #[.int .i64 256, .int .i64 9] 124 (0, 0)))
        case atStart => exact ⟨144, rfl, Nat.le_refl _, LF0.out, BX0.out⟩
        case round =>
          obtain ⟨n, hn, hlo, hlf, hbx⟩ := hrel
          have L1 := hid hlf
          have B1 := hid hbx
          have k0 := cell_two0 hbx
          have k1 := cell_two1 hbx
          obtain ⟨av, cv, hav⟩ := own_shape hlf.own
          subst hav
          clear hlf hbx
          by_cases hlt2 : n < 256
          · go_wp2_with (at_builtin; refine wpList_append_own_at _ rfl _ _ 68 rfl 0 3 i0 (.int .i64 0) 1 8 Tryz.underlying68 hin hz0 hz1 hz2 rfl (by decide) _ n _ rfl (L1.out.own.alloc _) ⟨wr.heap.size, 0, none⟩ 1 1 [.int .i64 9] rfl rfl (cell_one_new wr _ _) (by intro u hu; simp at hu; subst hu; rfl) (by unfold maxLen; omega) (by omega) (Nat.zero_le _) ?_)
            intro v' w1 hown hgrow _ hat
            have L2 := hid (L1.out.more (fix_at1 n (by omega) (by omega)) hown hgrow hat)
            have B2 := hid (show w1.heap[pb]? = some (.cells #[.int .i64 256, .int .i64 9] 124 (0, 0)) by
              rw [hgrow.block pb (by have := lt_of_block B1.out; simp; omega) (fun e => row_ne L1.out.own B1.out (by decide) e.symm), Below.heap_alloc _ _ _ (lt_of_block B1.out)]
              exact B1.out)
            clear hown hgrow hat
            go_wp2
            go_roundg (gk - 1)
            case measure => omega
            case rel => exact ⟨n + 1, by omega, by omega, L2.out, B2.out⟩
          · obtain rfl : n = 256 := by omega
            have L3 := hid (show Lf w wr (.slice av 256 cv) (upL 2) from L1.out)
            go_wp2
            go_roundg 2
            case measure => omega
            case rel => exact ⟨2, by omega, rfl, L3.out⟩
      · have LF0 := hid (LF.out.alloc (.cells #[.int .i64 280, .int .i64 7] 124))
        have BX0 := hid (show (wr.alloc (.cells #[.int .i64 280, .int .i64 7] 124)).heap[wr.heap.size]? = some (.cells #[.int .i64 280, .int .i64 7] 124 (0, 0)) by
          show (wr.heap.push _)[_]? = _
          simp)
        have hidx : ∀ wq : World, (Instr.index 125 (.agg #[.int .i64 144, .int .i64 8, .int .i64 256, .int .i64 9, .int .i64 280, .int .i64 7, .int .i64 288, .int .i64 8]) (.int .i64 2)).run Tryz.prog wq = .ok (.agg #[.int .i64 280, .int .i64 7]) wq := fun wq => run_part 2 280 7 wq (by decide) (by rfl)
        go_wp2_with fail
        clear hidx
        generalize wr.alloc (.cells #[.int .i64 280, .int .i64 7] 124) = wA at *
        generalize wr.heap.size = pb at *
        go_loopg [1] 24 (fun g2 v wx => ∃ n : Nat, n + g2 = 280 ∧ 256 ≤ n ∧ Lf w wx v n ∧ wx.heap[pb]? = some (.cells #[.int .i64 280, .int .i64 7] 124 (0, 0)))
        case atStart => exact ⟨256, rfl, Nat.le_refl _, LF0.out, BX0.out⟩
        case round =>
          obtain ⟨n, hn, hlo, hlf, hbx⟩ := hrel
          have L1 := hid hlf
          have B1 := hid hbx
          have k0 := cell_two0 hbx
          have k1 := cell_two1 hbx
          obtain ⟨av, cv, hav⟩ := own_shape hlf.own
          subst hav
          clear hlf hbx
          by_cases hlt2 : n < 280
          · go_wp2_with (at_builtin; refine wpList_append_own_at _ rfl _ _ 68 rfl 0 3 i0 (.int .i64 0) 1 8 Tryz.underlying68 hin hz0 hz1 hz2 rfl (by decide) _ n _ rfl (L1.out.own.alloc _) ⟨wr.heap.size, 0, none⟩ 1 1 [.int .i64 7] rfl rfl (cell_one_new wr _ _) (by intro u hu; simp at hu; subst hu; rfl) (by unfold maxLen; omega) (by omega) (Nat.zero_le _) ?_)
            intro v' w1 hown hgrow _ hat
            have L2 := hid (L1.out.more (fix_at2 n (by omega) (by omega)) hown hgrow hat)
            have B2 := hid (show w1.heap[pb]? = some (.cells #[.int .i64 280, .int .i64 7] 124 (0, 0)) by
              rw [hgrow.block pb (by have := lt_of_block B1.out; simp; omega) (fun e => row_ne L1.out.own B1.out (by decide) e.symm), Below.heap_alloc _ _ _ (lt_of_block B1.out)]
              exact B1.out)
            clear hown hgrow hat
            go_wp2
            go_roundg (gk - 1)
            case measure => omega
            case rel => exact ⟨n + 1, by omega, by omega, L2.out, B2.out⟩
          · obtain rfl : n = 280 := by omega
            have L3 := hid (show Lf w wr (.slice av 280 cv) (upL 3) from L1.out)
            go_wp2
            go_roundg 1
            case measure => omega
            case rel => exact ⟨3, by omega, rfl, L3.out⟩
      · have LF0 := hid (LF.out.alloc (.cells #[.int .i64 288, .int .i64 8] 124))
        have BX0 := hid (show (wr.alloc (.cells #[.int .i64 288, .int .i64 8] 124)).heap[wr.heap.size]? = some (.cells #[.int .i64 288, .int .i64 8] 124 (0, 0)) by
          show (wr.heap.push _)[_]? = _
          simp)
        have hidx : ∀ wq : World, (Instr.index 125 (.agg #[.int .i64 144, .int .i64 8, .int .i64 256, .int .i64 9, .int .i64 280, .int .i64 7, .int .i64 288, .int .i64 8]) (.int .i64 3)).run Tryz.prog wq = .ok (.agg #[.int .i64 288, .int .i64 8]) wq := fun wq => run_part 3 288 8 wq (by decide) (by rfl)
        go_wp2_with fail
        clear hidx
        generalize wr.alloc (.cells #[.int .i64 288, .int .i64 8] 124) = wA at *
        generalize wr.heap.size = pb at *
        go_loopg [1] 8 (fun g2 v wx => ∃ n : Nat, n + g2 = 288 ∧ 280 ≤ n ∧ Lf w wx v n ∧ wx.heap[pb]? = some (.cells #[.int .i64 288, .int .i64 8] 124 (0, 0)))
        case atStart => exact ⟨280, rfl, Nat.le_refl _, LF0.out, BX0.out⟩
        case round =>
          obtain ⟨n, hn, hlo, hlf, hbx⟩ := hrel
          have L1 := hid hlf
          have B1 := hid hbx
          have k0 := cell_two0 hbx
          have k1 := cell_two1 hbx
          obtain ⟨av, cv, hav⟩ := own_shape hlf.own
          subst hav
          clear hlf hbx
          by_cases hlt2 : n < 288
          · go_wp2_with (at_builtin; refine wpList_append_own_at _ rfl _ _ 68 rfl 0 3 i0 (.int .i64 0) 1 8 Tryz.underlying68 hin hz0 hz1 hz2 rfl (by decide) _ n _ rfl (L1.out.own.alloc _) ⟨wr.heap.size, 0, none⟩ 1 1 [.int .i64 8] rfl rfl (cell_one_new wr _ _) (by intro u hu; simp at hu; subst hu; rfl) (by unfold maxLen; omega) (by omega) (Nat.zero_le _) ?_)
            intro v' w1 hown hgrow _ hat
            have L2 := hid (L1.out.more (fix_at3 n (by omega) (by omega)) hown hgrow hat)
            have B2 := hid (show w1.heap[pb]? = some (.cells #[.int .i64 288, .int .i64 8] 124 (0, 0)) by
              rw [hgrow.block pb (by have := lt_of_block B1.out; simp; omega) (fun e => row_ne L1.out.own B1.out (by decide) e.symm), Below.heap_alloc _ _ _ (lt_of_block B1.out)]
              exact B1.out)
            clear hown hgrow hat
            go_wp2
            go_roundg (gk - 1)
            case measure => omega
            case rel => exact ⟨n + 1, by omega, by omega, L2.out, B2.out⟩
          · obtain rfl : n = 288 := by omega
            have L3 := hid (show Lf w wr (.slice av 288 cv) (upL 4) from L1.out)
            go_wp2
            go_roundg 0
            case measure => omega
            case rel => exact ⟨4, by omega, rfl, L3.out⟩
    · obtain rfl : k = 4 := by omega
      obtain ⟨a, c, hv, hi⟩ := own_ints' (f := fun i => ((Inf.fixL i : Nat) : Int)) (n := 288) (by have := LF.out.own; rw [litsTo, natsV, List.map_map] at this; exact this)
      subst hv
      have HI := hid hi
      clear hi
      go_wp2
      go_ret
      exact ⟨a, c, rfl, HI.out, LF.out.touch⟩
end Go.Proofs.YtffjkceedbblgaaGreatDoor
