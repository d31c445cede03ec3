/- Texts of this proof, one behind the other: what each says stands ahead of it. -/
import Derived.Test.YtffjkceedbblgaaGreatDoorM15
import Derived.Test.YtffjkceedbblgaaGreatDoorM14
import Derived.Test.YtffjkceedbblgaaGreatDoorM6
import Derived.Test.YtffjkceedbblgaaGreatDoorM13
import Derived.Test.YtffjkceedbblgaaGreatDoorM16
/- Clone, and codes of a table; conditions: those told. -/
namespace Go.Proofs.YtffjkceedbblgaaGreatDoor
open Go.RowKit

set_option maxHeartbeats 1000000 in
theorem clone_any (g len cap : Nat) (f : Nat → Int) (w : World) (hl : len ≤ 140737488351232) (hb : len * 8 ≤ 140737488351232) (hi : Ints w (some ⟨g, 0, none⟩) len f) :
    Calls Tryz.prog 76 #[.slice (some ⟨g, 0, none⟩) len cap] w fun e w' => ∃ v, e = .returned v ∧ w'.ownsRow w.heap.size 3 1 v len ((List.range len).map fun i => .int .i64 (f i)) ∧ Touch (fun _ => False) w w' := by
  obtain ⟨i0, hin, hz0, hz1, hz2⟩ := info_parts info3
  have c1 : ∀ (j : Nat) (u : Value), ((List.range len).map fun i => Value.int .i64 (f i))[j]? = some u → (w.alloc (.cells #[] 3)).cell? ((⟨g, 0, none⟩ : Addr).add j) = some u := by
    intro j u hj
    have hj' : j < len := by
      rcases Nat.lt_or_ge j len with h | h
      · exact h
      · rw [List.getElem?_eq_none (by simpa using h)] at hj; simp at hj
    rcases hi with h | ⟨b, o, ha, hb, hc⟩
    · omega
    · simp at ha
      obtain ⟨rfl, rfl⟩ := ha
      rw [add_zero, World.cell?_of_block (w := w) (Below.heap_alloc _ _ _ hb)]
      have := hc j hj'
      rw [Nat.zero_add] at this
      rw [this]
      simpa [hj'] using hj
  have O1 : (w.alloc (.cells #[] 3)).ownsRow w.heap.size 3 1 (.slice (some ⟨w.heap.size, 0, none⟩) 0 0) 0 [] :=
    World.ownsRow_made w #[] 0 (Nat.le_refl _) (by unfold maxLen; omega) rfl
  have C1 := hid c1
  have OO := hid O1
  clear c1 O1 hi
  have q37 : ∀ (w : World) (a : Option Addr) (n c n' c' : Nat), (binOp .eql 68 (.slice a n c) (.slice none n' c')).run Tryz.prog w = .ok (.bool a.isNone) w := fun w a n c n' c' => Lib.run_eql_slice_nil w _ _ a n c n' c' Tryz.underlying68
  go_enter Tryz.func76, Tryz.ntmps76
  go_wp2_with (first
    | (at_builtin; refine wpList_append_own _ rfl _ _ 68 rfl w.heap.size 3 i0 (.int .i64 0) 1 8 Tryz.underlying68 hin hz0 hz1 hz2 rfl (by decide) _ _ _ rfl OO.out ⟨g, 0, none⟩ len cap ((List.range len).map fun i => Value.int .i64 (f i)) rfl (by simp) C1.out (by intro u hu; simp at hu; obtain ⟨_, _, rfl⟩ := hu; rfl) (by unfold maxLen; omega) (by omega) (by simp) ?_)
    | go_in)
  intro v' w1 hown hgrow _
  have T1 := hid ((((Touch.refl (fun _ => False) w).alloc (.cells #[] 3)).grown hgrow (fun k e h => by simp [Value.ownBlock] at e; omega)))
  have O2 := hid hown
  clear hown hgrow C1 OO
  go_wp2
  go_ret
  exact ⟨v', rfl, by simpa using O2.out, T1.out⟩
theorem tcodes_nil (w : World) :
    Calls Tryz.prog 57 #[.pointer none] w fun e w' => e = .returned (.slice none 0 0) ∧ w' = w := by
  go_enter Tryz.func57, Tryz.ntmps57
  go_wp2
  go_ret
  exact ⟨rfl, rfl⟩

theorem tcodes_any (b g len cap : Nat) (v : Value) (f : Nat → Int) (w : World) (hb : w.heap[b]? = some (.cells #[.slice (some ⟨g, 0, none⟩) len cap, v] 155 (0, 0))) (hl : len ≤ 1024) (hi : Ints w (some ⟨g, 0, none⟩) len f) :
    Calls Tryz.prog 57 #[.pointer (some ⟨b, 0, none⟩)] w fun e w' => ∃ v, e = .returned v ∧ w'.ownsRow w.heap.size 3 1 v len ((List.range len).map fun i => .int .i64 (f i)) ∧ Touch (fun _ => False) w w' := by
  have h0 := cell_two0 hb
  have HI := hid hi
  clear hb hi
  go_enter Tryz.func57, Tryz.ntmps57
  go_wp2_with fail
  refine (clone_any g len cap f w (by omega) (by omega) HI.out).mono ?_
  rintro e w' ⟨v, rfl, ho, ht⟩
  have O := hid ho
  have T := hid ht
  clear ho ht
  go_wp2
  go_ret
  exact ⟨v, rfl, O.out, T.out⟩
theorem codes_tbl (b lo hi : Nat) (f : Nat → Nat) (len : Nat) (w : World) (hl : len ≤ 1024) (hT : TblIn w b f len lo hi) :
    Calls Tryz.prog 57 #[.pointer (some ⟨b, 0, none⟩)] w fun e w' => ∃ v, e = .returned v ∧ w'.ownsRow w.heap.size 3 1 v len ((List.range len).map fun i => .int .i64 (codeOf (cOf f len) f i : Nat)) ∧ Touch (fun _ => False) w w' := by
  obtain ⟨g, C, sz, ⟨v, hb, _⟩, h2, h3, h4, h5⟩ := hT
  exact tcodes_any b g len len v _ w hb hl h2

end Go.Proofs.YtffjkceedbblgaaGreatDoor

/- The codes of fixed blocks, and where three bytes stood; conditions: those told. -/
namespace Go.Proofs.YtffjkceedbblgaaGreatDoor
open Go.RowKit
open Go.Lib

/-- A row of the call's own reads as numbers. -/
theorem own_intsQ {w : World} {base : Nat} {v : Value} {len : Nat} {f : Nat → Int} (h : w.ownsRow base 3 1 v len ((List.range len).map fun i => .int .i64 (f i))) : ∃ a c, v = .slice a len c ∧ Ints w a len f ∧ len ≤ c ∧ ∀ b o, a = some ⟨b, o, none⟩ → base ≤ b := by
  have hlen : len = len := rfl
  rcases h.2 with ⟨h1, h2⟩ | ⟨g, cap, cur, hv, hg, hh, hle, _⟩
  · exact ⟨none, 0, by rw [h1, h2], .inl h2, by omega, fun b o e => by cases e⟩
  · refine ⟨some ⟨g, 0, none⟩, cap, hv, .inr ⟨g, 0, rfl, lt_of_block hh, fun i hi => ?_⟩, hle, fun b o e => by simp at e; omega⟩
    have := h.cells (g := g) (by rw [hv]; rfl) i (.int .i64 (f i)) (by simp [hi])
    rw [add_zero] at this
    rw [Nat.zero_add]
    exact this
theorem ints_belowQ {w : World} {a : Option Addr} {len : Nat} {f : Nat → Int} (h : Ints w a len f) : ∀ b o, a = some ⟨b, o, none⟩ → 0 < len → b < w.heap.size := fun b o ha h0 => by
  rcases h with h | ⟨b', o', ha', hb, _⟩
  · omega
  · rw [ha] at ha'
    simp at ha'
    omega
theorem Ints.apart {S : Nat → Prop} {w w' : World} {a : Option Addr} {len : Nat} {f : Nat → Int} (h : Ints w a len f) (t : Touch S w w') (hs : ∀ b o, a = some ⟨b, o, none⟩ → 0 < len → b < w.heap.size → ¬ S b) : Ints w' a len f := by
  rcases h with h | ⟨b, o, ha, hb, hc⟩
  · exact .inl h
  · rcases Nat.eq_zero_or_pos len with h0 | h0
    · exact .inl h0
    · exact .inr ⟨b, o, ha, Nat.lt_of_lt_of_le hb t.size, fun i hi => (t.cell (p := ⟨b, o + i, none⟩) hb (hs b o ha h0 hb)).trans (hc i hi)⟩
/-- A book in memory: codes and lengths. -/
structure Bkd (w : World) (vc vl : Value) (f : Nat → Nat) (len : Nat) : Prop where
  codes : ∃ a c, vc = .slice a len c ∧ Ints w a len (fun i => (codeOf (cOf f len) f i : Nat))
  lens : ∃ a c, vl = .slice a len c ∧ Ints w a len (fun i => (f i : Nat))
theorem Bkd.new {w w' : World} {vc vl : Value} {f : Nat → Nat} {len : Nat} (h : Bkd w vc vl f len) (t : Touch (fun _ => False) w w') : Bkd w' vc vl f len := by
  obtain ⟨⟨a, c, h1, h2⟩, ⟨a', c', h3, h4⟩⟩ := h
  exact ⟨⟨a, c, h1, h2.new t⟩, ⟨a', c', h3, h4.new t⟩⟩
set_option maxRecDepth 100000 in
set_option maxHeartbeats 8000000 in
theorem bookOf_ok (a : Option Addr) (len cap : Nat) (f : Nat → Nat) (w : World) (hl : len ≤ 1024) (hf : ∀ i, f i ≤ 15) (hi : Ints w a len (fun i => (f i : Nat))) (he : errOf f len = 0) :
    Calls Tryz.prog 39 #[.slice a len cap] w fun e w' => ∃ vc, e = .returned (.agg #[vc, .slice a len cap]) ∧ Bkd w' vc (.slice a len cap) f len ∧ Touch (fun _ => False) w w' := by
  have T0 := hid ((Touch.refl (fun _ => False) w).alloc (.cells #[.slice none 0 0, .slice none 0 0] 70))
  have fb0 : (w.alloc (.cells #[.slice none 0 0, .slice none 0 0] 70)).heap[w.heap.size]? = some (.cells #[.slice none 0 0, .slice none 0 0] 70 (0, 0)) := by
    show (w.heap.push _)[_]? = _
    simp
  have HI := hid (hi.new T0.out)
  have HB := hid (ints_belowQ hi)
  clear hi
  have hwA : w.heap.size < (w.alloc (.cells #[.slice none 0 0, .slice none 0 0] 70)).heap.size := by simp
  obtain ⟨q, hq⟩ : ∃ q, q = w.heap.size := ⟨_, rfl⟩
  rw [← hq] at fb0 hwA
  have HQ := hid hq
  go_enter Tryz.func39, Tryz.ntmps39
  go_wp2_with fail
  rw [← hq]
  clear hq
  generalize w.alloc (.cells #[.slice none 0 0, .slice none 0 0] 70) = wA at *
  refine (new_ok a len cap f wA hl hf HI.out he).mono ?_
  rintro e w1 ⟨b, rfl, tbl, tc1⟩
  have fb1 : w1.heap[q]? = some (.cells #[.slice none 0 0, .slice none 0 0] 70 (0, 0)) := by rw [tc1.block q hwA id]; exact fb0
  have T1 := hid (T0.out.trans tc1 (fun _ _ e => e))
  have HI1 := hid (HI.out.new tc1)
  have KC := hid (codes_tbl b _ _ f len w1 hl tbl)
  have hz1 : q < w1.heap.size := Nat.lt_of_lt_of_le hwA tc1.size
  clear tbl tc1 fb0
  go_wp2_with fail
  refine KC.out.mono ?_
  rintro e w2 ⟨v, rfl, hown, tc2⟩
  have fb2 : w2.heap[q]? = some (.cells #[.slice none 0 0, .slice none 0 0] 70 (0, 0)) := by rw [tc2.block q hz1 id]; exact fb1
  have T2 := hid (T1.out.trans tc2 (fun _ _ e => e))
  have HI2 := hid (HI1.out.new tc2)
  obtain ⟨ac, cc, hv, hic, _, hnew⟩ := own_intsQ (f := fun i => (codeOf (cOf f len) f i : Nat)) hown
  subst hv
  have HIC := hid hic
  have HN := hid (show ∀ b o, ac = some ⟨b, o, none⟩ → q < b from fun b o e => Nat.lt_of_lt_of_le hz1 (hnew b o e))
  have k0 := cell_two0 fb2
  have k1 := cell_two1 fb2
  have kf0 := free_two (i := 0) fb2
  have kf1 := free_two (i := 1) fb2
  have FB2 := hid fb2
  clear tc2 fb1 fb2 hown hic KC hnew
  go_wp2
  have hfb := two_set1 (x := .slice a len cap) (two_set0 (x := .slice ac len cc) FB2.out)
  refine bodyPost_ret (results_c rfl _ _ q 70 _ (0, 0) _ rfl hfb Tryz.underlying70 rfl (by kernel_rfl)) rfl ?_
  have hqw := HQ.out
  have tcs := (T2.out.setCell (p := ⟨q, 0, none⟩) (fun h => absurd h (by simp; omega)) (.slice ac len cc)).setCell (p := ⟨q, 1, none⟩) (fun h => absurd h (by simp; omega)) (.slice a len cap)
  have tks := ((Touch.refl (fun k => k = q) w2).setCell (p := ⟨q, 0, none⟩) (fun _ => rfl) (.slice ac len cc)).setCell (p := ⟨q, 1, none⟩) (fun _ => rfl) (.slice a len cap)
  refine ⟨_, rfl, ⟨⟨ac, cc, rfl, HIC.out.apart tks (fun b o e _ _ hk => ?_)⟩, ⟨a, cap, rfl, HI2.out.apart tks (fun b o e h0 _ hk => ?_)⟩⟩, tcs⟩
  · have := HN.out b o e
    omega
  · have := HB.out b o e h0
    omega
theorem qblk_set {w : World} {b : Nat} {cs : Array Value} {ty : TypeId} (h : w.heap[b]? = some (.cells cs ty (0, 0))) (i : Nat) (x : Value) : (w.setCell ⟨b, i, none⟩ x).heap[b]? = some (.cells (cs.set! i x) ty (0, 0)) := by
  have hlt := lt_of_block h
  have h' : w.heap[b] = .cells cs ty (0, 0) := by simpa [Array.getElem?_eq_getElem hlt] using h
  show (w.heap.modify b _)[b]? = _
  rw [Array.getElem?_eq_getElem (by simpa using hlt), Array.getElem_modify_self, h']
  rfl
theorem qblk_cell {w : World} {b : Nat} {cs : Array Value} {ty : TypeId} (h : w.heap[b]? = some (.cells cs ty (0, 0))) (i : Nat) (hi : i < cs.size) : w.cell? ⟨b, i, none⟩ = some cs[i] := by simp [World.cell?, h, hi]
theorem ints_neq {w : World} {a : Option Addr} {len q : Nat} {f : Nat → Int} {cs : Array Value} {ty : TypeId} (h : Ints w a len f) (hq : w.heap[q]? = some (.cells cs ty (0, 0))) (hn : ∀ i (h : i < cs.size) n, cs[i] ≠ .int .i64 n) : ∀ b o, a = some ⟨b, o, none⟩ → 0 < len → b < w.heap.size → ¬ b = q := fun b o ha h0 _ e => by
  subst e
  rcases h with h | ⟨b', o', ha', _, hc⟩
  · omega
  · rw [ha] at ha'
    simp only [Option.some.injEq, Addr.mk.injEq, and_true] at ha'
    obtain ⟨rfl, rfl⟩ := ha'
    have := hc 0 h0
    simp only [World.cell?, hq, Nat.add_zero] at this
    rcases Nat.lt_or_ge o cs.size with k | k
    · rw [Array.getElem?_eq_getElem k] at this
      exact hn o k _ (Option.some.inj this)
    · rw [Array.getElem?_eq_none k] at this
      cases this
theorem Bkd.apart {S : Nat → Prop} {w w' : World} {vc vl : Value} {f : Nat → Nat} {len q : Nat} {cs : Array Value} {ty : TypeId} (h : Bkd w vc vl f len) (t : Touch S w w') (hq : w.heap[q]? = some (.cells cs ty (0, 0))) (hn : ∀ i (h : i < cs.size) n, cs[i] ≠ .int .i64 n) (hS : ∀ b, S b → b = q) : Bkd w' vc vl f len := by
  obtain ⟨⟨a, c, h1, h2⟩, ⟨a', c', h3, h4⟩⟩ := h
  exact ⟨⟨a, c, h1, h2.apart t (fun b o e h0 hb hs => ints_neq h2 hq hn b o e h0 hb (hS b hs))⟩, ⟨a', c', h3, h4.apart t (fun b o e h0 hb hs => ints_neq h4 hq hn b o e h0 hb (hS b hs))⟩⟩
theorem qblk_free {w : World} {b : Nat} {cs : Array Value} {ty : TypeId} (h : w.heap[b]? = some (.cells cs ty (0, 0))) (i : Nat) : w.frozen? ⟨b, i, none⟩ = false := by simp [World.frozen?, h]
set_option maxRecDepth 100000 in
set_option maxHeartbeats 8000000 in
theorem fixedCodes_any (w : World) : Calls Tryz.prog 28 #[] w fun e w' => ∃ c1 l1 c2 l2, e = .returned (.agg #[c1, l1, c2, l2]) ∧ Bkd w' c1 l1 Inf.fixL 288 ∧ Bkd w' c2 l2 Inf.fixD 32 ∧ Touch (fun _ => False) w w' := by
  have T0 := hid ((Touch.refl (fun _ => False) w).alloc (.cells #[.slice none 0 0, .slice none 0 0, .slice none 0 0, .slice none 0 0] 72))
  have FB0 := hid (show (w.alloc (.cells #[.slice none 0 0, .slice none 0 0, .slice none 0 0, .slice none 0 0] 72)).heap[w.heap.size]? = some (.cells #[.slice none 0 0, .slice none 0 0, .slice none 0 0, .slice none 0 0] 72 (0, 0)) by
    show (w.heap.push _)[_]? = _
    simp)
  have hwA : w.heap.size < (w.alloc (.cells #[.slice none 0 0, .slice none 0 0, .slice none 0 0, .slice none 0 0] 72)).heap.size := by simp
  obtain ⟨q, hq⟩ : ∃ q, q = w.heap.size := ⟨_, rfl⟩
  rw [← hq] at FB0 hwA
  have HQ := hid hq
  go_enter Tryz.func28, Tryz.ntmps28
  go_wp2_with fail
  rw [← hq]
  clear hq
  generalize w.alloc (.cells #[.slice none 0 0, .slice none 0 0, .slice none 0 0, .slice none 0 0] 72) = wA at *
  refine (fixedL_any wA).mono ?_
  rintro e w1 ⟨a1, p1, rfl, i1, t1⟩
  have K1 := hid (bookOf_ok a1 288 p1 Inf.fixL w1 (by decide) fixL_le i1 err_fixL)
  have T1 := hid t1
  clear i1 t1
  go_wp2_with fail
  refine K1.out.mono ?_
  rintro e w2 ⟨vc1, rfl, bk1, t2⟩
  have B1 := hid bk1
  have T2 := hid (T1.out.trans t2 (fun _ _ e => e))
  obtain ⟨ac1, cc1, hv1, _⟩ := bk1.codes
  subst hv1
  clear bk1 t2 K1
  go_wp2_with fail
  refine (fixedD_any w2).mono ?_
  rintro e w3 ⟨g3, rfl, i3, t3⟩
  have K3 := hid (bookOf_ok (some ⟨g3, 0, none⟩) 32 32 Inf.fixD w3 (by decide) fixD_le i3 err_fixD)
  have B2 := hid (B1.out.new t3)
  have T3 := hid (T2.out.trans t3 (fun _ _ e => e))
  clear i3 t3
  go_wp2_with fail
  refine K3.out.mono ?_
  rintro e w4 ⟨vc2, rfl, bk2, t4⟩
  have B4 := hid bk2
  have B3 := hid (B2.out.new t4)
  have T4 := hid (T3.out.trans t4 (fun _ _ e => e))
  obtain ⟨ac2, cc2, hv2, _⟩ := bk2.codes
  subst hv2
  have fb4 := (T4.out.block q hwA id).trans FB0.out
  have k0 := qblk_cell fb4 0 (by decide)
  have k1 := qblk_cell fb4 1 (by decide)
  have k2 := qblk_cell fb4 2 (by decide)
  have k3 := qblk_cell fb4 3 (by decide)
  have f0 := qblk_free fb4 0
  have f1 := qblk_free fb4 1
  have f2 := qblk_free fb4 2
  have f3 := qblk_free fb4 3
  have FB4 := hid fb4
  clear bk2 t4 K3 fb4
  go_wp2
  have hfb := qblk_set (qblk_set (qblk_set (qblk_set FB4.out 0 (.slice ac1 288 cc1)) 1 (.slice a1 288 p1)) 2 (.slice ac2 32 cc2)) 3 (.slice (some ⟨g3, 0, none⟩) 32 32)
  refine bodyPost_ret (results_c rfl _ _ q 72 _ (0, 0) _ rfl hfb Tryz.underlying72 rfl (by kernel_rfl)) rfl ?_
  have hqw := HQ.out
  have tks := ((((Touch.refl (fun k => k = q) w4).setCell (p := ⟨q, 0, none⟩) (fun _ => rfl) (.slice ac1 288 cc1)).setCell (p := ⟨q, 1, none⟩) (fun _ => rfl) (.slice a1 288 p1)).setCell (p := ⟨q, 2, none⟩) (fun _ => rfl) (.slice ac2 32 cc2)).setCell (p := ⟨q, 3, none⟩) (fun _ => rfl) (.slice (some ⟨g3, 0, none⟩) 32 32)
  have hne : ∀ i (h : i < #[Value.slice none 0 0, .slice none 0 0, .slice none 0 0, .slice none 0 0].size) n, #[Value.slice none 0 0, .slice none 0 0, .slice none 0 0, .slice none 0 0][i] ≠ .int .i64 n := by
    intro i h n e
    have h4 : i < 4 := h
    rcases (show i = 0 ∨ i = 1 ∨ i = 2 ∨ i = 3 by omega) with rfl | rfl | rfl | rfl <;> cases e
  refine ⟨_, _, _, _, rfl, B3.out.apart tks FB4.out hne (fun _ e => e), B4.out.apart tks FB4.out hne (fun _ e => e), (T0.out.trans T4.out (fun _ _ e => e)).trans tks (fun b hb e => ?_)⟩
  omega
set_option maxRecDepth 100000 in
set_option maxHeartbeats 8000000 in
theorem newPast_any (data : ByteArray) (first : Int) (w : World) : Calls Tryz.prog 27 #[.string data, .int .i64 first] w fun e w' => ∃ p, e = .returned (.pointer (some ⟨p, 0, none⟩)) ∧ Touch (fun _ => False) w w' := by
  have hmm := @run_makeMap Tryz.prog
  go_enter Tryz.func27, Tryz.ntmps27
  go_wp2
  go_ret
  exact ⟨_, rfl, ((Touch.refl _ _).alloc _).alloc _⟩
end Go.Proofs.YtffjkceedbblgaaGreatDoor
