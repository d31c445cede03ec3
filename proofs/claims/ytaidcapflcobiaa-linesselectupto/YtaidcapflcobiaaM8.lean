/- Texts of this proof, one behind the other: what each says stands ahead of it. -/
import Derived.Test.YtaidcapflcobiaaM7
import Derived.Test.YtaidcapflcobiaaM0
import Derived.Test.YtaidcapflcobiaaRows
import Derived.WalkKit
import Derived.ProofKit
import Derived.OpenShut
import Derived.ShutString
import Derived.ChangeOld
import Derived.ChangeMaps5
import Derived.Below
import Derived.SizedLaws
import Derived.Deep.Slices
import Derived.Lib.SmallJoins
import Derived.Deep.CondSized
/- LinesSelect's walk; condition: all fits into memory. -/
namespace Go.Proofs.Ytaidcapflcobiaa
open Go.RowKit

theorem Lg.same {w : World} {a : Option Addr} {l : List R2} {B B' : Nat → List Int} {s : List (Fin l.length)} (h : Lg w a l B s) (hb : ∀ i ∈ s, B' i.1 = B i.1) : Lg w a l B' s := by
  intro j hj
  obtain ⟨b, ak, ck, ha, hbl, h0, h1, h2, h3, h4⟩ := h j hj
  have e := hb s[j] (List.getElem_mem _)
  rw [e]
  exact ⟨b, ak, ck, ha, hbl, h0, h1, h2, h3, h4⟩
theorem sel_mem {l fs : List R2} {inv : Bool} {i : Fin l.length} (h : i ∈ sel l fs inv) : (hitB l fs i.1 != inv) = true := (List.mem_filter.1 h).2
theorem fin_nil {n : Nat} (h : ¬ 0 < n) (s : List (Fin n)) : s = [] := by
  cases s with
  | nil => rfl
  | cons x _ => exact absurd (Nat.lt_of_le_of_lt (Nat.zero_le _) x.2) h
/-- The document's choice is the program's. -/
theorem selP_sel (d : ByteArray) (A : List R2) (hw : Within d.size A) (inv : Bool) : selP (lns d).length (hitR (lns d) A) inv (lns d).length = sel (lns d) A inv := by
  by_cases h : 0 < (lns d).length
  · exact selP_is _ _ (fun x hx => (within_ok d h ⟨(hw x hx).1, (hw x hx).2.1⟩).1) inv
  · rw [fin_nil h (selP _ _ _ _), fin_nil h (sel _ _ _)]
theorem bl_beg (d : ByteArray) (A : List R2) (hw : Within d.size A) (inv : Bool) (i : Fin (lns d).length) (hi : i ∈ sel (lns d) A inv) : begF (lns d) A i.1 = BL (lns d) A inv i.1 := by
  have h : 0 < (lns d).length := Nat.lt_of_le_of_lt (Nat.zero_le _) i.2
  have hm := sel_mem hi
  unfold BL
  cases inv with
  | true =>
    rw [if_pos rfl]
    exact beg_none _ _ _ (by simpa using hm)
  | false =>
    rw [if_neg (by decide), begR_is _ _ (fun x hx => (within_ok d h ⟨(hw x hx).1, (hw x hx).2.1⟩).1)]
theorem bl_len (l A : List R2) (inv : Bool) (i : Nat) : (BL l A inv i).length ≤ A.length := by
  unfold BL
  split
  · exact Nat.zero_le _
  · exact begR_len _ _ _
theorem sel_len (l A : List R2) (inv : Bool) : (sel l A inv).length ≤ l.length := selU_len l A inv _ (Nat.le_refl _)

set_option maxRecDepth 100000 in
set_option maxHeartbeats 8000000 in
theorem linesSelect_walk (d : ByteArray) (a1 : Option Addr) (c1 : Nat) (ps : List R2) (w : World) (hd : d.size ≤ 1048576) (hl : Rg w a1 ps) (hb : ps.length ≤ 1048576) :
    Calls Try.prog 7 #[.string d, .slice a1 ps.length c1] w fun e w' => e = .returned (.bool true) ∧ Below w.heap.size w w' := by
  obtain ⟨i0, hi27, hz0, hz1, hz2⟩ := info_parts info27
  obtain ⟨j0, hi33, hy0, hy1, hy2⟩ := info_parts info33
  have hln := lns_len d
  have HL := hid hl
  clear hl
  have hmn : ps.length * d.size ≤ 1048576 * 1048576 := Nat.mul_le_mul hb hd
  obtain ⟨M, hM⟩ : ∃ M, M = ps.length * d.size := ⟨_, rfl⟩
  have hMI : (ps.length : Int) * (d.size : Int) = (M : Int) := by rw [hM]; exact (Int.natCast_mul _ _).symm
  rw [← hM] at hmn
  clear hM
  go_enter Try.func7, Try.ntmps7
  go_wp2_with fail
  refine (speaks_yes w).mono ?_
  rintro e w1 ⟨rfl, t1⟩
  have T1 := hid t1
  have R1 := hid (HL.out.new t1)
  clear t1 HL
  by_cases hbig : (16777216 : Int) < (M : Int)
  · go_wp2
    go_ret
    exact ⟨rfl, T1.out.below _ (Nat.le_refl _) (fun _ e => e.elim)⟩
  · go_wp2_with fail
    go_loopg [5, 6, 7, 8] ps.length (fun gk v u f i wr => ∃ k : Nat, k + gk = ps.length ∧ i = .int .i64 (k : Nat) ∧ f = .int .i64 (spF 1024 d.size (ps.take k)).1 ∧ OwE w1 wr 27 v (spF 1024 d.size (ps.take k)).2 ∧ OwE w1 wr 33 u (spF 1024 d.size (ps.take k)).2)
    case atStart => exact ⟨0, by omega, rfl, rfl, OwE.nil _ _, OwE.nil _ _⟩
    case round =>
      obtain ⟨k, hk, rfl, rfl, how1, how2⟩ := hrel
      have O1 := hid how1
      have O2 := hid how2
      obtain ⟨a4, c4, hv4⟩ := own_shape how1.own
      obtain ⟨a5, c5, hv5⟩ := own_shape how2.own
      subst hv4 hv5
      clear how1 how2
      have hwi := spF_within 1024 (by omega) d.size (ps.take k)
      by_cases hlt : k < ps.length
      · obtain ⟨b, o, ha, hbl, hcell⟩ : ∃ b o, a1 = some ⟨b, o, none⟩ ∧ b < wr.heap.size ∧ ∀ i (h : i < ps.length), wr.cell? ⟨b, o + i * 2, none⟩ = some (.int .i64 (ps[i]).1) ∧ wr.cell? ⟨b, o + i * 2 + 1, none⟩ = some (.int .i64 (ps[i]).2) := by
          rcases R1.out.new O1.out.touch with h | h
          · rw [h] at hlt; simp at hlt
          · exact h
        subst ha
        obtain ⟨d0, d1⟩ := hcell k hlt
        have HT := hid (show spF 1024 d.size (ps.take (k + 1)) = spStep 1024 d.size (spF 1024 d.size (ps.take k)) ps[k] from by rw [List.take_succ_eq_append_getElem hlt, spF_snoc])
        obtain ⟨r, hr⟩ : ∃ r, r = ps[k] := ⟨_, rfl⟩
        rw [← hr] at d0 d1 HT
        obtain ⟨x, y⟩ := r
        dsimp only at d0 d1
        have hax := and1023 x
        have hay := and1023 y
        have hx0 := Int.emod_nonneg x (show (1024 : Int) ≠ 0 by decide)
        have hx1 := Int.emod_lt_of_pos x (show (0 : Int) < 1024 by decide)
        have hy0' := Int.emod_nonneg y (show (1024 : Int) ≠ 0 by decide)
        have hy1' := Int.emod_lt_of_pos y (show (0 : Int) < 1024 by decide)
        have hkI : (k : Int) < (ps.length : Int) := by omega
        obtain ⟨sp, hsp⟩ : ∃ sp, sp = spF 1024 d.size (ps.take k) := ⟨_, rfl⟩
        rw [← hsp] at O1 O2 HT hwi ⊢
        clear hcell hr hsp
        obtain ⟨f, s⟩ := sp
        dsimp only at O1 O2 hwi ⊢
        have hf0 := hwi.1
        have hf1 := hwi.2.1
        have hsl : s.length ≤ 1048576 := by rw [hwi.2.2.2, List.length_take]; omega
        clear hwi
        obtain ⟨xm, hxm⟩ : ∃ xm, xm = x % 1024 := ⟨_, rfl⟩
        obtain ⟨ym, hym⟩ : ∃ ym, ym = y % 1024 := ⟨_, rfl⟩
        unfold spStep at HT
        dsimp only at HT
        rw [← hxm] at hax hx0 hx1 HT
        rw [← hym] at hay hy0' hy1' HT
        clear hxm hym
        go_wp2_with fail
        go_quiet (fail)
        replace O1 := hid (O1.out.still ((Touch.refl _ _).drewN nq))
        replace O2 := hid (O2.out.still ((Touch.refl _ _).drewN nq))
        clear d0 d1 hax hay
        generalize wr.drewN nq = w8 at *
        by_cases hA : f + xm ≤ d.size
        · by_cases hB : f + xm + ym ≤ d.size
          · skip
            go_wp2_with (at_builtin; refine wpList_append_own_at _ rfl _ _ 23 rfl 0 27 i0 (.agg #[.int .i64 0, .int .i64 0]) 2 16 Try.underlying23 hi27 hz0 hz1 hz2 rfl (by decide) _ _ _ rfl (O1.out.own.alloc _) ⟨w8.heap.size, 0, none⟩ 1 1 [.int .i64 (f + xm), .int .i64 (f + xm + ym)] rfl rfl (row_new w8 [.int .i64 (f + xm), .int .i64 (f + xm + ym)] 27) (by intro u hu; simp at hu; rcases hu with rfl | rfl <;> rfl) (by unfold maxLen; omega) (by omega) (Nat.zero_le _) ?_)
            intro v6 w6 hown hgrow _ hat
            have P1 := hid (O1.out.more (xs := [(f + xm, f + xm + ym)]) hown hgrow hat)
            have P2 := hid (O2.out.beside O1.out (by decide) hgrow)
            clear hown hgrow hat
            obtain ⟨a6, c6, hv6⟩ := own_shape P1.out.own
            subst hv6
            go_wp2_with (at_builtin; refine wpList_append_own_at _ rfl _ _ 29 rfl 0 33 j0 (.agg #[.int .i64 0, .int .i64 0]) 2 16 Try.underlying29 hi33 hy0 hy1 hy2 rfl (by decide) _ _ _ rfl (P2.out.own.alloc _) ⟨w6.heap.size, 0, none⟩ 1 1 [.int .i64 (f + xm), .int .i64 (f + xm + ym)] rfl rfl (row_new w6 [.int .i64 (f + xm), .int .i64 (f + xm + ym)] 33) (by intro u hu; simp at hu; rcases hu with rfl | rfl <;> rfl) (by unfold maxLen; omega) (by omega) (Nat.zero_le _) ?_)
            intro v7 w7 hown hgrow _ hat
            have Q2 := hid (P2.out.more (xs := [(f + xm, f + xm + ym)]) hown hgrow hat)
            have Q1 := hid (P1.out.beside P2.out (by decide) hgrow)
            clear hown hgrow hat
            go_wp2
            go_roundg (gk - 1)
            case measure => omega
            case rel =>
              refine ⟨k + 1, by omega, by go_num, ?_, ?_, ?_⟩
              · rw [HT.out]
                exact congrArg (Value.int .i64) (by dsimp only; omega)
              · rw [HT.out]
                dsimp only
                rw [show min (f + xm) (d.size : Int) = f + xm by omega, show min (f + xm + ym) (d.size : Int) = f + xm + ym by omega]
                have := Q1.out
                rw [List.length_append] at this
                exact this
              · rw [HT.out]
                dsimp only
                rw [show min (f + xm) (d.size : Int) = f + xm by omega, show min (f + xm + ym) (d.size : Int) = f + xm + ym by omega]
                exact Q2.out
          · skip
            go_wp2_with (at_builtin; refine wpList_append_own_at _ rfl _ _ 23 rfl 0 27 i0 (.agg #[.int .i64 0, .int .i64 0]) 2 16 Try.underlying23 hi27 hz0 hz1 hz2 rfl (by decide) _ _ _ rfl (O1.out.own.alloc _) ⟨w8.heap.size, 0, none⟩ 1 1 [.int .i64 (f + xm), .int .i64 ((d.size : Int))] rfl rfl (row_new w8 [.int .i64 (f + xm), .int .i64 ((d.size : Int))] 27) (by intro u hu; simp at hu; rcases hu with rfl | rfl <;> rfl) (by unfold maxLen; omega) (by omega) (Nat.zero_le _) ?_)
            intro v6 w6 hown hgrow _ hat
            have P1 := hid (O1.out.more (xs := [(f + xm, (d.size : Int))]) hown hgrow hat)
            have P2 := hid (O2.out.beside O1.out (by decide) hgrow)
            clear hown hgrow hat
            obtain ⟨a6, c6, hv6⟩ := own_shape P1.out.own
            subst hv6
            go_wp2_with (at_builtin; refine wpList_append_own_at _ rfl _ _ 29 rfl 0 33 j0 (.agg #[.int .i64 0, .int .i64 0]) 2 16 Try.underlying29 hi33 hy0 hy1 hy2 rfl (by decide) _ _ _ rfl (P2.out.own.alloc _) ⟨w6.heap.size, 0, none⟩ 1 1 [.int .i64 (f + xm), .int .i64 ((d.size : Int))] rfl rfl (row_new w6 [.int .i64 (f + xm), .int .i64 ((d.size : Int))] 33) (by intro u hu; simp at hu; rcases hu with rfl | rfl <;> rfl) (by unfold maxLen; omega) (by omega) (Nat.zero_le _) ?_)
            intro v7 w7 hown hgrow _ hat
            have Q2 := hid (P2.out.more (xs := [(f + xm, (d.size : Int))]) hown hgrow hat)
            have Q1 := hid (P1.out.beside P2.out (by decide) hgrow)
            clear hown hgrow hat
            go_wp2
            go_roundg (gk - 1)
            case measure => omega
            case rel =>
              refine ⟨k + 1, by omega, by go_num, ?_, ?_, ?_⟩
              · rw [HT.out]
                exact congrArg (Value.int .i64) (by dsimp only; omega)
              · rw [HT.out]
                dsimp only
                rw [show min (f + xm) (d.size : Int) = f + xm by omega, show min (f + xm + ym) (d.size : Int) = (d.size : Int) by omega]
                have := Q1.out
                rw [List.length_append] at this
                exact this
              · rw [HT.out]
                dsimp only
                rw [show min (f + xm) (d.size : Int) = f + xm by omega, show min (f + xm + ym) (d.size : Int) = (d.size : Int) by omega]
                exact Q2.out
        · by_cases hB : (d.size : Int) + ym ≤ d.size
          · skip
            go_wp2_with (at_builtin; refine wpList_append_own_at _ rfl _ _ 23 rfl 0 27 i0 (.agg #[.int .i64 0, .int .i64 0]) 2 16 Try.underlying23 hi27 hz0 hz1 hz2 rfl (by decide) _ _ _ rfl (O1.out.own.alloc _) ⟨w8.heap.size, 0, none⟩ 1 1 [.int .i64 ((d.size : Int)), .int .i64 ((d.size : Int) + ym)] rfl rfl (row_new w8 [.int .i64 ((d.size : Int)), .int .i64 ((d.size : Int) + ym)] 27) (by intro u hu; simp at hu; rcases hu with rfl | rfl <;> rfl) (by unfold maxLen; omega) (by omega) (Nat.zero_le _) ?_)
            intro v6 w6 hown hgrow _ hat
            have P1 := hid (O1.out.more (xs := [((d.size : Int), (d.size : Int) + ym)]) hown hgrow hat)
            have P2 := hid (O2.out.beside O1.out (by decide) hgrow)
            clear hown hgrow hat
            obtain ⟨a6, c6, hv6⟩ := own_shape P1.out.own
            subst hv6
            go_wp2_with (at_builtin; refine wpList_append_own_at _ rfl _ _ 29 rfl 0 33 j0 (.agg #[.int .i64 0, .int .i64 0]) 2 16 Try.underlying29 hi33 hy0 hy1 hy2 rfl (by decide) _ _ _ rfl (P2.out.own.alloc _) ⟨w6.heap.size, 0, none⟩ 1 1 [.int .i64 ((d.size : Int)), .int .i64 ((d.size : Int) + ym)] rfl rfl (row_new w6 [.int .i64 ((d.size : Int)), .int .i64 ((d.size : Int) + ym)] 33) (by intro u hu; simp at hu; rcases hu with rfl | rfl <;> rfl) (by unfold maxLen; omega) (by omega) (Nat.zero_le _) ?_)
            intro v7 w7 hown hgrow _ hat
            have Q2 := hid (P2.out.more (xs := [((d.size : Int), (d.size : Int) + ym)]) hown hgrow hat)
            have Q1 := hid (P1.out.beside P2.out (by decide) hgrow)
            clear hown hgrow hat
            go_wp2
            go_roundg (gk - 1)
            case measure => omega
            case rel =>
              refine ⟨k + 1, by omega, by go_num, ?_, ?_, ?_⟩
              · rw [HT.out]
                exact congrArg (Value.int .i64) (by dsimp only; omega)
              · rw [HT.out]
                dsimp only
                rw [show min (f + xm) (d.size : Int) = (d.size : Int) by omega, show min ((d.size : Int) + ym) (d.size : Int) = (d.size : Int) + ym by omega]
                have := Q1.out
                rw [List.length_append] at this
                exact this
              · rw [HT.out]
                dsimp only
                rw [show min (f + xm) (d.size : Int) = (d.size : Int) by omega, show min ((d.size : Int) + ym) (d.size : Int) = (d.size : Int) + ym by omega]
                exact Q2.out
          · skip
            go_wp2_with (at_builtin; refine wpList_append_own_at _ rfl _ _ 23 rfl 0 27 i0 (.agg #[.int .i64 0, .int .i64 0]) 2 16 Try.underlying23 hi27 hz0 hz1 hz2 rfl (by decide) _ _ _ rfl (O1.out.own.alloc _) ⟨w8.heap.size, 0, none⟩ 1 1 [.int .i64 ((d.size : Int)), .int .i64 ((d.size : Int))] rfl rfl (row_new w8 [.int .i64 ((d.size : Int)), .int .i64 ((d.size : Int))] 27) (by intro u hu; simp at hu; rcases hu with rfl | rfl <;> rfl) (by unfold maxLen; omega) (by omega) (Nat.zero_le _) ?_)
            intro v6 w6 hown hgrow _ hat
            have P1 := hid (O1.out.more (xs := [((d.size : Int), (d.size : Int))]) hown hgrow hat)
            have P2 := hid (O2.out.beside O1.out (by decide) hgrow)
            clear hown hgrow hat
            obtain ⟨a6, c6, hv6⟩ := own_shape P1.out.own
            subst hv6
            go_wp2_with (at_builtin; refine wpList_append_own_at _ rfl _ _ 29 rfl 0 33 j0 (.agg #[.int .i64 0, .int .i64 0]) 2 16 Try.underlying29 hi33 hy0 hy1 hy2 rfl (by decide) _ _ _ rfl (P2.out.own.alloc _) ⟨w6.heap.size, 0, none⟩ 1 1 [.int .i64 ((d.size : Int)), .int .i64 ((d.size : Int))] rfl rfl (row_new w6 [.int .i64 ((d.size : Int)), .int .i64 ((d.size : Int))] 33) (by intro u hu; simp at hu; rcases hu with rfl | rfl <;> rfl) (by unfold maxLen; omega) (by omega) (Nat.zero_le _) ?_)
            intro v7 w7 hown hgrow _ hat
            have Q2 := hid (P2.out.more (xs := [((d.size : Int), (d.size : Int))]) hown hgrow hat)
            have Q1 := hid (P1.out.beside P2.out (by decide) hgrow)
            clear hown hgrow hat
            go_wp2
            go_roundg (gk - 1)
            case measure => omega
            case rel =>
              refine ⟨k + 1, by omega, by go_num, ?_, ?_, ?_⟩
              · rw [HT.out]
                exact congrArg (Value.int .i64) (by dsimp only; omega)
              · rw [HT.out]
                dsimp only
                rw [show min (f + xm) (d.size : Int) = (d.size : Int) by omega, show min ((d.size : Int) + ym) (d.size : Int) = (d.size : Int) by omega]
                have := Q1.out
                rw [List.length_append] at this
                exact this
              · rw [HT.out]
                dsimp only
                rw [show min (f + xm) (d.size : Int) = (d.size : Int) by omega, show min ((d.size : Int) + ym) (d.size : Int) = (d.size : Int) by omega]
                exact Q2.out
      · obtain rfl : k = ps.length := by omega
        rw [List.take_length] at O1 O2 hwi
        rw [List.take_length]
        obtain ⟨A, hA⟩ : ∃ A, A = (spF 1024 d.size ps).2 := ⟨_, rfl⟩
        rw [← hA] at O1 O2 hwi ⊢
        have HW := hid hwi.2.2.1
        have hAl : A.length ≤ 1048576 := by rw [hwi.2.2.2]; omega
        clear hA hwi
        have HIN := hid (show ∀ x ∈ A, 0 ≤ x.2 ∧ x.2 ≤ 4194304 from fun x hx => by have := HW.out x hx; omega)
        obtain ⟨_, _, hv, hr⟩ := O1.out.rg
        simp only [Value.slice.injEq] at hv
        obtain ⟨rfl, _, rfl⟩ := hv
        have RA := hid hr
        obtain ⟨_, _, hv, hr⟩ := O2.out.rg
        simp only [Value.slice.injEq] at hv
        obtain ⟨rfl, _, rfl⟩ := hv
        have RB := hid hr
        have T2 := hid (T1.out.trans O1.out.touch (fun _ _ e => e))
        clear O1 O2 hr R1 T1
        have K := hid (select_any d (by omega) a4 c4 A false wr RA.out (by omega) HIN.out)
        go_wp2_with fail
        refine K.out.mono ?_
        rintro e w20 ⟨la, lc, rfl, hlg, t3⟩
        have G1 := hid (hlg.same (B' := BL (lns d) A false) (fun i hi => (bl_beg d A HW.out false i hi).symm))
        replace T2 := hid (T2.out.trans t3 (fun _ _ e => e))
        replace RA := hid (RA.out.new t3)
        replace RB := hid (RB.out.new t3)
        clear K hlg t3
        have K := hid (show Calls Try.prog 15 #[.string d, .slice a5 A.length c5, .bool false] w20 fun e w' => ∃ a c, e = .returned (.slice a (sel (lns d) A false).length c) ∧ Lg w' a (lns d) (BL (lns d) A false) (sel (lns d) A false) ∧ Touch (fun _ => False) w20 w' from by
          have := rselect_any d (by omega) a5 c5 A false w20 RB.out (by omega) HIN.out
          rw [selP_sel d A HW.out false] at this
          exact this)
        go_wp2_with fail
        refine K.out.mono ?_
        rintro e w21 ⟨ma, mc, rfl, hlg, t4⟩
        have G2 := hid hlg
        replace G1 := hid (G1.out.new t4)
        replace T2 := hid (T2.out.trans t4 (fun _ _ e => e))
        replace RA := hid (RA.out.new t4)
        replace RB := hid (RB.out.new t4)
        clear K hlg t4
        have K := hid (same_any la ma lc mc (lns d) (BL (lns d) A false) (sel (lns d) A false) w21 G1.out G2.out (Nat.le_trans (sel_len _ _ _) (by omega)) (fun i => Nat.le_trans (bl_len _ _ _ _) (by omega)))
        go_wp2_with fail
        refine K.out.mono ?_
        rintro e w22 ⟨rfl, t5⟩
        replace T2 := hid (T2.out.trans t5 (fun _ _ e => e))
        replace RA := hid (RA.out.new t5)
        replace RB := hid (RB.out.new t5)
        clear K t5 G1 G2
        have K := hid (select_any d (by omega) a4 c4 A true w22 RA.out (by omega) HIN.out)
        go_wp2_with fail
        refine K.out.mono ?_
        rintro e w30 ⟨la, lc, rfl, hlg, t3⟩
        have G1 := hid (hlg.same (B' := BL (lns d) A true) (fun i hi => (bl_beg d A HW.out true i hi).symm))
        replace T2 := hid (T2.out.trans t3 (fun _ _ e => e))
        replace RA := hid (RA.out.new t3)
        replace RB := hid (RB.out.new t3)
        clear K hlg t3
        have K := hid (show Calls Try.prog 15 #[.string d, .slice a5 A.length c5, .bool true] w30 fun e w' => ∃ a c, e = .returned (.slice a (sel (lns d) A true).length c) ∧ Lg w' a (lns d) (BL (lns d) A true) (sel (lns d) A true) ∧ Touch (fun _ => False) w30 w' from by
          have := rselect_any d (by omega) a5 c5 A true w30 RB.out (by omega) HIN.out
          rw [selP_sel d A HW.out true] at this
          exact this)
        go_wp2_with fail
        refine K.out.mono ?_
        rintro e w31 ⟨ma, mc, rfl, hlg, t4⟩
        have G2 := hid hlg
        replace G1 := hid (G1.out.new t4)
        replace T2 := hid (T2.out.trans t4 (fun _ _ e => e))
        replace RA := hid (RA.out.new t4)
        replace RB := hid (RB.out.new t4)
        clear K hlg t4
        have K := hid (same_any la ma lc mc (lns d) (BL (lns d) A true) (sel (lns d) A true) w31 G1.out G2.out (Nat.le_trans (sel_len _ _ _) (by omega)) (fun i => Nat.le_trans (bl_len _ _ _ _) (by omega)))
        go_wp2_with fail
        refine K.out.mono ?_
        rintro e w32 ⟨rfl, t5⟩
        replace T2 := hid (T2.out.trans t5 (fun _ _ e => e))
        replace RA := hid (RA.out.new t5)
        replace RB := hid (RB.out.new t5)
        clear K t5 G1 G2
        go_wp2
        go_ret
        exact ⟨rfl, T2.out.below _ (Nat.le_refl _) (fun _ e => e.elim)⟩
end Go.Proofs.Ytaidcapflcobiaa

/- What the laws' frames want, and a list of pairs that a call is handed; no condition. -/
namespace Go.Proofs.Ytaidcapflcobiaa
open Go.ChangeShapes Go.WideShapes Go.ChangeAt Go.RowKit Go.Deep Go.Joins

theorem own : ownKnob Try.prog.godebug = none := by kernel_rfl
theorem laidOut : laidOutB Try.prog = true := by kernel_rfl
theorem tc3 : Try.prog.cellsOf 3 = 1 := by kernel_rfl
theorem cells36 : Try.prog.cellsOf 36 = 2 := by kernel_rfl
theorem two_of {l : List Value} (h : l.length = 2) : ∃ a b, l = [a, b] := by
  match l, h with
  | [a, b], _ => exact ⟨a, b, rfl⟩
def rangeD {H : Type} (q : R2) : DataW H := .agg [.lit (.int .i64 q.1), .lit (.int .i64 q.2)]
theorem open_pairs {H : Type} {enc : TypeId × Value → H} {W : World} {a : Option Addr} {len cap : Nat} {d : DataW H} {p : List MemPlace}
    (h : DataW.Trod enc Try.prog W 0 (fun _ => true) true 35 (.slice a len cap) d p) :
    (a = none ∧ len = 0 ∧ cap = 0 ∧ d = .nil) ∨ ∃ (x : Addr) (q : Nat → R2) (sp : List (DataW H)), a = some x ∧ len ≤ cap ∧ sp.length = cap - len ∧
      d = .slice ((List.range len).map fun i => rangeD (q i)) sp ∧
      ∀ i, i < len → W.cell? (x.add (i * 2)) = some (.int .i64 (q i).1) ∧ W.cell? (x.add (i * 2 + 1)) = some (.int .i64 (q i).2) := by
  obtain ⟨fuel, hf⟩ := h
  rcases open_slice Try.underlying35 hf with ⟨hcs, hx⟩ | ⟨x, l, c, m, n, D, Pl, hcs, _, hl, _, hmm, hx, hel⟩
  · simp [Value.cells] at hcs
    obtain ⟨rfl, rfl, rfl⟩ := hcs
    simp only [Prod.mk.injEq] at hx
    exact .inl ⟨rfl, rfl, rfl, hx.1⟩
  · simp [Value.cells] at hcs
    obtain ⟨rfl, rfl, rfl⟩ := hcs
    simp only [Prod.mk.injEq] at hx
    have each : ∀ i, i < len → ∃ q : R2, D i = rangeD q ∧ W.cell? (x.add (i * 2)) = some (.int .i64 q.1) ∧ W.cell? (x.add (i * 2 + 1)) = some (.int .i64 q.2) := by
      intro i hi
      obtain ⟨cs', h1, h2⟩ := hel i (by rw [hmm]; simp; omega)
      rw [cells36] at h1
      obtain ⟨_, hlen, hcell⟩ := World.cells?_some h1
      obtain ⟨xs, k, _, hy, _, hxl, hall⟩ := DataW.trod_array Try.underlying36 h2
      obtain ⟨v0, v1, rfl⟩ := two_of hlen
      have e0 := hcell 0 (by omega)
      have e1 := hcell 1 (by omega)
      rw [add_add] at e0 e1
      have g0 := hall 0 (by decide)
      have g1 := hall 1 (by decide)
      match xs, hxl, hy, g0, g1 with
      | [y0, y1], _, hy, g0, g1 =>
        simp only [tc3, Nat.zero_mul, Nat.one_mul, List.drop_zero, List.drop_succ_cons, List.take_succ_cons, List.take_zero, List.getElem?_cons_zero, List.getElem?_cons_succ] at g0 g1
        obtain ⟨a, ha, ya, _⟩ := DataW.trod_int Try.underlying3 g0
        obtain ⟨n', hn, yn, _⟩ := DataW.trod_int Try.underlying3 g1
        simp only [List.cons.injEq, and_true] at ha hn
        subst ha hn ya yn
        simp only [Prod.mk.injEq] at hy
        exact ⟨(a, n'), by simpa [rangeD] using hy.1, by simpa using e0, by simpa using e1⟩
    obtain ⟨q, hq⟩ := choose_lt each
    refine .inr ⟨x, q, (List.range (m - len)).map fun j => D (len + j), rfl, hl, ?_, ?_, fun i hi => (hq i hi).2⟩
    · simp [hmm]
    · rw [hx.1]
      congr 1
      apply List.map_congr_left
      intro i hi
      exact (hq i (by simpa using hi)).1
theorem rg_of {w : World} {x : Addr} {len : Nat} {q : Nat → R2} (h : ∀ i, i < len → w.cell? (x.add (i * 2)) = some (.int .i64 (q i).1) ∧ w.cell? (x.add (i * 2 + 1)) = some (.int .i64 (q i).2)) :
    Rg w (some x) ((List.range len).map q) := by
  by_cases h0 : len = 0
  · subst h0
    exact .inl rfl
  · obtain ⟨b, off, spot⟩ := x
    have hspot : spot = none := by simpa [Addr.add] using World.cell?_spot (h 0 (by omega)).1
    subst hspot
    have e : ∀ j, (⟨b, off, none⟩ : Addr).add j = ⟨b, off + j, none⟩ := by intro j; unfold Addr.add; split <;> simp_all
    refine .inr ⟨b, off, rfl, ?_, fun i hi => ?_⟩
    · have hb := World.block_lt_of_cell? w _ (h 0 (by omega)).1
      rw [e] at hb
      exact hb
    · have hi' : i < len := by simpa using hi
      have := h i hi'
      simp only [e] at this
      simpa [Nat.add_assoc] using this
theorem bulk_ranges {H : Type} (q : Nat → R2) : ∀ l : List Nat, l.length ≤ Rows.uptoBulkAll (H := H) (l.map fun i => rangeD (q i))
  | [] => Nat.zero_le _
  | x :: l => by
    have := bulk_ranges (H := H) q l
    rw [List.map_cons, Rows.uptoBulkAll, List.length_cons]
    have h1 : 1 ≤ Rows.uptoBulk (H := H) (rangeD (q x)) := by
      unfold rangeD
      rw [Rows.uptoBulk]
      omega
    omega
end Go.Proofs.Ytaidcapflcobiaa
