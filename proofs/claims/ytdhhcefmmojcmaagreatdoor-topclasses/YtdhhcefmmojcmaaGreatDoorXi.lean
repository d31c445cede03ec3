/- A parser of patterns: a quantifier, if it stands here; conditions: as told. -/
import Derived.Test.YtdhhcefmmojcmaaGreatDoorM18
namespace Go.Proofs.YtdhhcefmmojcmaaGreatDoor
open Go.RowKit
open Go.Lib

theorem nums_val {R : List Int} {k : Nat} {a b : Int} {k1 : Nat} (h : numsF R k = some (a, b, k1)) : 0 ≤ a ∧ -1 ≤ b := by
  unfold numsF at h
  simp only at h
  split at h
  · cases h
  split at h
  · cases h; omega
  split at h
  · split at h
    · cases h; omega
    · split at h
      · cases h
      split at h
      · cases h; omega
      · cases h
  · cases h
theorem bound_val {R : List Int} {k : Nat} {a b : Int} {k1 : Nat} (h : boundF R k = some (a, b, k1)) : 0 ≤ a ∧ -1 ≤ b := by
  unfold boundF at h
  split at h
  · cases h; omega
  split at h
  · cases h; omega
  split at h
  · cases h; omega
  split at h
  · exact nums_val h
  · cases h
def repC (x y : Int) (z : Bool) : Cel := ⟨10, none, 0, 0, false, x, y, z, 0, ⟨#[]⟩, none, 0, 0⟩
/-- What quantifier answers. -/
def QntP (b : Nat) (X : Px) (k : Nat) (f : Fl) (vn : Value) (ns : List ByteArray) (op : Nat) (w : World) : PR (Option (Int × Int × Bool × Nat)) → Ending → World → Prop
  | .error (c, j), e, w' => e = thrown c (lkR X.P j) ∧ Touch (fun g => g = b) w w'
  | .ok none, e, w' => e = .returned (.tuple #[.agg Cel.zero.arr, .bool false]) ∧ PS w' b X k f vn ns op ∧ Touch (fun g => g = b) w w'
  | .ok (some (x, y, z, k1)), e, w' => e = .returned (.tuple #[.agg (repC x y z).arr, .bool true]) ∧ PS w' b X k1 f vn ns op ∧ Touch (fun g => g = b) w w'
theorem PS.row {w : World} {b : Nat} {X : Px} {k : Nat} {f : Fl} {vn : Value} {ns : List ByteArray} {op : Nat} (h : PS w b X k f vn ns op) {q : Nat} {old cs : Array Value} (hq : b < q) (hb : w.heap[q]? = some (.cells old 28 (0, 0))) : PS (w.setRow q cs) b X k f vn ns op :=
  h.far (touch_row w q cs) (fun g e => by subst e; exact ⟨hq, fun cs fr e => by rw [hb] at e; cases e⟩)
set_option maxRecDepth 100000 in
set_option maxHeartbeats 8000000 in
theorem quant_any (b : Nat) (X : Px) (k : Nat) (f : Fl) (vn : Value) (ns : List ByteArray) (op : Nat) (w : World) (h : PS w b X k f vn ns op) (hX : X.Good) (hk : k ≤ X.R.length) :
    Calls Tryz.prog 94 #[.pointer (some ⟨b, 0, none⟩)] w fun e w' => QntP b X k f vn ns op w (quantF X.R f.u k) e w' := by
  have hk2 : k ≤ 1024 := by have := hX.lenR; omega
  have HPL := hid (show k < X.P.length by have := hX.lenP; omega)
  obtain ⟨A, hA⟩ : ∃ A, A = quantF X.R f.u k := ⟨_, rfl⟩
  have HA := hid hA.symm
  rw [← hA]
  clear hA
  unfold quantF at HA
  have TA := hid ((Touch.refl (fun g => g = b) w).alloc (.cells Cel.zero.arr 28))
  have QB := hid (block_new w Cel.zero.arr 28)
  have HP := hid (h.new ((Touch.refl (fun _ => False) w).alloc (.cells Cel.zero.arr 28)))
  have hlt := h.lt
  have KB := hid (fun w' hp => bounds_any b X k f vn ns op w' hp hX hk)
  have HBV := hid (fun (x y : Int) (k1 : Nat) (e : boundF X.R k = some (x, y, k1)) => And.intro (bound_val e) (bound_fwd e).2)
  have HRl := hid hX.lenR
  clear h hk hX
  go_enter Tryz.func94, Tryz.ntmps94
  go_upto_region 1 with fail
  unfold Cel.zero Cel.arr at TA QB HP
  generalize w.alloc (.cells _ 28) = w1 at *
  obtain ⟨q, hq⟩ : ∃ q, q = w.heap.size := ⟨_, rfl⟩
  have HQ := hid (show w.heap.size ≤ q ∧ b < q by omega)
  rw [← hq] at QB ⊢
  clear hq hlt
  have c5 := HP.out.c5
  generalize boundF X.R k = N at *
  match N with
  | none =>
    have HA2 := HA
    go_wp2_with fail
    refine (KB.out _ HP.out).mono ?_
    rintro e w2 ⟨x, y, k1, rfl, hp, tt⟩
    have H2 := hid hp
    have T2 := hid (TA.out.trans tt (fun _ _ e => e))
    have Q2 := hid ((tt.block q (lt_of_block QB.out) (fun e => by have := HQ.out; omega)).trans QB.out)
    have f5 := hp.fr 5
    have d5 := hp.c5
    have H3 := hid (hp.setk k)
    have T3 := hid (T2.out.trans (touch_one w2 b 5 (.int .i64 (k : Nat))) (fun _ _ e => e))
    have Q3 := hid (((touch_one w2 b 5 (.int .i64 (k : Nat))).block q (lt_of_block Q2.out) (fun e => by have := HQ.out; omega)).trans Q2.out)
    clear hp tt KB c5
    go_wp2_with (first | refine wpList_store_row rfl 28 _ _ rfl q _ rfl rfl 28 _ Q3.out info28 (by rfl) (Cel.one Cel.zero) ?_ | fail)
    refine bodyPost_ret (results_ct rfl _ _ q 28 _ (0, 0) _ rfl (setRow_heap _ q _ _ 28 (0, 0) Q3.out) Tryz.underlying28 rfl (by kernel_rfl)) rfl ?_
    rw [← HA.out]
    exact ⟨rfl, H3.out.row HQ.out.2 Q3.out, T3.out.trans (touch_row _ _ _) (fun i hi e => by have := HQ.out; omega)⟩
  | some (x, y, k1) =>
    obtain ⟨⟨hx, hy⟩, hk1⟩ := HBV.out x y k1 rfl
    have hk3 : k1 ≤ 1024 := by have := HRl.out; omega
    simp only at HA
    clear HBV hk1
    by_cases e1 : y = -1
    · subst e1
      have eB : ((-1 : Int) != (-1 : Int)) = false := rfl
      have g0 : ¬ (-1 : Int) > 64 := by omega
      by_cases g1 : x > 64
      · rw [if_pos (by omega)] at HA
        go_wp2_with fail
        refine (KB.out _ HP.out).mono ?_
        rintro e w2 ⟨rfl, hp, tt⟩
        have H2 := hid hp
        have T2 := hid (TA.out.trans tt (fun _ _ e => e))
        have Q2 := hid ((tt.block q (lt_of_block QB.out) (fun e => by have := HQ.out; omega)).trans QB.out)
        clear hp tt KB c5
        have KW := hid (wrong_any b X k1 f vn ns op 23 k w2 H2.out HPL.out)
        go_wp2_with fail
        refine KW.out.mono ?_
        rintro e w3 ⟨rfl, t3⟩
        have T3 := hid (T2.out.trans t3 (fun _ _ e => e.elim))
        clear t3 KW
        go_wp2
        refine ⟨rfl, ?_⟩
        rw [← HA.out]
        exact ⟨rfl, T3.out⟩
      · rw [if_neg (by omega)] at HA
        by_cases h63 : lkR X.R k1 = 63
        · rw [if_pos h63] at HA
          cases hu : f.u
          · rw [hu] at HA
            go_wp2_with fail
            refine (KB.out _ HP.out).mono ?_
            rintro e w2 ⟨rfl, hp, tt⟩
            have H2 := hid hp
            have T2 := hid (TA.out.trans tt (fun _ _ e => e))
            have Q2 := hid ((tt.block q (lt_of_block QB.out) (fun e => by have := HQ.out; omega)).trans QB.out)
            clear hp tt KB c5
            go_wp2_with fail
            refine (took1_y 63 H2.out (by omega) h63).mono ?_
            rintro e w3 ⟨rfl, hp, tt⟩
            have H3 := hid hp
            have T3 := hid (T2.out.trans tt (fun _ _ e => e))
            have Q3 := hid ((tt.block q (lt_of_block Q2.out) (fun e => by have := HQ.out; omega)).trans Q2.out)
            clear hp tt
            have c9 := H3.out.c9
            rw [hu] at c9
            go_wp2_with (first | refine wpList_store_row rfl 28 _ _ rfl q _ rfl rfl 28 _ Q3.out info28 (by rfl) (Cel.one (repC x (-1) true)) ?_ | fail)
            refine bodyPost_ret (results_ct rfl _ _ q 28 _ (0, 0) _ rfl (setRow_heap _ q _ _ 28 (0, 0) Q3.out) Tryz.underlying28 rfl (by kernel_rfl)) rfl ?_
            rw [← HA.out]
            exact ⟨rfl, H3.out.row HQ.out.2 Q3.out, T3.out.trans (touch_row _ _ _) (fun i hi e => by have := HQ.out; omega)⟩
          · rw [hu] at HA
            go_wp2_with fail
            refine (KB.out _ HP.out).mono ?_
            rintro e w2 ⟨rfl, hp, tt⟩
            have H2 := hid hp
            have T2 := hid (TA.out.trans tt (fun _ _ e => e))
            have Q2 := hid ((tt.block q (lt_of_block QB.out) (fun e => by have := HQ.out; omega)).trans QB.out)
            clear hp tt KB c5
            go_wp2_with fail
            refine (took1_y 63 H2.out (by omega) h63).mono ?_
            rintro e w3 ⟨rfl, hp, tt⟩
            have H3 := hid hp
            have T3 := hid (T2.out.trans tt (fun _ _ e => e))
            have Q3 := hid ((tt.block q (lt_of_block Q2.out) (fun e => by have := HQ.out; omega)).trans Q2.out)
            clear hp tt
            have c9 := H3.out.c9
            rw [hu] at c9
            go_wp2_with (first | refine wpList_store_row rfl 28 _ _ rfl q _ rfl rfl 28 _ Q3.out info28 (by rfl) (Cel.one (repC x (-1) false)) ?_ | fail)
            refine bodyPost_ret (results_ct rfl _ _ q 28 _ (0, 0) _ rfl (setRow_heap _ q _ _ 28 (0, 0) Q3.out) Tryz.underlying28 rfl (by kernel_rfl)) rfl ?_
            rw [← HA.out]
            exact ⟨rfl, H3.out.row HQ.out.2 Q3.out, T3.out.trans (touch_row _ _ _) (fun i hi e => by have := HQ.out; omega)⟩
        · rw [if_neg h63] at HA
          cases hu : f.u
          · rw [hu] at HA
            go_wp2_with fail
            refine (KB.out _ HP.out).mono ?_
            rintro e w2 ⟨rfl, hp, tt⟩
            have H2 := hid hp
            have T2 := hid (TA.out.trans tt (fun _ _ e => e))
            have Q2 := hid ((tt.block q (lt_of_block QB.out) (fun e => by have := HQ.out; omega)).trans QB.out)
            clear hp tt KB c5
            go_wp2_with fail
            refine (took1_n 63 H2.out (by omega) h63).mono ?_
            rintro e w3 ⟨rfl, hp, tt⟩
            have H3 := hid hp
            have T3 := hid (T2.out.trans tt (fun _ _ e => e))
            have Q3 := hid ((tt.block q (lt_of_block Q2.out) (fun e => by have := HQ.out; omega)).trans Q2.out)
            clear hp tt
            have c9 := H3.out.c9
            rw [hu] at c9
            go_wp2_with (first | refine wpList_store_row rfl 28 _ _ rfl q _ rfl rfl 28 _ Q3.out info28 (by rfl) (Cel.one (repC x (-1) false)) ?_ | fail)
            refine bodyPost_ret (results_ct rfl _ _ q 28 _ (0, 0) _ rfl (setRow_heap _ q _ _ 28 (0, 0) Q3.out) Tryz.underlying28 rfl (by kernel_rfl)) rfl ?_
            rw [← HA.out]
            exact ⟨rfl, H3.out.row HQ.out.2 Q3.out, T3.out.trans (touch_row _ _ _) (fun i hi e => by have := HQ.out; omega)⟩
          · rw [hu] at HA
            go_wp2_with fail
            refine (KB.out _ HP.out).mono ?_
            rintro e w2 ⟨rfl, hp, tt⟩
            have H2 := hid hp
            have T2 := hid (TA.out.trans tt (fun _ _ e => e))
            have Q2 := hid ((tt.block q (lt_of_block QB.out) (fun e => by have := HQ.out; omega)).trans QB.out)
            clear hp tt KB c5
            go_wp2_with fail
            refine (took1_n 63 H2.out (by omega) h63).mono ?_
            rintro e w3 ⟨rfl, hp, tt⟩
            have H3 := hid hp
            have T3 := hid (T2.out.trans tt (fun _ _ e => e))
            have Q3 := hid ((tt.block q (lt_of_block Q2.out) (fun e => by have := HQ.out; omega)).trans Q2.out)
            clear hp tt
            have c9 := H3.out.c9
            rw [hu] at c9
            go_wp2_with (first | refine wpList_store_row rfl 28 _ _ rfl q _ rfl rfl 28 _ Q3.out info28 (by rfl) (Cel.one (repC x (-1) true)) ?_ | fail)
            refine bodyPost_ret (results_ct rfl _ _ q 28 _ (0, 0) _ rfl (setRow_heap _ q _ _ 28 (0, 0) Q3.out) Tryz.underlying28 rfl (by kernel_rfl)) rfl ?_
            rw [← HA.out]
            exact ⟨rfl, H3.out.row HQ.out.2 Q3.out, T3.out.trans (touch_row _ _ _) (fun i hi e => by have := HQ.out; omega)⟩
    · have eB : (y != (-1 : Int)) = true := by simpa using e1
      by_cases g0 : x > y
      · rw [if_pos (by omega)] at HA
        go_wp2_with fail
        refine (KB.out _ HP.out).mono ?_
        rintro e w2 ⟨rfl, hp, tt⟩
        have H2 := hid hp
        have T2 := hid (TA.out.trans tt (fun _ _ e => e))
        have Q2 := hid ((tt.block q (lt_of_block QB.out) (fun e => by have := HQ.out; omega)).trans QB.out)
        clear hp tt KB c5
        have KW := hid (wrong_any b X k1 f vn ns op 23 k w2 H2.out HPL.out)
        go_wp2_with fail
        refine KW.out.mono ?_
        rintro e w3 ⟨rfl, t3⟩
        have T3 := hid (T2.out.trans t3 (fun _ _ e => e.elim))
        clear t3 KW
        go_wp2
        refine ⟨rfl, ?_⟩
        rw [← HA.out]
        exact ⟨rfl, T3.out⟩
      · by_cases g1 : x > 64
        · rw [if_pos (by omega)] at HA
          go_wp2_with fail
          refine (KB.out _ HP.out).mono ?_
          rintro e w2 ⟨rfl, hp, tt⟩
          have H2 := hid hp
          have T2 := hid (TA.out.trans tt (fun _ _ e => e))
          have Q2 := hid ((tt.block q (lt_of_block QB.out) (fun e => by have := HQ.out; omega)).trans QB.out)
          clear hp tt KB c5
          have KW := hid (wrong_any b X k1 f vn ns op 23 k w2 H2.out HPL.out)
          go_wp2_with fail
          refine KW.out.mono ?_
          rintro e w3 ⟨rfl, t3⟩
          have T3 := hid (T2.out.trans t3 (fun _ _ e => e.elim))
          clear t3 KW
          go_wp2
          refine ⟨rfl, ?_⟩
          rw [← HA.out]
          exact ⟨rfl, T3.out⟩
        · by_cases g2 : y > 64
          · rw [if_pos (by omega)] at HA
            go_wp2_with fail
            refine (KB.out _ HP.out).mono ?_
            rintro e w2 ⟨rfl, hp, tt⟩
            have H2 := hid hp
            have T2 := hid (TA.out.trans tt (fun _ _ e => e))
            have Q2 := hid ((tt.block q (lt_of_block QB.out) (fun e => by have := HQ.out; omega)).trans QB.out)
            clear hp tt KB c5
            have KW := hid (wrong_any b X k1 f vn ns op 23 k w2 H2.out HPL.out)
            go_wp2_with fail
            refine KW.out.mono ?_
            rintro e w3 ⟨rfl, t3⟩
            have T3 := hid (T2.out.trans t3 (fun _ _ e => e.elim))
            clear t3 KW
            go_wp2
            refine ⟨rfl, ?_⟩
            rw [← HA.out]
            exact ⟨rfl, T3.out⟩
          · rw [if_neg (by omega)] at HA
            by_cases h63 : lkR X.R k1 = 63
            · rw [if_pos h63] at HA
              cases hu : f.u
              · rw [hu] at HA
                go_wp2_with fail
                refine (KB.out _ HP.out).mono ?_
                rintro e w2 ⟨rfl, hp, tt⟩
                have H2 := hid hp
                have T2 := hid (TA.out.trans tt (fun _ _ e => e))
                have Q2 := hid ((tt.block q (lt_of_block QB.out) (fun e => by have := HQ.out; omega)).trans QB.out)
                clear hp tt KB c5
                go_wp2_with fail
                refine (took1_y 63 H2.out (by omega) h63).mono ?_
                rintro e w3 ⟨rfl, hp, tt⟩
                have H3 := hid hp
                have T3 := hid (T2.out.trans tt (fun _ _ e => e))
                have Q3 := hid ((tt.block q (lt_of_block Q2.out) (fun e => by have := HQ.out; omega)).trans Q2.out)
                clear hp tt
                have c9 := H3.out.c9
                rw [hu] at c9
                go_wp2_with (first | refine wpList_store_row rfl 28 _ _ rfl q _ rfl rfl 28 _ Q3.out info28 (by rfl) (Cel.one (repC x y true)) ?_ | fail)
                refine bodyPost_ret (results_ct rfl _ _ q 28 _ (0, 0) _ rfl (setRow_heap _ q _ _ 28 (0, 0) Q3.out) Tryz.underlying28 rfl (by kernel_rfl)) rfl ?_
                rw [← HA.out]
                exact ⟨rfl, H3.out.row HQ.out.2 Q3.out, T3.out.trans (touch_row _ _ _) (fun i hi e => by have := HQ.out; omega)⟩
              · rw [hu] at HA
                go_wp2_with fail
                refine (KB.out _ HP.out).mono ?_
                rintro e w2 ⟨rfl, hp, tt⟩
                have H2 := hid hp
                have T2 := hid (TA.out.trans tt (fun _ _ e => e))
                have Q2 := hid ((tt.block q (lt_of_block QB.out) (fun e => by have := HQ.out; omega)).trans QB.out)
                clear hp tt KB c5
                go_wp2_with fail
                refine (took1_y 63 H2.out (by omega) h63).mono ?_
                rintro e w3 ⟨rfl, hp, tt⟩
                have H3 := hid hp
                have T3 := hid (T2.out.trans tt (fun _ _ e => e))
                have Q3 := hid ((tt.block q (lt_of_block Q2.out) (fun e => by have := HQ.out; omega)).trans Q2.out)
                clear hp tt
                have c9 := H3.out.c9
                rw [hu] at c9
                go_wp2_with (first | refine wpList_store_row rfl 28 _ _ rfl q _ rfl rfl 28 _ Q3.out info28 (by rfl) (Cel.one (repC x y false)) ?_ | fail)
                refine bodyPost_ret (results_ct rfl _ _ q 28 _ (0, 0) _ rfl (setRow_heap _ q _ _ 28 (0, 0) Q3.out) Tryz.underlying28 rfl (by kernel_rfl)) rfl ?_
                rw [← HA.out]
                exact ⟨rfl, H3.out.row HQ.out.2 Q3.out, T3.out.trans (touch_row _ _ _) (fun i hi e => by have := HQ.out; omega)⟩
            · rw [if_neg h63] at HA
              cases hu : f.u
              · rw [hu] at HA
                go_wp2_with fail
                refine (KB.out _ HP.out).mono ?_
                rintro e w2 ⟨rfl, hp, tt⟩
                have H2 := hid hp
                have T2 := hid (TA.out.trans tt (fun _ _ e => e))
                have Q2 := hid ((tt.block q (lt_of_block QB.out) (fun e => by have := HQ.out; omega)).trans QB.out)
                clear hp tt KB c5
                go_wp2_with fail
                refine (took1_n 63 H2.out (by omega) h63).mono ?_
                rintro e w3 ⟨rfl, hp, tt⟩
                have H3 := hid hp
                have T3 := hid (T2.out.trans tt (fun _ _ e => e))
                have Q3 := hid ((tt.block q (lt_of_block Q2.out) (fun e => by have := HQ.out; omega)).trans Q2.out)
                clear hp tt
                have c9 := H3.out.c9
                rw [hu] at c9
                go_wp2_with (first | refine wpList_store_row rfl 28 _ _ rfl q _ rfl rfl 28 _ Q3.out info28 (by rfl) (Cel.one (repC x y false)) ?_ | fail)
                refine bodyPost_ret (results_ct rfl _ _ q 28 _ (0, 0) _ rfl (setRow_heap _ q _ _ 28 (0, 0) Q3.out) Tryz.underlying28 rfl (by kernel_rfl)) rfl ?_
                rw [← HA.out]
                exact ⟨rfl, H3.out.row HQ.out.2 Q3.out, T3.out.trans (touch_row _ _ _) (fun i hi e => by have := HQ.out; omega)⟩
              · rw [hu] at HA
                go_wp2_with fail
                refine (KB.out _ HP.out).mono ?_
                rintro e w2 ⟨rfl, hp, tt⟩
                have H2 := hid hp
                have T2 := hid (TA.out.trans tt (fun _ _ e => e))
                have Q2 := hid ((tt.block q (lt_of_block QB.out) (fun e => by have := HQ.out; omega)).trans QB.out)
                clear hp tt KB c5
                go_wp2_with fail
                refine (took1_n 63 H2.out (by omega) h63).mono ?_
                rintro e w3 ⟨rfl, hp, tt⟩
                have H3 := hid hp
                have T3 := hid (T2.out.trans tt (fun _ _ e => e))
                have Q3 := hid ((tt.block q (lt_of_block Q2.out) (fun e => by have := HQ.out; omega)).trans Q2.out)
                clear hp tt
                have c9 := H3.out.c9
                rw [hu] at c9
                go_wp2_with (first | refine wpList_store_row rfl 28 _ _ rfl q _ rfl rfl 28 _ Q3.out info28 (by rfl) (Cel.one (repC x y true)) ?_ | fail)
                refine bodyPost_ret (results_ct rfl _ _ q 28 _ (0, 0) _ rfl (setRow_heap _ q _ _ 28 (0, 0) Q3.out) Tryz.underlying28 rfl (by kernel_rfl)) rfl ?_
                rw [← HA.out]
                exact ⟨rfl, H3.out.row HQ.out.2 Q3.out, T3.out.trans (touch_row _ _ _) (fun i hi e => by have := HQ.out; omega)⟩
end Go.Proofs.YtdhhcefmmojcmaaGreatDoor
