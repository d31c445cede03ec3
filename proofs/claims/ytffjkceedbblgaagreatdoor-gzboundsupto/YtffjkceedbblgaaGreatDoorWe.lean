/- GzBounds' walk; conditions: the texts have at most 1048576 bytes together, the table of the sums lies there. -/
import Derived.Test.YtffjkceedbblgaaGreatDoorWd
namespace Go.Proofs.YtffjkceedbblgaaGreatDoor
open Go.RowKit
open Go.Lib
open Gz

/-- Texts in memory. -/
def Ts (w : World) (v : Value) (ts : List ByteArray) : Prop :=
  ∃ a c, v = .slice a ts.length c ∧ (ts = [] ∨ ∃ b o, a = some ⟨b, o, none⟩ ∧ b < w.heap.size ∧ ∀ j (h : j < ts.length), w.cell? ⟨b, o + j, none⟩ = some (.string ts[j]))
theorem pn_of {w : World} {e : TypeId} {v : Value} {ds : List ByteArray} (h : w.ownsRow 0 e 9 v (ds.map plainP).length (flatP (ds.map plainP))) (h0 : ds ≠ []) : ∃ b c, v = .slice (some ⟨b, 0, none⟩) ds.length c ∧ Pn w b ds := by
  obtain ⟨a, c, hv, hp⟩ := own_pls h
  rw [List.length_map] at hv
  rcases hp with hp | ⟨b, rfl, hb, hc⟩
  · exact absurd (List.map_eq_nil_iff.1 hp) h0
  · refine ⟨b, c, hv, hb, fun i hi => ?_⟩
    have k : ∀ j, j < 9 → w.cell? ⟨b, i * 9 + j, none⟩ = (plainC ds[i])[j]? := fun j hj => by
      rw [hc i (by rw [List.length_map]; exact hi) j hj, List.getElem_map]
      rfl
    have k0 := k 0 (by omega)
    rw [Nat.add_zero] at k0
    exact ⟨k0, k 1 (by omega), k 2 (by omega), k 3 (by omega), k 4 (by omega), k 5 (by omega), k 6 (by omega), k 7 (by omega), k 8 (by omega)⟩
theorem tot_take (ts : List ByteArray) (k : Nat) (h : k < ts.length) : tot (ts.take (k + 1)) = tot (ts.take k) + (ts[k]).size := by
  unfold tot
  rw [List.take_succ_eq_append_getElem h, List.map_append, List.sum_append]
  simp
theorem tot_le (ts : List ByteArray) (k : Nat) : tot (ts.take k) ≤ tot ts := by
  have : tot ts = tot (ts.take k) + tot (ts.drop k) := by
    unfold tot
    rw [← List.sum_append, ← List.map_append, List.take_append_drop]
  omega
theorem tot_mem : ∀ (ts : List ByteArray) (d : ByteArray), d ∈ ts → d.size ≤ tot ts
  | x :: ts, d, h => by
    rw [tot_cons]
    rcases List.mem_cons.1 h with rfl | h
    · omega
    · have := tot_mem ts d h
      omega
theorem FB_size : ∀ ds : List ByteArray, tot ds ≤ 1048576 → (FB ds).size ≤ ds.length * 4194304
  | [], _ => Nat.le_refl _
  | d :: r, h => by
    rw [tot_cons] at h
    have ih := FB_size r (by omega)
    have h1 := partB_len d (by omega)
    rw [FB_cons, ByteArray.size_append, ← oneF_is, List.length_cons]
    have : (⟨(partB d).toArray⟩ : ByteArray).size = (partB d).length := by
      show (partB d).toArray.size = _
      simp
    omega
set_option maxRecDepth 100000 in
set_option maxHeartbeats 4000000 in
theorem write_nil (a : Option Addr) (c : Nat) (w : World) : Calls Tryz.prog 8 #[.slice a 0 c, .slice none 0 0] w fun e w' => e = .returned (.tuple #[.string ⟨#[]⟩, .int .i64 1]) ∧ Touch (fun _ => False) w w' := by
  go_enter Tryz.func8, Tryz.ntmps8
  go_wp2
  refine bodyPost_ret (results_tmp2 rfl _ _ _) rfl ?_
  exact ⟨rfl, Touch.refl _ _⟩
set_option maxRecDepth 100000 in
set_option maxHeartbeats 8000000 in
theorem gzBounds_walk (v : Value) (ts : List ByteArray) (w : World) (hq : Quart w) (hN : Ts w v ts) (hn : ts.length ≤ 1048576) (hs : tot ts ≤ 1048576) :
    Calls Tryz.prog 4 #[v] w fun e w' => e = .returned (.bool true) ∧ Touch (fun _ => False) w w' := by
  obtain ⟨i0, hi30, hz0, hz1, hz2⟩ := info_parts info30f
  have HQ := hid hq
  have K := hid (speaks_yes w hq)
  obtain ⟨a, c, rfl, hN⟩ := hN
  have HN := hid hN
  clear hN hq
  go_enter Tryz.func4, Tryz.ntmps4
  go_wp2_with fail
  refine K.out.mono ?_
  rintro e w1 ⟨rfl, rfl⟩
  clear K
  go_wp2_with fail
  go_loopg [3, 4, 5] 20 (fun gk v3 v4 v5 wr => ∃ k : Nat, k + gk = 20 ∧ k ≤ ts.length ∧ v5 = .int .i64 (k : Nat) ∧ v4 = .int .i64 (tot (ts.take k) : Nat) ∧ OwP 28 w wr v3 ((ts.take k).map plainP) ∧ Touch (fun _ => False) w wr)
  case atStart => exact ⟨0, by omega, by omega, rfl, rfl, OwP.nil _ _ _, Touch.refl _ _⟩
  case round =>
    obtain ⟨k, hk, hkt, rfl, rfl, hown, ht⟩ := hrel
    have OW := hid hown
    have TW := hid ht
    obtain ⟨a3, c3, hv3⟩ := own_shape hown.own
    subst hv3
    clear hown ht
    have htk := tot_le ts k
    have HLL := hid (show ((ts.take k).map plainP).length = k from by rw [List.length_map, List.length_take]; omega)
    have hlb : ((ts.take k).map plainP).length ≤ 20 := by rw [HLL.out]; omega
    by_cases hlt : k < ts.length ∧ k < 20
    · obtain ⟨hl1, hl2⟩ := hlt
      have hl1I : (k : Int) < (ts.length : Int) := by omega
      have hl2I : (k : Int) < 20 := by omega
      obtain ⟨b, o, rfl, hb, hc⟩ : ∃ b o, a = some ⟨b, o, none⟩ ∧ b < w.heap.size ∧ ∀ j (h : j < ts.length), w.cell? ⟨b, o + j, none⟩ = some (.string ts[j]) := by
        rcases HN.out with h | h
        · rw [h] at hl1; simp at hl1
        · exact h
      have e0 := hc k hl1
      have d0 := (TW.out.cell (p := ⟨b, o + k, none⟩) hb id).trans e0
      have HT1 := hid (tot_take ts k hl1)
      have HMP := hid (show (ts.take (k + 1)).map plainP = (ts.take k).map plainP ++ [plainP ts[k]] from by rw [List.take_succ_eq_append_getElem hl1, List.map_append]; rfl)
      have htk1 := tot_le ts (k + 1)
      rw [HT1.out] at htk1
      obtain ⟨d, hde⟩ : ∃ d, d = ts[k] := ⟨_, rfl⟩
      rw [← hde] at d0 e0 HT1 HMP htk1
      have E0 := hid e0
      have HBW := hid hb
      clear hc hde hb e0
      generalize (ts.take k).map plainP = l at *
      generalize tot (ts.take k) = T at *
      go_wp2_with (at_builtin; refine wpList_append_own_at _ rfl _ _ 29 rfl 0 28 i0 (.agg #[.string ⟨#[]⟩, .string ⟨#[]⟩, .string ⟨#[]⟩, .bool false, .bool false, .int .i64 0, .int .i64 0, .int .i64 0, .string ⟨#[]⟩]) 9 96 Tryz.underlying29 hi30 hz0 hz1 hz2 rfl (by decide) _ _ _ rfl (OW.out.own.alloc _) ⟨wr.heap.size, 0, none⟩ 1 1 (flatP [plainP d]) rfl rfl (newsP (w := wr) (x := plainP d) (e := 28)) (flatP_one _) (by unfold maxLen; omega) (by omega) (Nat.zero_le _) ?_)
      intro v4 w4 hown hgrow _ hat
      have OW4 := hid (OW.out.app (x := plainP d) (wr.heap.size + 1) (by have := TW.out.size; omega) hown hat)
      have T4 := hid ((TW.out.alloc _).grown hgrow (fun k e hk => by have := OW.out.new k e; omega))
      have d4 := (T4.out.cell (p := ⟨b, o + k, none⟩) HBW.out id).trans E0.out
      obtain ⟨a4, c4, hv4⟩ := own_shape OW4.out.own
      subst hv4
      clear hown hgrow hat d0 OW TW
      go_wp2
      go_roundg (gk - 1)
      case measure => omega
      case rel => exact ⟨k + 1, by omega, by omega, by go_num, by rw [HT1.out]; go_num, by rw [HMP.out]; exact OW4.out, T4.out⟩
    · have HFIN := hid hlt
      clear hlt
      have HDL := hid (show (ts.take k).length = k from by rw [List.length_take]; omega)
      have HDM := hid (show ∀ d ∈ ts.take k, d.size ≤ 1048576 from fun d hd => by have := tot_mem _ d hd; omega)
      generalize ts.take k = ds at *
      have hdb : tot ds ≤ 1048576 := by omega
      clear htk HN HLL hlb
      have HOL := hid (show (ds.map plainP).length = ds.length from List.length_map ..)
      by_cases hkl : (k : Int) < (ts.length : Int)
      · have hk20 : ¬ (k : Int) < 20 := by
          have := HFIN.out
          omega
        clear HFIN
        by_cases hd0 : ds = []
        · subst hd0
          have hk0 : k = 0 := by simpa using HDL.out.symm
          omega
        · obtain ⟨b, c9, hv, hpn⟩ := pn_of OW.out.own hd0
          rw [HOL.out] at hv ⊢
          cases hv
          have hk1 : 0 < k := by
            rw [← HDL.out]
            exact List.length_pos_iff.2 hd0
          have hk20n : k ≤ 20 := by omega
          have KW := hid (write_plain b c3 ds wr hpn (HQ.out.new TW.out id) (by rw [HDL.out]; omega) (by rw [HDL.out]; omega) (fun x hx => ⟨HDM.out x hx, partB_len x (HDM.out x hx)⟩))
          change Hid (Calls Tryz.prog 8 #[.slice (some ⟨b, 0, none⟩) ds.length c3, .slice none 0 0] wr fun e w' => e = .returned (.tuple #[.string (FB ds), .int .i64 0]) ∧ Touch (fun _ => False) wr w') at KW
          have hfs := FB_size ds hdb
          have HR1 := hid (fun r (k : Gz.Rd (FB ds) 0 (tot ds) 0 r) => read_all hd0 (by rw [HDL.out]; omega) (fun d hd => by have := HDM.out d hd; omega) k)
          have HR2 := hid (fun (h : 0 < tot ds) r (k : Gz.Rd (FB ds) 0 (tot ds - 1) 0 r) => read_short (by rw [HDL.out]; omega) h (fun d hd => by have := HDM.out d hd; omega) k)
          have HML := hid (show (ds.map plainP).length = ds.length from List.length_map ..)
          have hfb : (FB ds).size ≤ 140737488 := by
            rw [HDL.out] at hfs
            omega
          rw [HDL.out] at KW HML ⊢
          clear OW hpn hd0 hfs HDM HOL HDL
          generalize FB ds = F at *
          generalize ds.map plainP = lp at *
          generalize tot ds = T at *
          go_wp2_with fail
          refine KW.out.mono ?_
          rintro e w2 ⟨rfl, t2⟩
          have T2 := hid (TW.out.trans t2 (fun _ _ e => e))
          clear t2 KW TW
          have hkI : ¬ (k : Int) = 0 := by omega
          have hkB : ((k : Int) == 0) = false := beq_eq_false_iff_ne.2 hkI
          have KA := hid (read_any F T w2 (HQ.out.new T2.out id) hfb (by omega))
          go_wp2_with fail
          refine Calls.mono (R := fun e w' => ∃ r, Gz.Rd F 0 T 0 r ∧ RPost 28 w2 r e w') KA.out ?_
          rintro e w3 ⟨r, hr, hp⟩
          obtain rfl := HR1.out r hr
          obtain ⟨v3, rfl, ow3, t3⟩ := hp
          obtain ⟨a9, c3', hv3⟩ := own_shape ow3.own
          rw [HML.out] at hv3
          subst hv3
          have T3 := hid ((T2.out.trans t3 (fun _ _ e => e)).alloc (.cells #[.int .i64 0, .int .i64 0] 31))
          have B3 := hid (new_block w3 #[.int .i64 0, .int .i64 0] 31)
          clear t3 hr KA HR1 T2 ow3 HML
          go_upto_region 14 with fail
          generalize w3.alloc (.cells #[.int .i64 0, .int .i64 0] 31) = w4 at *
          generalize w3.heap.size = q4 at *
          have g0 := cell_two0 B3.out
          have g1 := cell_two1 B3.out
          by_cases hT : T = 0
          · have hTI : (T : Int) = 0 := by omega
            clear HR2
            go_wp2
            go_ret
            exact ⟨rfl, T3.out⟩
          · have hTI : ¬ (T : Int) = 0 := by omega
            have hTB : ((T : Int) == 0) = false := beq_eq_false_iff_ne.2 hTI
            have KB := hid (read_any F (T - 1) w4 (HQ.out.new T3.out id) hfb (by omega))
            rw [show ((T - 1 : Nat) : Int) = (T : Int) - 1 from by omega] at KB
            have HR3 := hid (HR2.out (by omega))
            clear HR2 hT
            go_wp2_with fail
            refine Calls.mono (R := fun e w' => ∃ r, Gz.Rd F 0 (T - 1) 0 r ∧ RPost 28 w4 r e w') KB.out ?_
            rintro e w5 ⟨r, hr, hp⟩
            obtain ⟨A, rfl⟩ := HR3.out r hr
            obtain ⟨rfl, t5⟩ := hp
            have T5 := hid ((T3.out.trans t5 (fun _ _ e => e)).alloc (.cells #[.int .i64 2, .int .i64 (A : Nat)] 31))
            have B5 := hid (new_block w5 #[.int .i64 2, .int .i64 (A : Nat)] 31)
            clear t5 hr KB HR3 T3
            go_upto_region 19 with fail
            generalize w5.alloc (.cells #[.int .i64 2, .int .i64 (A : Int)] 31) = w6 at *
            generalize w5.heap.size = q6 at *
            have f0 := cell_two0 B5.out
            have f1 := cell_two1 B5.out
            go_wp2
            go_ret
            exact ⟨rfl, T5.out⟩
      · clear HFIN
        by_cases hd0 : ds = []
        · subst hd0
          have hk0 : k = 0 := by simpa using HDL.out.symm
          subst hk0
          clear OW
          go_wp2_with fail
          refine (write_nil a3 c3 wr).mono ?_
          rintro e w2 ⟨rfl, t2⟩
          have T2 := hid (TW.out.trans t2 (fun _ _ e => e))
          clear t2
          go_wp2
          go_ret
          exact ⟨rfl, T2.out⟩
        · obtain ⟨b, c9, hv, hpn⟩ := pn_of OW.out.own hd0
          rw [HOL.out] at hv ⊢
          cases hv
          have hk1 : 0 < k := by
            rw [← HDL.out]
            exact List.length_pos_iff.2 hd0
          have hk20n : k ≤ 20 := by omega
          have KW := hid (write_plain b c3 ds wr hpn (HQ.out.new TW.out id) (by rw [HDL.out]; omega) (by rw [HDL.out]; omega) (fun x hx => ⟨HDM.out x hx, partB_len x (HDM.out x hx)⟩))
          change Hid (Calls Tryz.prog 8 #[.slice (some ⟨b, 0, none⟩) ds.length c3, .slice none 0 0] wr fun e w' => e = .returned (.tuple #[.string (FB ds), .int .i64 0]) ∧ Touch (fun _ => False) wr w') at KW
          have hfs := FB_size ds hdb
          have HR1 := hid (fun r (k : Gz.Rd (FB ds) 0 (tot ds) 0 r) => read_all hd0 (by rw [HDL.out]; omega) (fun d hd => by have := HDM.out d hd; omega) k)
          have HR2 := hid (fun (h : 0 < tot ds) r (k : Gz.Rd (FB ds) 0 (tot ds - 1) 0 r) => read_short (by rw [HDL.out]; omega) h (fun d hd => by have := HDM.out d hd; omega) k)
          have HML := hid (show (ds.map plainP).length = ds.length from List.length_map ..)
          have hfb : (FB ds).size ≤ 140737488 := by
            rw [HDL.out] at hfs
            omega
          rw [HDL.out] at KW HML ⊢
          clear OW hpn hd0 hfs HDM HOL HDL
          generalize FB ds = F at *
          generalize ds.map plainP = lp at *
          generalize tot ds = T at *
          go_wp2_with fail
          refine KW.out.mono ?_
          rintro e w2 ⟨rfl, t2⟩
          have T2 := hid (TW.out.trans t2 (fun _ _ e => e))
          clear t2 KW TW
          have hkI : ¬ (k : Int) = 0 := by omega
          have hkB : ((k : Int) == 0) = false := beq_eq_false_iff_ne.2 hkI
          have KA := hid (read_any F T w2 (HQ.out.new T2.out id) hfb (by omega))
          go_wp2_with fail
          refine Calls.mono (R := fun e w' => ∃ r, Gz.Rd F 0 T 0 r ∧ RPost 28 w2 r e w') KA.out ?_
          rintro e w3 ⟨r, hr, hp⟩
          obtain rfl := HR1.out r hr
          obtain ⟨v3, rfl, ow3, t3⟩ := hp
          obtain ⟨a9, c3', hv3⟩ := own_shape ow3.own
          rw [HML.out] at hv3
          subst hv3
          have T3 := hid ((T2.out.trans t3 (fun _ _ e => e)).alloc (.cells #[.int .i64 0, .int .i64 0] 31))
          have B3 := hid (new_block w3 #[.int .i64 0, .int .i64 0] 31)
          clear t3 hr KA HR1 T2 ow3 HML
          go_upto_region 14 with fail
          generalize w3.alloc (.cells #[.int .i64 0, .int .i64 0] 31) = w4 at *
          generalize w3.heap.size = q4 at *
          have g0 := cell_two0 B3.out
          have g1 := cell_two1 B3.out
          by_cases hT : T = 0
          · have hTI : (T : Int) = 0 := by omega
            clear HR2
            go_wp2
            go_ret
            exact ⟨rfl, T3.out⟩
          · have hTI : ¬ (T : Int) = 0 := by omega
            have hTB : ((T : Int) == 0) = false := beq_eq_false_iff_ne.2 hTI
            have KB := hid (read_any F (T - 1) w4 (HQ.out.new T3.out id) hfb (by omega))
            rw [show ((T - 1 : Nat) : Int) = (T : Int) - 1 from by omega] at KB
            have HR3 := hid (HR2.out (by omega))
            clear HR2 hT
            go_wp2_with fail
            refine Calls.mono (R := fun e w' => ∃ r, Gz.Rd F 0 (T - 1) 0 r ∧ RPost 28 w4 r e w') KB.out ?_
            rintro e w5 ⟨r, hr, hp⟩
            obtain ⟨A, rfl⟩ := HR3.out r hr
            obtain ⟨rfl, t5⟩ := hp
            have T5 := hid ((T3.out.trans t5 (fun _ _ e => e)).alloc (.cells #[.int .i64 2, .int .i64 (A : Nat)] 31))
            have B5 := hid (new_block w5 #[.int .i64 2, .int .i64 (A : Nat)] 31)
            clear t5 hr KB HR3 T3
            go_upto_region 19 with fail
            generalize w5.alloc (.cells #[.int .i64 2, .int .i64 (A : Int)] 31) = w6 at *
            generalize w5.heap.size = q6 at *
            have f0 := cell_two0 B5.out
            have f1 := cell_two1 B5.out
            go_wp2
            go_ret
            exact ⟨rfl, T5.out⟩
end Go.Proofs.YtffjkceedbblgaaGreatDoor
