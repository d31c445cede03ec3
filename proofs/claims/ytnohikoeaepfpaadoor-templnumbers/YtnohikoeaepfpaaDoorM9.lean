/- Texts of this proof, one behind the other: what each says stands ahead of it. -/
import Derived.Test.YtnohikoeaepfpaaDoorM4
import Derived.Test.YtnohikoeaepfpaaDoorM7
import Derived.Test.YtnohikoeaepfpaaDoorM8
import Derived.Laws.BitsLemmas
/- TemplNumbers' walk; condition: the errors' values lie there. -/
namespace Go.Proofs.YtnohikoeaepfpaaDoor
open Go.RowKit
open Go.Lib

theorem i64_and_mask (n : Int) (m : Nat) (hm : m ≤ 62) : bits .and .i64 n (2 ^ m - 1) = n % 2 ^ m := by
  have hp : (2 ^ m : Nat) ≤ 2 ^ 62 := Nat.pow_le_pow_right (by decide) hm
  have hp0 : 0 < (2 ^ m : Nat) := Nat.pow_pos (by decide)
  have hc : (2 : Int) ^ m = ((2 ^ m : Nat) : Int) := by simp
  have hd : (2 ^ m : Nat) ∣ 2 ^ 64 := Nat.pow_dvd_pow 2 (by omega)
  rw [hc]
  have h1 : (BitVec.ofInt 64 (((2 ^ m : Nat) : Int) - 1)).toNat = 2 ^ m - 1 := by
    rw [BitVec.toNat_ofInt]
    omega
  have key : (BitVec.ofInt 64 n &&& BitVec.ofInt 64 (((2 ^ m : Nat) : Int) - 1)).toNat = (n % ((2 ^ 64 : Nat) : Int)).toNat % 2 ^ m := by
    rw [BitVec.toNat_and, BitVec.toNat_ofInt, h1, Nat.and_two_pow_sub_one_eq_mod]
  show IntKind.i64.wrap ((BitVec.ofInt 64 n &&& BitVec.ofInt 64 (((2 ^ m : Nat) : Int) - 1)).toNat : Nat) = _
  have hlt : (n % ((2 ^ 64 : Nat) : Int)).toNat % 2 ^ m < 2 ^ m := Nat.mod_lt _ hp0
  have e1 : (((n % ((2 ^ 64 : Nat) : Int)).toNat % 2 ^ m : Nat) : Int) = n % ((2 ^ m : Nat) : Int) := by
    rw [Int.natCast_emod, Int.toNat_of_nonneg (Int.emod_nonneg _ (by decide)), Int.emod_emod_of_dvd _ (by exact_mod_cast hd)]
  rw [key, e1, IntKind.wrap_i64]
  have h2 := Int.emod_nonneg n (b := ((2 ^ m : Nat) : Int)) (by omega)
  have h3 := Int.emod_lt_of_pos n (b := ((2 ^ m : Nat) : Int)) (by omega)
  omega


theorem add_list (a b : ByteArray) : (a ++ b).data.toList = a.data.toList ++ b.data.toList := by
  simp [ByteArray.data_append]
theorem made9 (g : Nat) : madeCells #[.string ⟨#[]⟩] g = Array.replicate g (.string ⟨#[]⟩) := by
  apply Array.ext
  · simp [madeCells]
  · intro i h1 h2
    simp [madeCells, Nat.mod_one]
theorem mk33 (g : Nat) (hg : g ≤ 1024) (w : World) : (Instr.makeSlice 33 (.int .i64 g) (.int .i64 g)).run Tryd.prog w = .ok (.slice (some ⟨w.heap.size, 0, none⟩) g g) (w.alloc (.cells (Array.replicate g (.string ⟨#[]⟩)) 9)) := by
  obtain ⟨i0, hi, hz0, hz1, hz2⟩ := info_parts info9
  have h := run_makeSlice (P := Tryd.prog) (w := w) 33 9 i0 (.string ⟨#[]⟩) Tryd.underlying33 hi hz0 .i64 .i64 g g (by omega) (by omega) (by rw [hz1]; omega) (by rw [hz2]; omega) (by omega)
  rw [hz1, Nat.mul_one, Int.toNat_natCast] at h
  rw [h, ← made9 g]
  rfl
theorem names_new (w : World) (g : Nat) : Nl (w.alloc (.cells (Array.replicate g (.string ⟨#[]⟩)) 9)) (.slice (some ⟨w.heap.size, 0, none⟩) g g) (List.replicate g []) := by
  refine ⟨some ⟨w.heap.size, 0, none⟩, g, by simp, ?_⟩
  by_cases h0 : g = 0
  · subst h0; exact .inl rfl
  · refine .inr ⟨w.heap.size, 0, rfl, lt_of_block (new_block _ _ _), fun j hj => ?_⟩
    have hj' : j < g := by simpa using hj
    have hb := new_block w (Array.replicate g (.string ⟨#[]⟩)) 9
    unfold World.cell?
    rw [hb]
    simp [hj', sv]
theorem bh_of {s : ByteArray} (h1 : ∀ c ∈ s.data.toList, c ≠ 36) (h2 : ∀ h : 0 < s.size, digB s[0] = false) : Bh s.data.toList := by
  refine ⟨h1, fun c hc => ?_⟩
  rcases Nat.eq_zero_or_pos s.size with h0 | h0
  · rw [List.getElem?_eq_none (by rw [size_list]; omega)] at hc; cases hc
  · rw [at_opt s 0 h0] at hc
    cases hc
    exact h2 h0
set_option maxRecDepth 100000 in
set_option maxHeartbeats 16000000 in
theorem templNumbers_walk (n0 g0 : Int) (s : ByteArray) (w : World) (hs : s.size ≤ 140737488351232) (hx : Sx w) :
    Calls Tryd.prog 4 #[.int .i64 n0, .int .i64 g0, .string s] w fun e w' => e = .returned (.bool true) ∧ Below w.heap.size w w' := by
  have KS := hid (speaks_yes w hx)
  have HX0 := hid hx
  obtain ⟨n, hn, hn1⟩ : ∃ n : Nat, n0 % 1024 = (n : Int) ∧ n < 1024 := ⟨(n0 % 1024).toNat, by omega, by omega⟩
  obtain ⟨g1, hg, hg1⟩ : ∃ g1 : Nat, g0 % 1024 = (g1 : Int) ∧ g1 < 1024 := ⟨(g0 % 1024).toNat, by omega, by omega⟩
  have hA : bits .and .i64 n0 1023 = (n : Int) := (i64_and_mask n0 10 (by decide)).trans hn
  have hG : bits .and .i64 g0 1023 = (g1 : Int) := (i64_and_mask g0 10 (by decide)).trans hg
  clear hn hg
  go_enter Tryd.func4, Tryd.ntmps4
  go_wp2_with fail
  refine KS.out.mono ?_
  rintro e w1 ⟨rfl, t1⟩
  have T1 := hid t1
  clear t1 hx KS
  by_cases h9 : (900 : Int) < (s.size : Int)
  · go_wp2
    go_ret
    exact ⟨rfl, T1.out.below _ (Nat.le_refl _) (fun _ e => e.elim)⟩
  · have h9n : s.size ≤ 900 := by omega
    by_cases hd : ∃ h : 0 < s.size, digB s[0] = true
    · obtain ⟨h0, hd⟩ := hd
      have h0I : (0 : Int) < (s.size : Int) := by omega
      have hr := (dig_iff s[0]).1 hd
      have hr1 : (48 : Int) ≤ (s[0].toNat : Int) := by omega
      have hr2 : (s[0].toNat : Int) ≤ 57 := by omega
      clear hd
      go_wp2
      go_ret
      exact ⟨rfl, T1.out.below _ (Nat.le_refl _) (fun _ e => e.elim)⟩
    · have HND := hid (show ∀ h : 0 < s.size, digB s[0] = false from fun h => by
        rw [← Bool.not_eq_true]
        exact fun e => hd ⟨h, e⟩)
      clear hd
      go_upto_region 4 with fail
      obtain ⟨g, hgI, hgb⟩ : ∃ g : Nat, (1 : Int) + (g1 : Int) = (g : Int) ∧ g ≤ 1024 := ⟨1 + g1, by omega, by omega⟩
      rw [hgI]
      clear hgI hG hg1
      by_cases h0 : 0 < s.size
      · have h0I : (0 : Int) < (s.size : Int) := by omega
        have hnd := HND.out h0
        have HDG0 := hid (dig_iff s[0])
        rw [hnd] at HDG0
        clear hnd
        by_cases h48 : (48 : Int) ≤ (s[0].toNat : Int)
        · have h57 : ¬ (s[0].toNat : Int) ≤ 57 := fun e => by
            have := HDG0.out.2 ⟨by omega, by omega⟩
            cases this
          go_wp2_with fail
          go_loopg [7] s.size (fun gk v7 wr => ∃ i : Nat, i + gk = s.size ∧ v7 = .int .i64 (i : Nat) ∧ Hid (∀ c ∈ s.data.toList.take i, c ≠ 36) ∧ w1 = wr)
          case atStart => exact ⟨0, by omega, rfl, hid (fun c hc => by simp at hc), rfl⟩
          case round =>
            obtain ⟨i, hi, rfl, HA, rfl⟩ := hrel
            by_cases hlt : i < s.size
            · have hltI : (i : Int) < (s.size : Int) := by omega
              have HTK := hid (show s.data.toList.take (i + 1) = s.data.toList.take i ++ [s[i]] from List.take_succ_eq_append_getElem (by rw [size_list]; exact hlt))
              by_cases hc : s[i] = 36
              · have hcI : (s[i].toNat : Int) = 36 := by rw [hc]; rfl
                clear hc
                go_wp2
                go_ret
                exact ⟨rfl, T1.out.below _ (Nat.le_refl _) (fun _ e => e.elim)⟩
              · have hcI : ¬ (s[i].toNat : Int) = 36 := fun e => hc (UInt8.toNat_inj.1 (by
                  have h36 : (36 : UInt8).toNat = 36 := rfl
                  omega))
                have HNA := hid (show ∀ c ∈ s.data.toList.take (i + 1), c ≠ 36 from by
                  rw [HTK.out]
                  intro c hc'
                  rcases List.mem_append.1 hc' with h | h
                  · exact HA.out c h
                  · rw [List.mem_singleton.1 h]; exact hc)
                clear hc
                go_wp2
                go_roundg (gk - 1)
                case measure => omega
                case rel => exact ⟨i + 1, by omega, by go_num, HNA, rfl⟩
            · obtain rfl : i = s.size := by omega
              have htk : s.data.toList.take s.size = s.data.toList := List.take_of_length_le (by rw [size_list]; exact Nat.le_refl _)
              rw [htk] at HA
              clear htk
              have HBH := hid (bh_of HA.out HND.out)
              clear HA HND
              have HDG := hid (show Dg (decF 4 n) n from (by
                have h := decF_ok 4 n (by decide) (by omega)
                exact ⟨h.1, h.2.1, h.2.2.1, h.2.2.2⟩))
              have KN := hid (lnumber_any 4 n (by decide) (by decide) (by omega))
              unfold sv at KN
              generalize decF 4 n = D at *
              obtain ⟨A1, hA1⟩ : ∃ A1 : ByteArray, (⟨#[36]⟩ : ByteArray) ++ ⟨D.toArray⟩ = A1 := ⟨_, rfl⟩
              obtain ⟨S1, hS1⟩ : ∃ S1 : ByteArray, A1 ++ s = S1 := ⟨_, rfl⟩
              obtain ⟨A2, hA2⟩ : ∃ A2 : ByteArray, (⟨#[36, 123]⟩ : ByteArray) ++ ⟨D.toArray⟩ = A2 := ⟨_, rfl⟩
              obtain ⟨A3, hA3⟩ : ∃ A3 : ByteArray, A2 ++ ⟨#[125]⟩ = A3 := ⟨_, rfl⟩
              obtain ⟨S2, hS2⟩ : ∃ S2 : ByteArray, A3 ++ s = S2 := ⟨_, rfl⟩
              have L1 := hid (show S1.data.toList = 36 :: (D ++ s.data.toList) from by rw [← hS1, add_list, ← hA1, add_list]; rfl)
              have L2 := hid (show S2.data.toList = 36 :: 123 :: (D ++ 125 :: s.data.toList) from by rw [← hS2, add_list, ← hA3, add_list, ← hA2, add_list]; simp)
              have hsl : s.data.toList.length ≤ 900 := by rw [size_list]; omega
              have P1 := hid (parse_num1 (ns := List.replicate g []) HDG.out HBH.out hsl)
              have P2 := hid (parse_num2 (ns := List.replicate g []) HDG.out HBH.out hsl)
              rw [← L1.out, List.length_replicate] at P1
              rw [← L2.out, List.length_replicate] at P2
              have Z1 := hid (show S1.size ≤ 140737488351232 from by
                have := HDG.out.four
                rw [← size_list, L1.out]
                simp only [List.length_cons, List.length_append]
                omega)
              have Z2 := hid (show S2.size ≤ 140737488351232 from by
                have := HDG.out.four
                rw [← size_list, L2.out]
                simp only [List.length_cons, List.length_append]
                omega)
              have hz1 : A1.size ≤ 5 := by
                have := HDG.out.four
                rw [← size_list, ← hA1, add_list, List.length_append]
                show 1 + D.length ≤ 5
                omega
              have hz2 : A2.size ≤ 6 := by
                have := HDG.out.four
                rw [← size_list, ← hA2, add_list, List.length_append]
                show 2 + D.length ≤ 6
                omega
              have hz3 : A3.size ≤ 7 := by
                rw [← size_list, ← hA3, add_list, List.length_append, size_list]
                show A2.size + 1 ≤ 7
                omega
              have hdl : D.length ≤ 4 := HDG.out.four
              clear L1 L2 HDG hsl
              go_wp2_with fail
              refine (KN.out w1).mono ?_
              rintro e w2 ⟨rfl, t2⟩
              have T2 := hid (T1.out.trans t2 (fun _ _ e => e))
              clear t2 KN
              have hmk := mk33 g hgb w2
              have N3 := hid (names_new w2 g)
              have T3 := hid (T2.out.alloc (.cells (Array.replicate g (.string ⟨#[]⟩)) 9))
              have t3 := hid ((Touch.refl (fun _ => False) w2).alloc (.cells (Array.replicate g (.string ⟨#[]⟩)) 9))
              go_wp2_with fail
              generalize w2.alloc (.cells (Array.replicate g (.string ⟨#[]⟩)) 9) = w3 at *
              generalize w2.heap.size = q3 at *
              have hgr : (List.replicate g ([] : Bs)).length ≤ 140737488355328 := by rw [List.length_replicate]; omega
              have KP1 := hid (parse_any S1 _ (List.replicate g []) w3 Z1.out N3.out hgr (HX0.out.new T3.out))
              have KP2 := hid (fun w' (t : Touch (fun _ => False) w3 w') => parse_any S2 _ (List.replicate g []) w' Z2.out (N3.out.new t) hgr (HX0.out.new (T3.out.trans t (fun _ _ e => e))))
              clear hmk hA1 hS1 hz1 Z1 Z2 N3 T2 t3 hgr
              by_cases hgl : n < g
              · rw [P1.out, if_pos hgl] at KP1
                rw [P2.out, if_pos hgl] at KP2
                dsimp only at KP1 KP2
                clear P1 P2
                have hgI : ¬ (g : Int) ≤ (n : Int) := by omega
                have HBL := hid (show s.data.toList = [] ∧ nm [⟨[], (n : Int)⟩] s.data.toList = [⟨[], (n : Int)⟩] ∨ s.data.toList ≠ [] ∧ nm [⟨[], (n : Int)⟩] s.data.toList = [⟨[], (n : Int)⟩, ⟨s.data.toList, -1⟩] from by
                  by_cases hB : s.data.toList = []
                  · exact .inl ⟨hB, by rw [hB]; exact nm_nil⟩
                  · exact .inr ⟨hB, by rw [nm_pos hB]; rfl⟩)
                generalize nm [⟨[], (n : Int)⟩] s.data.toList = l at *
                refine KP1.out.mono ?_
                rintro e w4 ⟨v4, rfl, ow4⟩
                have U4 := hid ow4.touch
                obtain ⟨a4, c4, hv4, hr4⟩ := ow4.rg
                subst hv4
                have R4 := hid hr4
                clear KP1 ow4 hr4
                go_upto_region 14 with fail
                have U5 := hid (U4.out.alloc (.cells #[.int .i64 0, .int .i64 0] 27))
                have R5 := hid (R4.out.new ((Touch.refl _ _).alloc (.cells #[.int .i64 0, .int .i64 0] 27)))
                have F5 := hid (two_new (w := w4) (.int .i64 0) (.int .i64 0) 27)
                generalize w4.alloc (.cells #[.int .i64 0, .int .i64 0] 27) = w5 at *
                generalize w4.heap.size = q5 at *
                have KP3 := hid (KP2.out w5 U5.out)
                clear KP2 R4 U4
                go_wp2_with fail
                refine KP3.out.mono ?_
                rintro e w6 ⟨v6, rfl, ow6⟩
                have U6 := hid (U5.out.trans ow6.touch (fun _ _ e => e))
                have R6 := hid (R5.out.new ow6.touch)
                have F6 := hid ((ow6.touch.block q5 (lt_of_block F5.out) id).trans F5.out)
                obtain ⟨a6, c6, hv6, hr6⟩ := ow6.rg
                subst hv6
                have M6 := hid hr6
                clear KP3 ow6 hr6 F5 R5 U5 hA2 hA3 hS2 hz2 hz3 hdl
                go_upto_region 15 with fail
                have U7 := hid (T3.out.trans (U6.out.alloc (.cells #[.int .i64 0, .int .i64 0] 27)) (fun _ _ e => e))
                have tA := (Touch.refl (fun _ => False) w6).alloc (.cells #[.int .i64 0, .int .i64 0] 27)
                have R7 := hid (R6.out.new tA)
                have M7 := hid (M6.out.new tA)
                have F7 := hid ((tA.block q5 (lt_of_block F6.out) id).trans F6.out)
                have E7 := hid (two_new (w := w6) (.int .i64 0) (.int .i64 0) 27)
                clear tA R6 M6 F6 U6
                generalize w6.alloc (.cells #[.int .i64 0, .int .i64 0] 27) = w7 at *
                generalize w6.heap.size = q7 at *
                have f0 := cell_two0 F7.out
                have f1 := cell_two1 F7.out
                have e0 := cell_two0 E7.out
                have e1 := cell_two1 E7.out
                rcases HBL.out with ⟨hB, hl⟩ | ⟨hB, hl⟩
                · have hs0 : s.toList = [] := by rw [toList_data]; exact hB
                  have hse : s.toList.isEmpty = true := by rw [hs0]; rfl
                  subst hl
                  obtain ⟨b, o, rfl, _, hc⟩ : ∃ b o, a4 = some ⟨b, o, none⟩ ∧ b < w7.heap.size ∧ ∀ i (h : i < [(⟨[], (n : Int)⟩ : Pc)].length), w7.cell? ⟨b, o + i * 2, none⟩ = some (sv ([(⟨[], (n : Int)⟩ : Pc)][i]).t) ∧ w7.cell? ⟨b, o + i * 2 + 1, none⟩ = some (gv ([(⟨[], (n : Int)⟩ : Pc)][i]).g) := by
                    rcases R7.out with h | h
                    · cases h
                    · exact h
                  obtain ⟨b6, o6, rfl, _, hc6⟩ : ∃ b o, a6 = some ⟨b, o, none⟩ ∧ b < w7.heap.size ∧ ∀ i (h : i < [(⟨[], (n : Int)⟩ : Pc)].length), w7.cell? ⟨b, o + i * 2, none⟩ = some (sv ([(⟨[], (n : Int)⟩ : Pc)][i]).t) ∧ w7.cell? ⟨b, o + i * 2 + 1, none⟩ = some (gv ([(⟨[], (n : Int)⟩ : Pc)][i]).g) := by
                    rcases M7.out with h | h
                    · cases h
                    · exact h
                  have d0 : w7.cell? ⟨b, o, none⟩ = some (.string ⟨#[]⟩) := (hc 0 (by simp)).1
                  have d1 : w7.cell? ⟨b, o + 1, none⟩ = some (.int .i64 (n : Int)) := (hc 0 (by simp)).2
                  have m0 : w7.cell? ⟨b6, o6, none⟩ = some (.string ⟨#[]⟩) := (hc6 0 (by simp)).1
                  have m1 : w7.cell? ⟨b6, o6 + 1, none⟩ = some (.int .i64 (n : Int)) := (hc6 0 (by simp)).2
                  clear hc hc6 hB HBL R7 M7
                  go_wp2_with fail
                  go_quiet (fail)
                  go_wp2_with fail
                  go_quiet (fail)
                  go_wp2
                  go_ret
                  exact ⟨rfl, ((U7.out.drewN _).drewN _).below _ (Nat.le_refl _) (fun _ e => e.elim)⟩
                · have hs0 : ¬ s.toList = [] := by rw [toList_data]; exact hB
                  have hse : s.toList.isEmpty = false := by
                    rw [Bool.eq_false_iff]
                    intro e
                    rw [List.isEmpty_iff, toList_data] at e
                    exact hB e
                  have hbq : (s.toList == s.toList) = true := by simp
                  subst hl
                  obtain ⟨b, o, rfl, _, hc⟩ : ∃ b o, a4 = some ⟨b, o, none⟩ ∧ b < w7.heap.size ∧ ∀ i (h : i < [(⟨[], (n : Int)⟩ : Pc), ⟨s.data.toList, -1⟩].length), w7.cell? ⟨b, o + i * 2, none⟩ = some (sv ([(⟨[], (n : Int)⟩ : Pc), ⟨s.data.toList, -1⟩][i]).t) ∧ w7.cell? ⟨b, o + i * 2 + 1, none⟩ = some (gv ([(⟨[], (n : Int)⟩ : Pc), ⟨s.data.toList, -1⟩][i]).g) := by
                    rcases R7.out with h | h
                    · cases h
                    · exact h
                  obtain ⟨b6, o6, rfl, _, hc6⟩ : ∃ b o, a6 = some ⟨b, o, none⟩ ∧ b < w7.heap.size ∧ ∀ i (h : i < [(⟨[], (n : Int)⟩ : Pc), ⟨s.data.toList, -1⟩].length), w7.cell? ⟨b, o + i * 2, none⟩ = some (sv ([(⟨[], (n : Int)⟩ : Pc), ⟨s.data.toList, -1⟩][i]).t) ∧ w7.cell? ⟨b, o + i * 2 + 1, none⟩ = some (gv ([(⟨[], (n : Int)⟩ : Pc), ⟨s.data.toList, -1⟩][i]).g) := by
                    rcases M7.out with h | h
                    · cases h
                    · exact h
                  have d0 : w7.cell? ⟨b, o, none⟩ = some (.string ⟨#[]⟩) := (hc 0 (by simp)).1
                  have d1 : w7.cell? ⟨b, o + 1, none⟩ = some (.int .i64 (n : Int)) := (hc 0 (by simp)).2
                  have d2 : w7.cell? ⟨b, o + 2, none⟩ = some (.string s) := (hc 1 (by simp)).1
                  have d3 : w7.cell? ⟨b, o + 3, none⟩ = some (.int .i64 (-1)) := (hc 1 (by simp)).2
                  have m0 : w7.cell? ⟨b6, o6, none⟩ = some (.string ⟨#[]⟩) := (hc6 0 (by simp)).1
                  have m1 : w7.cell? ⟨b6, o6 + 1, none⟩ = some (.int .i64 (n : Int)) := (hc6 0 (by simp)).2
                  have m2 : w7.cell? ⟨b6, o6 + 2, none⟩ = some (.string s) := (hc6 1 (by simp)).1
                  have m3 : w7.cell? ⟨b6, o6 + 3, none⟩ = some (.int .i64 (-1)) := (hc6 1 (by simp)).2
                  clear hc hc6 hB HBL R7 M7
                  go_wp2_with fail
                  go_quiet (fail)
                  go_wp2_with fail
                  go_quiet (fail)
                  go_wp2
                  go_ret
                  exact ⟨rfl, ((U7.out.drewN _).drewN _).below _ (Nat.le_refl _) (fun _ e => e.elim)⟩
              · rw [P1.out, if_neg hgl] at KP1
                rw [P2.out, if_neg hgl] at KP2
                dsimp only at KP1 KP2
                clear P1 P2
                have hgI : (g : Int) ≤ (n : Int) := by omega
                refine KP1.out.mono ?_
                rintro e w4 ⟨v4, rfl, ow4⟩
                have U4 := hid ow4.touch
                obtain ⟨a4, c4, hv4⟩ := own_shape ow4.own
                subst hv4
                clear KP1 ow4
                go_upto_region 14 with fail
                have U5 := hid (U4.out.alloc (.cells #[.int .i64 27, .int .i64 0] 27))
                have F5 := hid (two_new (w := w4) (.int .i64 27) (.int .i64 0) 27)
                generalize w4.alloc (.cells #[.int .i64 27, .int .i64 0] 27) = w5 at *
                generalize w4.heap.size = q5 at *
                have KP3 := hid (KP2.out w5 U5.out)
                clear KP2 U4
                go_wp2_with fail
                refine KP3.out.mono ?_
                rintro e w6 ⟨v6, rfl, ow6⟩
                have U6 := hid (U5.out.trans ow6.touch (fun _ _ e => e))
                have F6 := hid ((ow6.touch.block q5 (lt_of_block F5.out) id).trans F5.out)
                obtain ⟨a6, c6, hv6⟩ := own_shape ow6.own
                subst hv6
                clear KP3 ow6 F5 U5 hA2 hA3 hS2 hz2 hz3 hdl
                go_upto_region 15 with fail
                have U7 := hid (T3.out.trans (U6.out.alloc (.cells #[.int .i64 27, .int .i64 0] 27)) (fun _ _ e => e))
                have tA := (Touch.refl (fun _ => False) w6).alloc (.cells #[.int .i64 27, .int .i64 0] 27)
                have F7 := hid ((tA.block q5 (lt_of_block F6.out) id).trans F6.out)
                have E7 := hid (two_new (w := w6) (.int .i64 27) (.int .i64 0) 27)
                clear tA F6 U6
                generalize w6.alloc (.cells #[.int .i64 27, .int .i64 0] 27) = w7 at *
                generalize w6.heap.size = q7 at *
                go_upto_region 17 with fail
                have tB := (Touch.refl (fun _ => False) w7).alloc (.cells #[.int .i64 27, .int .i64 0] 27)
                have U8 := hid (U7.out.trans tB (fun _ _ e => e))
                have F8 := hid ((tB.block q5 (lt_of_block F7.out) id).trans F7.out)
                have E8 := hid ((tB.block q7 (lt_of_block E7.out) id).trans E7.out)
                have D8 := hid (two_new (w := w7) (.int .i64 27) (.int .i64 0) 27)
                clear tB F7 E7 U7
                generalize w7.alloc (.cells #[.int .i64 27, .int .i64 0] 27) = w8 at *
                generalize w7.heap.size = q8 at *
                have f0 := cell_two0 F8.out
                have f1 := cell_two1 F8.out
                have e0 := cell_two0 E8.out
                have e1 := cell_two1 E8.out
                have d0 := cell_two0 D8.out
                have d1 := cell_two1 D8.out
                go_wp2
                go_ret
                exact ⟨rfl, U8.out.below _ (Nat.le_refl _) (fun _ e => e.elim)⟩
        · clear HDG0
          go_wp2_with fail
          go_loopg [7] s.size (fun gk v7 wr => ∃ i : Nat, i + gk = s.size ∧ v7 = .int .i64 (i : Nat) ∧ Hid (∀ c ∈ s.data.toList.take i, c ≠ 36) ∧ w1 = wr)
          case atStart => exact ⟨0, by omega, rfl, hid (fun c hc => by simp at hc), rfl⟩
          case round =>
            obtain ⟨i, hi, rfl, HA, rfl⟩ := hrel
            by_cases hlt : i < s.size
            · have hltI : (i : Int) < (s.size : Int) := by omega
              have HTK := hid (show s.data.toList.take (i + 1) = s.data.toList.take i ++ [s[i]] from List.take_succ_eq_append_getElem (by rw [size_list]; exact hlt))
              by_cases hc : s[i] = 36
              · have hcI : (s[i].toNat : Int) = 36 := by rw [hc]; rfl
                clear hc
                go_wp2
                go_ret
                exact ⟨rfl, T1.out.below _ (Nat.le_refl _) (fun _ e => e.elim)⟩
              · have hcI : ¬ (s[i].toNat : Int) = 36 := fun e => hc (UInt8.toNat_inj.1 (by
                  have h36 : (36 : UInt8).toNat = 36 := rfl
                  omega))
                have HNA := hid (show ∀ c ∈ s.data.toList.take (i + 1), c ≠ 36 from by
                  rw [HTK.out]
                  intro c hc'
                  rcases List.mem_append.1 hc' with h | h
                  · exact HA.out c h
                  · rw [List.mem_singleton.1 h]; exact hc)
                clear hc
                go_wp2
                go_roundg (gk - 1)
                case measure => omega
                case rel => exact ⟨i + 1, by omega, by go_num, HNA, rfl⟩
            · obtain rfl : i = s.size := by omega
              have htk : s.data.toList.take s.size = s.data.toList := List.take_of_length_le (by rw [size_list]; exact Nat.le_refl _)
              rw [htk] at HA
              clear htk
              have HBH := hid (bh_of HA.out HND.out)
              clear HA HND
              have HDG := hid (show Dg (decF 4 n) n from (by
                have h := decF_ok 4 n (by decide) (by omega)
                exact ⟨h.1, h.2.1, h.2.2.1, h.2.2.2⟩))
              have KN := hid (lnumber_any 4 n (by decide) (by decide) (by omega))
              unfold sv at KN
              generalize decF 4 n = D at *
              obtain ⟨A1, hA1⟩ : ∃ A1 : ByteArray, (⟨#[36]⟩ : ByteArray) ++ ⟨D.toArray⟩ = A1 := ⟨_, rfl⟩
              obtain ⟨S1, hS1⟩ : ∃ S1 : ByteArray, A1 ++ s = S1 := ⟨_, rfl⟩
              obtain ⟨A2, hA2⟩ : ∃ A2 : ByteArray, (⟨#[36, 123]⟩ : ByteArray) ++ ⟨D.toArray⟩ = A2 := ⟨_, rfl⟩
              obtain ⟨A3, hA3⟩ : ∃ A3 : ByteArray, A2 ++ ⟨#[125]⟩ = A3 := ⟨_, rfl⟩
              obtain ⟨S2, hS2⟩ : ∃ S2 : ByteArray, A3 ++ s = S2 := ⟨_, rfl⟩
              have L1 := hid (show S1.data.toList = 36 :: (D ++ s.data.toList) from by rw [← hS1, add_list, ← hA1, add_list]; rfl)
              have L2 := hid (show S2.data.toList = 36 :: 123 :: (D ++ 125 :: s.data.toList) from by rw [← hS2, add_list, ← hA3, add_list, ← hA2, add_list]; simp)
              have hsl : s.data.toList.length ≤ 900 := by rw [size_list]; omega
              have P1 := hid (parse_num1 (ns := List.replicate g []) HDG.out HBH.out hsl)
              have P2 := hid (parse_num2 (ns := List.replicate g []) HDG.out HBH.out hsl)
              rw [← L1.out, List.length_replicate] at P1
              rw [← L2.out, List.length_replicate] at P2
              have Z1 := hid (show S1.size ≤ 140737488351232 from by
                have := HDG.out.four
                rw [← size_list, L1.out]
                simp only [List.length_cons, List.length_append]
                omega)
              have Z2 := hid (show S2.size ≤ 140737488351232 from by
                have := HDG.out.four
                rw [← size_list, L2.out]
                simp only [List.length_cons, List.length_append]
                omega)
              have hz1 : A1.size ≤ 5 := by
                have := HDG.out.four
                rw [← size_list, ← hA1, add_list, List.length_append]
                show 1 + D.length ≤ 5
                omega
              have hz2 : A2.size ≤ 6 := by
                have := HDG.out.four
                rw [← size_list, ← hA2, add_list, List.length_append]
                show 2 + D.length ≤ 6
                omega
              have hz3 : A3.size ≤ 7 := by
                rw [← size_list, ← hA3, add_list, List.length_append, size_list]
                show A2.size + 1 ≤ 7
                omega
              have hdl : D.length ≤ 4 := HDG.out.four
              clear L1 L2 HDG hsl
              go_wp2_with fail
              refine (KN.out w1).mono ?_
              rintro e w2 ⟨rfl, t2⟩
              have T2 := hid (T1.out.trans t2 (fun _ _ e => e))
              clear t2 KN
              have hmk := mk33 g hgb w2
              have N3 := hid (names_new w2 g)
              have T3 := hid (T2.out.alloc (.cells (Array.replicate g (.string ⟨#[]⟩)) 9))
              have t3 := hid ((Touch.refl (fun _ => False) w2).alloc (.cells (Array.replicate g (.string ⟨#[]⟩)) 9))
              go_wp2_with fail
              generalize w2.alloc (.cells (Array.replicate g (.string ⟨#[]⟩)) 9) = w3 at *
              generalize w2.heap.size = q3 at *
              have hgr : (List.replicate g ([] : Bs)).length ≤ 140737488355328 := by rw [List.length_replicate]; omega
              have KP1 := hid (parse_any S1 _ (List.replicate g []) w3 Z1.out N3.out hgr (HX0.out.new T3.out))
              have KP2 := hid (fun w' (t : Touch (fun _ => False) w3 w') => parse_any S2 _ (List.replicate g []) w' Z2.out (N3.out.new t) hgr (HX0.out.new (T3.out.trans t (fun _ _ e => e))))
              clear hmk hA1 hS1 hz1 Z1 Z2 N3 T2 t3 hgr
              by_cases hgl : n < g
              · rw [P1.out, if_pos hgl] at KP1
                rw [P2.out, if_pos hgl] at KP2
                dsimp only at KP1 KP2
                clear P1 P2
                have hgI : ¬ (g : Int) ≤ (n : Int) := by omega
                have HBL := hid (show s.data.toList = [] ∧ nm [⟨[], (n : Int)⟩] s.data.toList = [⟨[], (n : Int)⟩] ∨ s.data.toList ≠ [] ∧ nm [⟨[], (n : Int)⟩] s.data.toList = [⟨[], (n : Int)⟩, ⟨s.data.toList, -1⟩] from by
                  by_cases hB : s.data.toList = []
                  · exact .inl ⟨hB, by rw [hB]; exact nm_nil⟩
                  · exact .inr ⟨hB, by rw [nm_pos hB]; rfl⟩)
                generalize nm [⟨[], (n : Int)⟩] s.data.toList = l at *
                refine KP1.out.mono ?_
                rintro e w4 ⟨v4, rfl, ow4⟩
                have U4 := hid ow4.touch
                obtain ⟨a4, c4, hv4, hr4⟩ := ow4.rg
                subst hv4
                have R4 := hid hr4
                clear KP1 ow4 hr4
                go_upto_region 14 with fail
                have U5 := hid (U4.out.alloc (.cells #[.int .i64 0, .int .i64 0] 27))
                have R5 := hid (R4.out.new ((Touch.refl _ _).alloc (.cells #[.int .i64 0, .int .i64 0] 27)))
                have F5 := hid (two_new (w := w4) (.int .i64 0) (.int .i64 0) 27)
                generalize w4.alloc (.cells #[.int .i64 0, .int .i64 0] 27) = w5 at *
                generalize w4.heap.size = q5 at *
                have KP3 := hid (KP2.out w5 U5.out)
                clear KP2 R4 U4
                go_wp2_with fail
                refine KP3.out.mono ?_
                rintro e w6 ⟨v6, rfl, ow6⟩
                have U6 := hid (U5.out.trans ow6.touch (fun _ _ e => e))
                have R6 := hid (R5.out.new ow6.touch)
                have F6 := hid ((ow6.touch.block q5 (lt_of_block F5.out) id).trans F5.out)
                obtain ⟨a6, c6, hv6, hr6⟩ := ow6.rg
                subst hv6
                have M6 := hid hr6
                clear KP3 ow6 hr6 F5 R5 U5 hA2 hA3 hS2 hz2 hz3 hdl
                go_upto_region 15 with fail
                have U7 := hid (T3.out.trans (U6.out.alloc (.cells #[.int .i64 0, .int .i64 0] 27)) (fun _ _ e => e))
                have tA := (Touch.refl (fun _ => False) w6).alloc (.cells #[.int .i64 0, .int .i64 0] 27)
                have R7 := hid (R6.out.new tA)
                have M7 := hid (M6.out.new tA)
                have F7 := hid ((tA.block q5 (lt_of_block F6.out) id).trans F6.out)
                have E7 := hid (two_new (w := w6) (.int .i64 0) (.int .i64 0) 27)
                clear tA R6 M6 F6 U6
                generalize w6.alloc (.cells #[.int .i64 0, .int .i64 0] 27) = w7 at *
                generalize w6.heap.size = q7 at *
                have f0 := cell_two0 F7.out
                have f1 := cell_two1 F7.out
                have e0 := cell_two0 E7.out
                have e1 := cell_two1 E7.out
                rcases HBL.out with ⟨hB, hl⟩ | ⟨hB, hl⟩
                · have hs0 : s.toList = [] := by rw [toList_data]; exact hB
                  have hse : s.toList.isEmpty = true := by rw [hs0]; rfl
                  subst hl
                  obtain ⟨b, o, rfl, _, hc⟩ : ∃ b o, a4 = some ⟨b, o, none⟩ ∧ b < w7.heap.size ∧ ∀ i (h : i < [(⟨[], (n : Int)⟩ : Pc)].length), w7.cell? ⟨b, o + i * 2, none⟩ = some (sv ([(⟨[], (n : Int)⟩ : Pc)][i]).t) ∧ w7.cell? ⟨b, o + i * 2 + 1, none⟩ = some (gv ([(⟨[], (n : Int)⟩ : Pc)][i]).g) := by
                    rcases R7.out with h | h
                    · cases h
                    · exact h
                  obtain ⟨b6, o6, rfl, _, hc6⟩ : ∃ b o, a6 = some ⟨b, o, none⟩ ∧ b < w7.heap.size ∧ ∀ i (h : i < [(⟨[], (n : Int)⟩ : Pc)].length), w7.cell? ⟨b, o + i * 2, none⟩ = some (sv ([(⟨[], (n : Int)⟩ : Pc)][i]).t) ∧ w7.cell? ⟨b, o + i * 2 + 1, none⟩ = some (gv ([(⟨[], (n : Int)⟩ : Pc)][i]).g) := by
                    rcases M7.out with h | h
                    · cases h
                    · exact h
                  have d0 : w7.cell? ⟨b, o, none⟩ = some (.string ⟨#[]⟩) := (hc 0 (by simp)).1
                  have d1 : w7.cell? ⟨b, o + 1, none⟩ = some (.int .i64 (n : Int)) := (hc 0 (by simp)).2
                  have m0 : w7.cell? ⟨b6, o6, none⟩ = some (.string ⟨#[]⟩) := (hc6 0 (by simp)).1
                  have m1 : w7.cell? ⟨b6, o6 + 1, none⟩ = some (.int .i64 (n : Int)) := (hc6 0 (by simp)).2
                  clear hc hc6 hB HBL R7 M7
                  go_wp2_with fail
                  go_quiet (fail)
                  go_wp2_with fail
                  go_quiet (fail)
                  go_wp2
                  go_ret
                  exact ⟨rfl, ((U7.out.drewN _).drewN _).below _ (Nat.le_refl _) (fun _ e => e.elim)⟩
                · have hs0 : ¬ s.toList = [] := by rw [toList_data]; exact hB
                  have hse : s.toList.isEmpty = false := by
                    rw [Bool.eq_false_iff]
                    intro e
                    rw [List.isEmpty_iff, toList_data] at e
                    exact hB e
                  have hbq : (s.toList == s.toList) = true := by simp
                  subst hl
                  obtain ⟨b, o, rfl, _, hc⟩ : ∃ b o, a4 = some ⟨b, o, none⟩ ∧ b < w7.heap.size ∧ ∀ i (h : i < [(⟨[], (n : Int)⟩ : Pc), ⟨s.data.toList, -1⟩].length), w7.cell? ⟨b, o + i * 2, none⟩ = some (sv ([(⟨[], (n : Int)⟩ : Pc), ⟨s.data.toList, -1⟩][i]).t) ∧ w7.cell? ⟨b, o + i * 2 + 1, none⟩ = some (gv ([(⟨[], (n : Int)⟩ : Pc), ⟨s.data.toList, -1⟩][i]).g) := by
                    rcases R7.out with h | h
                    · cases h
                    · exact h
                  obtain ⟨b6, o6, rfl, _, hc6⟩ : ∃ b o, a6 = some ⟨b, o, none⟩ ∧ b < w7.heap.size ∧ ∀ i (h : i < [(⟨[], (n : Int)⟩ : Pc), ⟨s.data.toList, -1⟩].length), w7.cell? ⟨b, o + i * 2, none⟩ = some (sv ([(⟨[], (n : Int)⟩ : Pc), ⟨s.data.toList, -1⟩][i]).t) ∧ w7.cell? ⟨b, o + i * 2 + 1, none⟩ = some (gv ([(⟨[], (n : Int)⟩ : Pc), ⟨s.data.toList, -1⟩][i]).g) := by
                    rcases M7.out with h | h
                    · cases h
                    · exact h
                  have d0 : w7.cell? ⟨b, o, none⟩ = some (.string ⟨#[]⟩) := (hc 0 (by simp)).1
                  have d1 : w7.cell? ⟨b, o + 1, none⟩ = some (.int .i64 (n : Int)) := (hc 0 (by simp)).2
                  have d2 : w7.cell? ⟨b, o + 2, none⟩ = some (.string s) := (hc 1 (by simp)).1
                  have d3 : w7.cell? ⟨b, o + 3, none⟩ = some (.int .i64 (-1)) := (hc 1 (by simp)).2
                  have m0 : w7.cell? ⟨b6, o6, none⟩ = some (.string ⟨#[]⟩) := (hc6 0 (by simp)).1
                  have m1 : w7.cell? ⟨b6, o6 + 1, none⟩ = some (.int .i64 (n : Int)) := (hc6 0 (by simp)).2
                  have m2 : w7.cell? ⟨b6, o6 + 2, none⟩ = some (.string s) := (hc6 1 (by simp)).1
                  have m3 : w7.cell? ⟨b6, o6 + 3, none⟩ = some (.int .i64 (-1)) := (hc6 1 (by simp)).2
                  clear hc hc6 hB HBL R7 M7
                  go_wp2_with fail
                  go_quiet (fail)
                  go_wp2_with fail
                  go_quiet (fail)
                  go_wp2
                  go_ret
                  exact ⟨rfl, ((U7.out.drewN _).drewN _).below _ (Nat.le_refl _) (fun _ e => e.elim)⟩
              · rw [P1.out, if_neg hgl] at KP1
                rw [P2.out, if_neg hgl] at KP2
                dsimp only at KP1 KP2
                clear P1 P2
                have hgI : (g : Int) ≤ (n : Int) := by omega
                refine KP1.out.mono ?_
                rintro e w4 ⟨v4, rfl, ow4⟩
                have U4 := hid ow4.touch
                obtain ⟨a4, c4, hv4⟩ := own_shape ow4.own
                subst hv4
                clear KP1 ow4
                go_upto_region 14 with fail
                have U5 := hid (U4.out.alloc (.cells #[.int .i64 27, .int .i64 0] 27))
                have F5 := hid (two_new (w := w4) (.int .i64 27) (.int .i64 0) 27)
                generalize w4.alloc (.cells #[.int .i64 27, .int .i64 0] 27) = w5 at *
                generalize w4.heap.size = q5 at *
                have KP3 := hid (KP2.out w5 U5.out)
                clear KP2 U4
                go_wp2_with fail
                refine KP3.out.mono ?_
                rintro e w6 ⟨v6, rfl, ow6⟩
                have U6 := hid (U5.out.trans ow6.touch (fun _ _ e => e))
                have F6 := hid ((ow6.touch.block q5 (lt_of_block F5.out) id).trans F5.out)
                obtain ⟨a6, c6, hv6⟩ := own_shape ow6.own
                subst hv6
                clear KP3 ow6 F5 U5 hA2 hA3 hS2 hz2 hz3 hdl
                go_upto_region 15 with fail
                have U7 := hid (T3.out.trans (U6.out.alloc (.cells #[.int .i64 27, .int .i64 0] 27)) (fun _ _ e => e))
                have tA := (Touch.refl (fun _ => False) w6).alloc (.cells #[.int .i64 27, .int .i64 0] 27)
                have F7 := hid ((tA.block q5 (lt_of_block F6.out) id).trans F6.out)
                have E7 := hid (two_new (w := w6) (.int .i64 27) (.int .i64 0) 27)
                clear tA F6 U6
                generalize w6.alloc (.cells #[.int .i64 27, .int .i64 0] 27) = w7 at *
                generalize w6.heap.size = q7 at *
                go_upto_region 17 with fail
                have tB := (Touch.refl (fun _ => False) w7).alloc (.cells #[.int .i64 27, .int .i64 0] 27)
                have U8 := hid (U7.out.trans tB (fun _ _ e => e))
                have F8 := hid ((tB.block q5 (lt_of_block F7.out) id).trans F7.out)
                have E8 := hid ((tB.block q7 (lt_of_block E7.out) id).trans E7.out)
                have D8 := hid (two_new (w := w7) (.int .i64 27) (.int .i64 0) 27)
                clear tB F7 E7 U7
                generalize w7.alloc (.cells #[.int .i64 27, .int .i64 0] 27) = w8 at *
                generalize w7.heap.size = q8 at *
                have f0 := cell_two0 F8.out
                have f1 := cell_two1 F8.out
                have e0 := cell_two0 E8.out
                have e1 := cell_two1 E8.out
                have d0 := cell_two0 D8.out
                have d1 := cell_two1 D8.out
                go_wp2
                go_ret
                exact ⟨rfl, U8.out.below _ (Nat.le_refl _) (fun _ e => e.elim)⟩
      · have h0I : ¬ (0 : Int) < (s.size : Int) := by omega
        go_wp2_with fail
        go_loopg [7] s.size (fun gk v7 wr => ∃ i : Nat, i + gk = s.size ∧ v7 = .int .i64 (i : Nat) ∧ Hid (∀ c ∈ s.data.toList.take i, c ≠ 36) ∧ w1 = wr)
        case atStart => exact ⟨0, by omega, rfl, hid (fun c hc => by simp at hc), rfl⟩
        case round =>
          obtain ⟨i, hi, rfl, HA, rfl⟩ := hrel
          by_cases hlt : i < s.size
          · exact absurd hlt (by omega)
          · obtain rfl : i = s.size := by omega
            have htk : s.data.toList.take s.size = s.data.toList := List.take_of_length_le (by rw [size_list]; exact Nat.le_refl _)
            rw [htk] at HA
            clear htk
            have HBH := hid (bh_of HA.out HND.out)
            clear HA HND
            have HDG := hid (show Dg (decF 4 n) n from (by
              have h := decF_ok 4 n (by decide) (by omega)
              exact ⟨h.1, h.2.1, h.2.2.1, h.2.2.2⟩))
            have KN := hid (lnumber_any 4 n (by decide) (by decide) (by omega))
            unfold sv at KN
            generalize decF 4 n = D at *
            obtain ⟨A1, hA1⟩ : ∃ A1 : ByteArray, (⟨#[36]⟩ : ByteArray) ++ ⟨D.toArray⟩ = A1 := ⟨_, rfl⟩
            obtain ⟨S1, hS1⟩ : ∃ S1 : ByteArray, A1 ++ s = S1 := ⟨_, rfl⟩
            obtain ⟨A2, hA2⟩ : ∃ A2 : ByteArray, (⟨#[36, 123]⟩ : ByteArray) ++ ⟨D.toArray⟩ = A2 := ⟨_, rfl⟩
            obtain ⟨A3, hA3⟩ : ∃ A3 : ByteArray, A2 ++ ⟨#[125]⟩ = A3 := ⟨_, rfl⟩
            obtain ⟨S2, hS2⟩ : ∃ S2 : ByteArray, A3 ++ s = S2 := ⟨_, rfl⟩
            have L1 := hid (show S1.data.toList = 36 :: (D ++ s.data.toList) from by rw [← hS1, add_list, ← hA1, add_list]; rfl)
            have L2 := hid (show S2.data.toList = 36 :: 123 :: (D ++ 125 :: s.data.toList) from by rw [← hS2, add_list, ← hA3, add_list, ← hA2, add_list]; simp)
            have hsl : s.data.toList.length ≤ 900 := by rw [size_list]; omega
            have P1 := hid (parse_num1 (ns := List.replicate g []) HDG.out HBH.out hsl)
            have P2 := hid (parse_num2 (ns := List.replicate g []) HDG.out HBH.out hsl)
            rw [← L1.out, List.length_replicate] at P1
            rw [← L2.out, List.length_replicate] at P2
            have Z1 := hid (show S1.size ≤ 140737488351232 from by
              have := HDG.out.four
              rw [← size_list, L1.out]
              simp only [List.length_cons, List.length_append]
              omega)
            have Z2 := hid (show S2.size ≤ 140737488351232 from by
              have := HDG.out.four
              rw [← size_list, L2.out]
              simp only [List.length_cons, List.length_append]
              omega)
            have hz1 : A1.size ≤ 5 := by
              have := HDG.out.four
              rw [← size_list, ← hA1, add_list, List.length_append]
              show 1 + D.length ≤ 5
              omega
            have hz2 : A2.size ≤ 6 := by
              have := HDG.out.four
              rw [← size_list, ← hA2, add_list, List.length_append]
              show 2 + D.length ≤ 6
              omega
            have hz3 : A3.size ≤ 7 := by
              rw [← size_list, ← hA3, add_list, List.length_append, size_list]
              show A2.size + 1 ≤ 7
              omega
            have hdl : D.length ≤ 4 := HDG.out.four
            clear L1 L2 HDG hsl
            go_wp2_with fail
            refine (KN.out w1).mono ?_
            rintro e w2 ⟨rfl, t2⟩
            have T2 := hid (T1.out.trans t2 (fun _ _ e => e))
            clear t2 KN
            have hmk := mk33 g hgb w2
            have N3 := hid (names_new w2 g)
            have T3 := hid (T2.out.alloc (.cells (Array.replicate g (.string ⟨#[]⟩)) 9))
            have t3 := hid ((Touch.refl (fun _ => False) w2).alloc (.cells (Array.replicate g (.string ⟨#[]⟩)) 9))
            go_wp2_with fail
            generalize w2.alloc (.cells (Array.replicate g (.string ⟨#[]⟩)) 9) = w3 at *
            generalize w2.heap.size = q3 at *
            have hgr : (List.replicate g ([] : Bs)).length ≤ 140737488355328 := by rw [List.length_replicate]; omega
            have KP1 := hid (parse_any S1 _ (List.replicate g []) w3 Z1.out N3.out hgr (HX0.out.new T3.out))
            have KP2 := hid (fun w' (t : Touch (fun _ => False) w3 w') => parse_any S2 _ (List.replicate g []) w' Z2.out (N3.out.new t) hgr (HX0.out.new (T3.out.trans t (fun _ _ e => e))))
            clear hmk hA1 hS1 hz1 Z1 Z2 N3 T2 t3 hgr
            by_cases hgl : n < g
            · rw [P1.out, if_pos hgl] at KP1
              rw [P2.out, if_pos hgl] at KP2
              dsimp only at KP1 KP2
              clear P1 P2
              have hgI : ¬ (g : Int) ≤ (n : Int) := by omega
              have HBL := hid (show s.data.toList = [] ∧ nm [⟨[], (n : Int)⟩] s.data.toList = [⟨[], (n : Int)⟩] ∨ s.data.toList ≠ [] ∧ nm [⟨[], (n : Int)⟩] s.data.toList = [⟨[], (n : Int)⟩, ⟨s.data.toList, -1⟩] from by
                by_cases hB : s.data.toList = []
                · exact .inl ⟨hB, by rw [hB]; exact nm_nil⟩
                · exact .inr ⟨hB, by rw [nm_pos hB]; rfl⟩)
              generalize nm [⟨[], (n : Int)⟩] s.data.toList = l at *
              refine KP1.out.mono ?_
              rintro e w4 ⟨v4, rfl, ow4⟩
              have U4 := hid ow4.touch
              obtain ⟨a4, c4, hv4, hr4⟩ := ow4.rg
              subst hv4
              have R4 := hid hr4
              clear KP1 ow4 hr4
              go_upto_region 14 with fail
              have U5 := hid (U4.out.alloc (.cells #[.int .i64 0, .int .i64 0] 27))
              have R5 := hid (R4.out.new ((Touch.refl _ _).alloc (.cells #[.int .i64 0, .int .i64 0] 27)))
              have F5 := hid (two_new (w := w4) (.int .i64 0) (.int .i64 0) 27)
              generalize w4.alloc (.cells #[.int .i64 0, .int .i64 0] 27) = w5 at *
              generalize w4.heap.size = q5 at *
              have KP3 := hid (KP2.out w5 U5.out)
              clear KP2 R4 U4
              go_wp2_with fail
              refine KP3.out.mono ?_
              rintro e w6 ⟨v6, rfl, ow6⟩
              have U6 := hid (U5.out.trans ow6.touch (fun _ _ e => e))
              have R6 := hid (R5.out.new ow6.touch)
              have F6 := hid ((ow6.touch.block q5 (lt_of_block F5.out) id).trans F5.out)
              obtain ⟨a6, c6, hv6, hr6⟩ := ow6.rg
              subst hv6
              have M6 := hid hr6
              clear KP3 ow6 hr6 F5 R5 U5 hA2 hA3 hS2 hz2 hz3 hdl
              go_upto_region 15 with fail
              have U7 := hid (T3.out.trans (U6.out.alloc (.cells #[.int .i64 0, .int .i64 0] 27)) (fun _ _ e => e))
              have tA := (Touch.refl (fun _ => False) w6).alloc (.cells #[.int .i64 0, .int .i64 0] 27)
              have R7 := hid (R6.out.new tA)
              have M7 := hid (M6.out.new tA)
              have F7 := hid ((tA.block q5 (lt_of_block F6.out) id).trans F6.out)
              have E7 := hid (two_new (w := w6) (.int .i64 0) (.int .i64 0) 27)
              clear tA R6 M6 F6 U6
              generalize w6.alloc (.cells #[.int .i64 0, .int .i64 0] 27) = w7 at *
              generalize w6.heap.size = q7 at *
              have f0 := cell_two0 F7.out
              have f1 := cell_two1 F7.out
              have e0 := cell_two0 E7.out
              have e1 := cell_two1 E7.out
              rcases HBL.out with ⟨hB, hl⟩ | ⟨hB, hl⟩
              · have hs0 : s.toList = [] := by rw [toList_data]; exact hB
                have hse : s.toList.isEmpty = true := by rw [hs0]; rfl
                subst hl
                obtain ⟨b, o, rfl, _, hc⟩ : ∃ b o, a4 = some ⟨b, o, none⟩ ∧ b < w7.heap.size ∧ ∀ i (h : i < [(⟨[], (n : Int)⟩ : Pc)].length), w7.cell? ⟨b, o + i * 2, none⟩ = some (sv ([(⟨[], (n : Int)⟩ : Pc)][i]).t) ∧ w7.cell? ⟨b, o + i * 2 + 1, none⟩ = some (gv ([(⟨[], (n : Int)⟩ : Pc)][i]).g) := by
                  rcases R7.out with h | h
                  · cases h
                  · exact h
                obtain ⟨b6, o6, rfl, _, hc6⟩ : ∃ b o, a6 = some ⟨b, o, none⟩ ∧ b < w7.heap.size ∧ ∀ i (h : i < [(⟨[], (n : Int)⟩ : Pc)].length), w7.cell? ⟨b, o + i * 2, none⟩ = some (sv ([(⟨[], (n : Int)⟩ : Pc)][i]).t) ∧ w7.cell? ⟨b, o + i * 2 + 1, none⟩ = some (gv ([(⟨[], (n : Int)⟩ : Pc)][i]).g) := by
                  rcases M7.out with h | h
                  · cases h
                  · exact h
                have d0 : w7.cell? ⟨b, o, none⟩ = some (.string ⟨#[]⟩) := (hc 0 (by simp)).1
                have d1 : w7.cell? ⟨b, o + 1, none⟩ = some (.int .i64 (n : Int)) := (hc 0 (by simp)).2
                have m0 : w7.cell? ⟨b6, o6, none⟩ = some (.string ⟨#[]⟩) := (hc6 0 (by simp)).1
                have m1 : w7.cell? ⟨b6, o6 + 1, none⟩ = some (.int .i64 (n : Int)) := (hc6 0 (by simp)).2
                clear hc hc6 hB HBL R7 M7
                go_wp2_with fail
                go_quiet (fail)
                go_wp2_with fail
                go_quiet (fail)
                go_wp2
                go_ret
                exact ⟨rfl, ((U7.out.drewN _).drewN _).below _ (Nat.le_refl _) (fun _ e => e.elim)⟩
              · have hs0 : ¬ s.toList = [] := by rw [toList_data]; exact hB
                have hse : s.toList.isEmpty = false := by
                  rw [Bool.eq_false_iff]
                  intro e
                  rw [List.isEmpty_iff, toList_data] at e
                  exact hB e
                have hbq : (s.toList == s.toList) = true := by simp
                subst hl
                obtain ⟨b, o, rfl, _, hc⟩ : ∃ b o, a4 = some ⟨b, o, none⟩ ∧ b < w7.heap.size ∧ ∀ i (h : i < [(⟨[], (n : Int)⟩ : Pc), ⟨s.data.toList, -1⟩].length), w7.cell? ⟨b, o + i * 2, none⟩ = some (sv ([(⟨[], (n : Int)⟩ : Pc), ⟨s.data.toList, -1⟩][i]).t) ∧ w7.cell? ⟨b, o + i * 2 + 1, none⟩ = some (gv ([(⟨[], (n : Int)⟩ : Pc), ⟨s.data.toList, -1⟩][i]).g) := by
                  rcases R7.out with h | h
                  · cases h
                  · exact h
                obtain ⟨b6, o6, rfl, _, hc6⟩ : ∃ b o, a6 = some ⟨b, o, none⟩ ∧ b < w7.heap.size ∧ ∀ i (h : i < [(⟨[], (n : Int)⟩ : Pc), ⟨s.data.toList, -1⟩].length), w7.cell? ⟨b, o + i * 2, none⟩ = some (sv ([(⟨[], (n : Int)⟩ : Pc), ⟨s.data.toList, -1⟩][i]).t) ∧ w7.cell? ⟨b, o + i * 2 + 1, none⟩ = some (gv ([(⟨[], (n : Int)⟩ : Pc), ⟨s.data.toList, -1⟩][i]).g) := by
                  rcases M7.out with h | h
                  · cases h
                  · exact h
                have d0 : w7.cell? ⟨b, o, none⟩ = some (.string ⟨#[]⟩) := (hc 0 (by simp)).1
                have d1 : w7.cell? ⟨b, o + 1, none⟩ = some (.int .i64 (n : Int)) := (hc 0 (by simp)).2
                have d2 : w7.cell? ⟨b, o + 2, none⟩ = some (.string s) := (hc 1 (by simp)).1
                have d3 : w7.cell? ⟨b, o + 3, none⟩ = some (.int .i64 (-1)) := (hc 1 (by simp)).2
                have m0 : w7.cell? ⟨b6, o6, none⟩ = some (.string ⟨#[]⟩) := (hc6 0 (by simp)).1
                have m1 : w7.cell? ⟨b6, o6 + 1, none⟩ = some (.int .i64 (n : Int)) := (hc6 0 (by simp)).2
                have m2 : w7.cell? ⟨b6, o6 + 2, none⟩ = some (.string s) := (hc6 1 (by simp)).1
                have m3 : w7.cell? ⟨b6, o6 + 3, none⟩ = some (.int .i64 (-1)) := (hc6 1 (by simp)).2
                clear hc hc6 hB HBL R7 M7
                go_wp2_with fail
                go_quiet (fail)
                go_wp2_with fail
                go_quiet (fail)
                go_wp2
                go_ret
                exact ⟨rfl, ((U7.out.drewN _).drewN _).below _ (Nat.le_refl _) (fun _ e => e.elim)⟩
            · rw [P1.out, if_neg hgl] at KP1
              rw [P2.out, if_neg hgl] at KP2
              dsimp only at KP1 KP2
              clear P1 P2
              have hgI : (g : Int) ≤ (n : Int) := by omega
              refine KP1.out.mono ?_
              rintro e w4 ⟨v4, rfl, ow4⟩
              have U4 := hid ow4.touch
              obtain ⟨a4, c4, hv4⟩ := own_shape ow4.own
              subst hv4
              clear KP1 ow4
              go_upto_region 14 with fail
              have U5 := hid (U4.out.alloc (.cells #[.int .i64 27, .int .i64 0] 27))
              have F5 := hid (two_new (w := w4) (.int .i64 27) (.int .i64 0) 27)
              generalize w4.alloc (.cells #[.int .i64 27, .int .i64 0] 27) = w5 at *
              generalize w4.heap.size = q5 at *
              have KP3 := hid (KP2.out w5 U5.out)
              clear KP2 U4
              go_wp2_with fail
              refine KP3.out.mono ?_
              rintro e w6 ⟨v6, rfl, ow6⟩
              have U6 := hid (U5.out.trans ow6.touch (fun _ _ e => e))
              have F6 := hid ((ow6.touch.block q5 (lt_of_block F5.out) id).trans F5.out)
              obtain ⟨a6, c6, hv6⟩ := own_shape ow6.own
              subst hv6
              clear KP3 ow6 F5 U5 hA2 hA3 hS2 hz2 hz3 hdl
              go_upto_region 15 with fail
              have U7 := hid (T3.out.trans (U6.out.alloc (.cells #[.int .i64 27, .int .i64 0] 27)) (fun _ _ e => e))
              have tA := (Touch.refl (fun _ => False) w6).alloc (.cells #[.int .i64 27, .int .i64 0] 27)
              have F7 := hid ((tA.block q5 (lt_of_block F6.out) id).trans F6.out)
              have E7 := hid (two_new (w := w6) (.int .i64 27) (.int .i64 0) 27)
              clear tA F6 U6
              generalize w6.alloc (.cells #[.int .i64 27, .int .i64 0] 27) = w7 at *
              generalize w6.heap.size = q7 at *
              go_upto_region 17 with fail
              have tB := (Touch.refl (fun _ => False) w7).alloc (.cells #[.int .i64 27, .int .i64 0] 27)
              have U8 := hid (U7.out.trans tB (fun _ _ e => e))
              have F8 := hid ((tB.block q5 (lt_of_block F7.out) id).trans F7.out)
              have E8 := hid ((tB.block q7 (lt_of_block E7.out) id).trans E7.out)
              have D8 := hid (two_new (w := w7) (.int .i64 27) (.int .i64 0) 27)
              clear tB F7 E7 U7
              generalize w7.alloc (.cells #[.int .i64 27, .int .i64 0] 27) = w8 at *
              generalize w7.heap.size = q8 at *
              have f0 := cell_two0 F8.out
              have f1 := cell_two1 F8.out
              have e0 := cell_two0 E8.out
              have e1 := cell_two1 E8.out
              have d0 := cell_two0 D8.out
              have d1 := cell_two1 D8.out
              go_wp2
              go_ret
              exact ⟨rfl, U8.out.below _ (Nat.le_refl _) (fun _ e => e.elim)⟩
end Go.Proofs.YtnohikoeaepfpaaDoor
