/- Texts of this proof, one behind the other: what each says stands ahead of it. -/
import Derived.Test.YtdchbbegbijjgaaDoorM0
import Derived.Laws.Externs
import Derived.Lib.SmallJoins
/- Number and the document's Number, of any text; condition: the text fits into memory. -/
namespace Go.Proofs.YtdchbbegbijjgaaDoor
open Go.RowKit
open Go.Lib

theorem byte_at (d : ByteArray) (i : Nat) (h : i < d.size) : d.data.toList.drop i = d[i] :: d.data.toList.drop (i + 1) := by
  rw [List.drop_eq_getElem_cons (by simpa using h)]
  rfl
theorem drop_all (d : ByteArray) : d.data.toList.drop d.size = [] := List.drop_eq_nil_of_le (by simp)
theorem list_ne {d : ByteArray} (h : 0 < d.size) : d.toList.isEmpty = false := by
  rw [Bool.eq_false_iff]
  intro e
  rw [List.isEmpty_iff, toList_data] at e
  have : d.data.toList.length = 0 := by rw [e]; rfl
  rw [Array.length_toList] at this
  have h2 : d.size = 0 := this
  omega
def tupN (x : Nat × Bool) : Value := .tuple #[.int .i64 (x.1 : Nat), .bool x.2]

set_option maxRecDepth 100000 in
set_option maxHeartbeats 4000000 in
theorem octal_any (s : ByteArray) (hs : s.size ≤ 140737488351232) (w : World) :
    Calls Tryd.prog 10 #[.string s] w fun e w' => e = .returned (tupN (octR 0 (s.data.toList.dropWhile fun b => decide (b.toNat = 32)))) ∧ Touch (fun _ => False) w w' := by
  have k1 := Any.strings_TrimLeft_laid Tryd.lays161 (by kernel_rfl) s ⟨#[32]⟩ w (by decide) (ascii_of_all (by decide))
  change Calls Tryd.prog 15 _ _ (fun e w' => e = .returned (.string ⟨(trimLeftS s.data.toList [32]).toArray⟩) ∧ Below w.heap.size w w') at k1
  have hlen : (trimLeftS s.data.toList [32]).length ≤ s.data.toList.length := by
    unfold trimLeftS
    exact (List.dropWhile_sublist _).length_le
  obtain ⟨s1, hs1⟩ : ∃ s1 : ByteArray, s1 = ⟨(trimLeftS s.data.toList [32]).toArray⟩ := ⟨_, rfl⟩
  have hl1 : s1.data.toList = trimLeftS s.data.toList [32] := by rw [hs1]
  have hsz1 : s1.size ≤ 140737488351232 := by
    have e : s1.size = s1.data.toList.length := by rw [Array.length_toList]; rfl
    have e2 : s.data.toList.length = s.size := by rw [Array.length_toList]; rfl
    rw [e, hl1]
    omega
  obtain ⟨t, ht⟩ : ∃ t : ByteArray, t = ⟨(trimRightS s1.data.toList [32, 0]).toArray⟩ := ⟨_, rfl⟩
  have hlt : t.data.toList = trimRightS s1.data.toList [32, 0] := by rw [ht]
  have k2 : ∀ w, Calls Tryd.prog 14 #[.string s1, .string ⟨#[32, 0]⟩] w fun e w' => e = .returned (.string t) ∧ Below w.heap.size w w' := fun w => by
    have k := Any.strings_TrimRight_laid Tryd.lays162 (by kernel_rfl) s1 ⟨#[32, 0]⟩ w (by omega) (by decide) (ascii_of_all (by decide))
    change Calls Tryd.prog 14 _ _ (fun e w' => e = .returned (.string ⟨(trimRightS s1.data.toList [32, 0]).toArray⟩) ∧ Below w.heap.size w w') at k
    rw [← ht] at k
    exact k
  rw [← hs1] at k1
  have hts : t.size ≤ 140737488351232 := by
    have e : t.size = t.data.toList.length := by rw [Array.length_toList]; rfl
    have e1 : s1.size = s1.data.toList.length := by rw [Array.length_toList]; rfl
    have e2 : (trimRightS s1.data.toList [32, 0]).length ≤ s1.data.toList.length := by
      unfold trimRightS
      rw [List.length_reverse]
      refine Nat.le_trans (List.dropWhile_sublist _).length_le ?_
      rw [List.length_reverse]
      exact Nat.le_refl _
    rw [e, hlt]
    omega
  have HGO := hid (show octD 0 t.data.toList = octR 0 (s.data.toList.dropWhile fun b => decide (b.toNat = 32)) from by rw [hlt, oct_trim, hl1, trimL_is])
  have K1 := hid k1
  have K2 := hid k2
  clear k1 k2 hs1 ht hlt hl1 hlen
  obtain ⟨X, hX⟩ : ∃ X, X = octR 0 (s.data.toList.dropWhile fun b => decide (b.toNat = 32)) := ⟨_, rfl⟩
  rw [← hX] at HGO ⊢
  clear hX
  go_enter Tryd.func10, Tryd.ntmps10
  go_wp2_with fail
  refine K1.out.mono ?_
  rintro e w1 ⟨rfl, b1⟩
  have T1 := hid (Below.touch b1)
  clear b1 K1
  go_wp2_with fail
  refine (K2.out w1).mono ?_
  rintro e w2 ⟨rfl, b2⟩
  have T2 := hid (T1.out.trans (Below.touch b2) (fun _ _ e => e))
  clear b2 K2 T1
  go_wp2_with fail
  go_loopg [5, 12] t.size (fun gk v5 v12 wq => ∃ i n : Nat, i + gk = t.size ∧ v12 = .int .i64 (i : Nat) ∧ v5 = .int .i64 (n : Nat) ∧ n ≤ 1099511627776 ∧ Hid (octD n (t.data.toList.drop i) = X) ∧ w2 = wq)
  case atStart => exact ⟨0, 0, by omega, rfl, rfl, by omega, HGO, rfl⟩
  case round =>
    obtain ⟨i, a, hi, rfl, rfl, ha, HD, rfl⟩ := hrel
    by_cases hlt : i < t.size
    · have hltI : (i : Int) < (t.size : Int) := by omega
      rw [byte_at t i hlt, octD] at HD
      obtain ⟨x, hxe⟩ : ∃ x : Nat, x = t[i].toNat := ⟨_, rfl⟩
      have hbg : t[i].toNat = x := hxe.symm
      have hx255 : x < 256 := by rw [hxe]; exact UInt8.toNat_lt _
      rw [hbg] at HD
      clear hxe
      by_cases h48 : x < 48
      · rw [if_pos (.inl h48)] at HD
        have hI : (x : Int) < 48 := by omega
        go_wp2
        refine bodyPost_ret (results_tmp2 rfl _ _ _) rfl ?_
        exact ⟨by rw [← HD.out]; rfl, T2.out⟩
      · by_cases h55 : 55 < x
        · rw [if_pos (.inr h55)] at HD
          have hI : ¬ (x : Int) < 48 := by omega
          have hI2 : 55 < (x : Int) := by omega
          go_wp2
          refine bodyPost_ret (results_tmp2 rfl _ _ _) rfl ?_
          exact ⟨by rw [← HD.out]; rfl, T2.out⟩
        · rw [if_neg (by omega)] at HD
          have hI : ¬ (x : Int) < 48 := by omega
          have hI2 : ¬ 55 < (x : Int) := by omega
          have HOR := hid (show bits .or .i64 ((a : Int) * 8) ((x : Int) - 48) = ((8 * a + (x - 48) : Nat) : Int) by
            rw [show (a : Int) * 8 = ((2 ^ 3 * a : Nat) : Int) by omega, show (x : Int) - 48 = ((x - 48 : Nat) : Int) by omega, or_high (x - 48) a 3 (by omega) (by omega)])
          obtain ⟨m, hm⟩ : ∃ m, m = 8 * a + (x - 48) := ⟨_, rfl⟩
          rw [← hm] at HOR HD
          clear hm
          go_upto_region 8 with fail
          have hor := HOR.out
          by_cases hbig : m > 1099511627776
          · rw [if_pos hbig] at HD
            have hbI : 1099511627776 < (m : Int) := by omega
            go_wp2
            refine bodyPost_ret (results_tmp2 rfl _ _ _) rfl ?_
            exact ⟨by rw [← HD.out]; rfl, T2.out⟩
          · rw [if_neg hbig] at HD
            have hbI : ¬ 1099511627776 < (m : Int) := by omega
            go_wp2
            go_roundg (gk - 1)
            case measure => omega
            case rel => exact ⟨i + 1, m, by omega, by go_num, rfl, by omega, HD, rfl⟩
    · obtain rfl : i = t.size := by omega
      rw [drop_all, octD] at HD
      go_wp2
      refine bodyPost_ret (results_tmp2 rfl _ _ _) rfl ?_
      exact ⟨by rw [← HD.out]; rfl, T2.out⟩
end Go.Proofs.YtdchbbegbijjgaaDoor

/- Of records: digitsAhead, Atoi, recordSize, Cut, and the document's upto and digits; condition: the text fits into memory. -/
namespace Go.Proofs.YtdchbbegbijjgaaDoor
open Go.RowKit
open Go.Lib

theorem dAh_le : ∀ cs : List UInt8, dAh cs ≤ cs.length
  | [] => Nat.le_refl _
  | c :: cs => by
    have := dAh_le cs
    rw [dAh]
    split
    · simp only [List.length_cons]; omega
    · exact Nat.zero_le _
theorem dig_iff (c : UInt8) : digB c = true ↔ (48 ≤ c.toNat ∧ c.toNat ≤ 57) := by
  unfold digB
  rw [decide_eq_true_eq]

set_option maxRecDepth 100000 in
set_option maxHeartbeats 4000000 in
theorem digitsAhead_any (s : ByteArray) (hs : s.size ≤ 140737488351232) (w : World) :
    Calls Tryd.prog 25 #[.string s] w fun e w' => e = .returned (.int .i64 (dAh s.data.toList : Nat)) ∧ w = w' := by
  obtain ⟨X, hX⟩ : ∃ X, X = dAh s.data.toList := ⟨_, rfl⟩
  have HX := hid hX.symm
  rw [← hX]
  clear hX
  go_enter Tryd.func25, Tryd.ntmps25
  go_wp2_with fail
  go_loopg [6] s.size (fun gk v6 wq => ∃ i : Nat, i + gk = s.size ∧ v6 = .int .i64 (i : Nat) ∧ Hid (i + dAh (s.data.toList.drop i) = X) ∧ w = wq)
  case atStart => exact ⟨0, by omega, rfl, hid (by rw [List.drop_zero, Nat.zero_add]; exact HX.out), rfl⟩
  case round =>
    obtain ⟨i, hi, rfl, HD, rfl⟩ := hrel
    by_cases hlt : i < s.size
    · have hltI : (i : Int) < (s.size : Int) := by omega
      rw [byte_at s i hlt, dAh] at HD
      have HDG := hid (dig_iff s[i])
      obtain ⟨x, hxe⟩ : ∃ x : Nat, x = s[i].toNat := ⟨_, rfl⟩
      have hbg : s[i].toNat = x := hxe.symm
      rw [hbg] at HDG
      clear hxe
      by_cases hd : digB s[i] = true
      · rw [if_pos hd] at HD
        have hr := HDG.out.1 hd
        have h1 : ¬ (x : Int) < 48 := by omega
        have h2 : ¬ 57 < (x : Int) := by omega
        clear hd
        go_wp2
        go_roundg (gk - 1)
        case measure => omega
        case rel => exact ⟨i + 1, by omega, by go_num, hid (by have := HD.out; omega), rfl⟩
      · rw [if_neg hd, Nat.add_zero] at HD
        have HNR := hid (show ¬ (48 ≤ x ∧ x ≤ 57) from fun h => hd (HDG.out.2 h))
        clear hd
        by_cases h1 : (x : Int) < 48
        · go_wp2
          go_ret
          exact ⟨by rw [HD.out]; rfl, rfl⟩
        · have h2 : 57 < (x : Int) := by
            have := HNR.out
            omega
          go_wp2
          go_ret
          exact ⟨by rw [HD.out]; rfl, rfl⟩
    · obtain rfl : i = s.size := by omega
      rw [drop_all] at HD
      have hXs : s.size = X := HD.out
      have HXS := hid hXs
      clear hXs
      go_wp2
      go_ret
      exact ⟨by rw [← HXS.out]; rfl, rfl⟩

/-! ### The document's upto and digits -/
theorem idx_lt {c : UInt8} : ∀ {cs : List UInt8} {i : Nat}, idxOf c cs = some i → i < cs.length
  | [], _, h => by cases h
  | x :: cs, i, h => by
    rw [idxOf] at h
    split at h
    · cases h; simp
    · obtain ⟨j, hj, rfl⟩ := Option.map_eq_some_iff.1 h
      have := idx_lt hj
      simp only [List.length_cons]
      omega
def uptoV (s : ByteArray) (c : UInt8) : Value := match idxOf c s.data.toList with
  | some i => .tuple #[.string (s.extract 0 i), .bool true]
  | none => .tuple #[.string s, .bool false]
set_option maxRecDepth 100000 in
set_option maxHeartbeats 4000000 in
theorem upto_any (s : ByteArray) (c : UInt8) (hs : s.size ≤ 140737488351232) (w : World) :
    Calls Tryd.prog 12 #[.string s, .int .u8 (c.toNat : Nat)] w fun e w' => e = .returned (uptoV s c) ∧ w = w' := by
  obtain ⟨X, hX⟩ : ∃ X, X = uptoV s c := ⟨_, rfl⟩
  have HX := hid hX
  rw [← hX]
  clear hX
  go_enter Tryd.func12, Tryd.ntmps12
  go_wp2_with fail
  go_loopg [6] s.size (fun gk v6 wq => ∃ i : Nat, i + gk = s.size ∧ v6 = .int .i64 (i : Nat) ∧ Hid (idxOf c s.data.toList = (idxOf c (s.data.toList.drop i)).map (· + i)) ∧ w = wq)
  case atStart => exact ⟨0, by omega, rfl, hid (by simp), rfl⟩
  case round =>
    obtain ⟨i, hi, rfl, HD, rfl⟩ := hrel
    by_cases hlt : i < s.size
    · have hltI : (i : Int) < (s.size : Int) := by omega
      rw [byte_at s i hlt, idxOf] at HD
      by_cases hc : s[i] = c
      · rw [if_pos hc] at HD
        have hI : (s[i].toNat : Int) = (c.toNat : Int) := by rw [hc]
        have HE := hid (show X = .tuple #[.string (s.extract 0 i), .bool true] from by
          rw [HX.out]
          unfold uptoV
          rw [HD.out]
          simp)
        clear hc
        go_wp2
        refine bodyPost_ret (results_tmp2 rfl _ _ _) rfl ?_
        exact ⟨by rw [HE.out]; rfl, rfl⟩
      · rw [if_neg hc] at HD
        have hI : ¬ (s[i].toNat : Int) = (c.toNat : Int) := fun e => hc (UInt8.toNat_inj.1 (by omega))
        have HD2 := hid (show idxOf c s.data.toList = (idxOf c (s.data.toList.drop (i + 1))).map (· + (i + 1)) from by
          rw [HD.out, Option.map_map]
          congr 1
          funext k
          simp only [Function.comp]
          omega)
        clear hc
        go_wp2
        go_roundg (gk - 1)
        case measure => omega
        case rel => exact ⟨i + 1, by omega, by go_num, HD2, rfl⟩
    · obtain rfl : i = s.size := by omega
      rw [drop_all] at HD
      have HE := hid (show X = .tuple #[.string s, .bool false] from by
        rw [HX.out]
        unfold uptoV
        rw [HD.out]
        rfl)
      go_wp2
      refine bodyPost_ret (results_tmp2 rfl _ _ _) rfl ?_
      exact ⟨by rw [HE.out]; rfl, rfl⟩
theorem val_snoc (cs : List UInt8) (c : UInt8) : val10 (cs ++ [c]) = 10 * val10 cs + (c.toNat - 48) := by
  unfold val10
  rw [List.foldl_append]
  rfl
theorem val_bound : ∀ (k : Nat) (cs : List UInt8), cs.length ≤ k → (∀ c ∈ cs, digB c = true) → val10 cs < 10 ^ k := by
  intro k
  induction k with
  | zero =>
    intro cs h _
    have : cs = [] := List.eq_nil_of_length_eq_zero (by omega)
    rw [this]
    decide
  | succ k ih =>
    intro cs h hd
    rcases List.eq_nil_or_concat cs with rfl | ⟨cs', c, rfl⟩
    · show 0 < 10 ^ (k + 1)
      exact Nat.pow_pos (by decide)
    · rw [List.concat_eq_append] at h hd ⊢
      rw [val_snoc]
      have h1 := ih cs' (by simp at h; omega) (fun x hx => hd x (by simp [hx]))
      have h2 := (dig_iff c).1 (hd c (by simp))
      rw [Nat.pow_succ]
      omega
def digitsV (cs : List UInt8) : Nat × Bool := if 1 ≤ cs.length ∧ cs.length ≤ 9 ∧ cs.all digB = true then (val10 cs, true) else (0, false)
set_option maxRecDepth 100000 in
set_option maxHeartbeats 4000000 in
theorem digits_any (s : ByteArray) (hs : s.size ≤ 140737488351232) (w : World) :
    Calls Tryd.prog 13 #[.string s, .int .i64 9] w fun e w' => e = .returned (tupN (digitsV s.data.toList)) ∧ w = w' := by
  have hsl : s.data.toList.length = s.size := by rw [Array.length_toList]; rfl
  by_cases h0 : s.size = 0
  · have e : digitsV s.data.toList = (0, false) := by unfold digitsV; rw [if_neg (by omega)]
    rw [e]
    have h0I : (s.size : Int) = 0 := by omega
    go_enter Tryd.func13, Tryd.ntmps13
    go_wp2
    refine bodyPost_ret (results_tmp2 rfl _ _ _) rfl ?_
    exact ⟨rfl, rfl⟩
  · have h0I : ¬ (s.size : Int) = 0 := by omega
    have h0B : ((s.size : Int) == 0) = false := by simpa using h0I
    by_cases h9 : 9 < s.size
    · have e : digitsV s.data.toList = (0, false) := by unfold digitsV; rw [if_neg (by omega)]
      rw [e]
      have h9I : 9 < (s.size : Int) := by omega
      go_enter Tryd.func13, Tryd.ntmps13
      go_wp2
      refine bodyPost_ret (results_tmp2 rfl _ _ _) rfl ?_
      exact ⟨rfl, rfl⟩
    · have h9I : ¬ 9 < (s.size : Int) := by omega
      have HV := hid (show digitsV s.data.toList = if s.data.toList.all digB = true then (val10 s.data.toList, true) else (0, false) from by
        unfold digitsV
        by_cases ha : s.data.toList.all digB = true
        · rw [if_pos ha, if_pos ⟨by omega, by omega, ha⟩]
        · rw [if_neg ha, if_neg (fun e => ha e.2.2)])
      obtain ⟨X, hX⟩ : ∃ X, X = digitsV s.data.toList := ⟨_, rfl⟩
      rw [← hX] at HV ⊢
      clear hX
      go_enter Tryd.func13, Tryd.ntmps13
      go_wp2_with fail
      go_loopg [6, 7] s.size (fun gk v6 v7 wq => ∃ i : Nat, i + gk = s.size ∧ v7 = .int .i64 (i : Nat) ∧ v6 = .int .i64 (val10 (s.data.toList.take i) : Nat) ∧ Hid (∀ c ∈ s.data.toList.take i, digB c = true) ∧ w = wq)
      case atStart => exact ⟨0, by omega, rfl, rfl, hid (by simp), rfl⟩
      case round =>
        obtain ⟨i, hi, rfl, rfl, HA, rfl⟩ := hrel
        have hvb := val_bound 9 (s.data.toList.take i) (by rw [List.length_take]; omega) HA.out
        by_cases hlt : i < s.size
        · have hltI : (i : Int) < (s.size : Int) := by omega
          have hl2 : i < s.data.toList.length := by omega
          have HTK := hid (show s.data.toList.take (i + 1) = s.data.toList.take i ++ [s[i]] from List.take_succ_eq_append_getElem hl2)
          have HDG := hid (dig_iff s[i])
          have HM := hid (show s[i] ∈ s.data.toList from List.getElem_mem hl2)
          obtain ⟨v, hv⟩ : ∃ v, v = val10 (s.data.toList.take i) := ⟨_, rfl⟩
          rw [← hv] at hvb ⊢
          have HV2 := hid hv
          obtain ⟨x, hxe⟩ : ∃ x : Nat, x = s[i].toNat := ⟨_, rfl⟩
          have hbg : s[i].toNat = x := hxe.symm
          rw [hbg] at HDG
          clear hxe hv
          by_cases hd : digB s[i] = true
          · have hr := HDG.out.1 hd
            have h1 : ¬ (x : Int) < 48 := by omega
            have h2 : ¬ 57 < (x : Int) := by omega
            have HNV := hid (show val10 (s.data.toList.take (i + 1)) = 10 * v + (x - 48) from by rw [HTK.out, val_snoc, ← HV2.out, hbg])
            have HNA := hid (show ∀ c ∈ s.data.toList.take (i + 1), digB c = true from by
              rw [HTK.out]
              intro c hc
              rcases List.mem_append.1 hc with h | h
              · exact HA.out c h
              · simp at h; subst h; exact hd)
            clear hd
            go_wp2
            go_roundg (gk - 1)
            case measure => omega
            case rel => exact ⟨i + 1, by omega, by go_num, by rw [HNV.out]; go_num, HNA, rfl⟩
          · have HE := hid (show X = (0, false) from by
              rw [HV.out, if_neg (fun ha => hd (List.all_eq_true.1 ha _ HM.out))])
            have HNR := hid (show ¬ (48 ≤ x ∧ x ≤ 57) from fun h => hd (HDG.out.2 h))
            clear hd
            by_cases h1 : (x : Int) < 48
            · go_wp2
              refine bodyPost_ret (results_tmp2 rfl _ _ _) rfl ?_
              exact ⟨by rw [HE.out]; rfl, rfl⟩
            · have h2 : 57 < (x : Int) := by
                have := HNR.out
                omega
              go_wp2
              refine bodyPost_ret (results_tmp2 rfl _ _ _) rfl ?_
              exact ⟨by rw [HE.out]; rfl, rfl⟩
        · obtain rfl : i = s.size := by omega
          have ht : s.data.toList.take s.size = s.data.toList := List.take_of_length_le (by omega)
          rw [ht] at HA
          rw [ht]
          have HE := hid (show X = (val10 s.data.toList, true) from by rw [HV.out, if_pos (List.all_eq_true.2 HA.out)])
          clear ht
          go_wp2
          refine bodyPost_ret (results_tmp2 rfl _ _ _) rfl ?_
          exact ⟨by rw [HE.out]; rfl, rfl⟩
end Go.Proofs.YtdchbbegbijjgaaDoor

/- Of records: Atoi, recordSize, Cut, firstRecord; condition: the text fits into memory. -/
namespace Go.Proofs.YtdchbbegbijjgaaDoor
open Go.RowKit
open Go.Lib

theorem dec_val : ∀ (cs : List UInt8) (n : Nat), (∀ c ∈ cs, digB c = true) → decFrom n cs = some (cs.foldl of10 n)
  | [], _, _ => rfl
  | c :: cs, n, h => by
    have hc := (dig_iff c).1 (h c (by simp))
    have ih := dec_val cs (n * 10 + (c.toNat - 48)) (fun x hx => h x (by simp [hx]))
    have e : digitVal c = some (c.toNat - 48) := by unfold digitVal; rw [if_pos hc]
    unfold decFrom
    rw [e]
    dsimp only
    rw [ih, List.foldl_cons]
    unfold of10
    rw [Nat.mul_comm n 10]
theorem atoi_dig (cs : List UInt8) (h0 : cs ≠ []) (h : ∀ c ∈ cs, digB c = true) : atoi cs = some ((val10 cs : Nat) : Int) := by
  cases cs with
  | nil => exact absurd rfl h0
  | cons c cs =>
    have hc := (dig_iff c).1 (h c (by simp))
    have n1 : (c == 45) = false := by
      rw [beq_eq_false_iff_ne]
      rintro rfl
      exact absurd hc.1 (by decide)
    have n2 : (c == 43) = false := by
      rw [beq_eq_false_iff_ne]
      rintro rfl
      exact absurd hc.1 (by decide)
    unfold atoi
    dsimp only
    rw [n1, n2]
    unfold decNat
    rw [dec_val _ 0 h]
    rfl
theorem dAh_dig : ∀ cs : List UInt8, ∀ c ∈ cs.take (dAh cs), digB c = true
  | [] => by simp
  | x :: cs => by
    rw [dAh]
    by_cases h : digB x = true
    · rw [if_pos h, List.take_succ_cons]
      intro c hc
      rcases List.mem_cons.1 hc with rfl | hc
      · exact h
      · exact dAh_dig cs c hc
    · rw [if_neg h]
      simp
theorem sz_lt (cs : List UInt8) (h : dAh cs ≤ 9) : szOf cs < 1000000000 := by
  have := val_bound 9 (cs.take (dAh cs)) (by rw [List.length_take]; omega) (dAh_dig cs)
  exact this
theorem ext_list (s : ByteArray) (a b : Nat) : (s.extract a b).data.toList = (s.data.toList.drop a).take (b - a) := by
  rw [ByteArray.data_extract, Array.toList_extract, List.extract_eq_take_drop]
theorem at_opt (s : ByteArray) (i : Nat) (h : i < s.size) : s.data.toList[i]? = some s[i] := by
  rw [List.getElem?_eq_getElem (by simpa using h)]
  rfl

def recSz (cs : List UInt8) : Nat × Nat := if 1 ≤ dAh cs ∧ dAh cs ≤ 9 ∧ cs[0]? ≠ some 48 then (szOf cs, dAh cs) else (0, 0)
set_option maxRecDepth 100000 in
set_option maxHeartbeats 4000000 in
theorem recordSize_any (s : ByteArray) (hs : s.size ≤ 140737488351232) (w : World) :
    Calls Tryd.prog 16 #[.string s] w fun e w' => e = .returned (.tuple #[.int .i64 ((recSz s.data.toList).1 : Nat), .int .i64 ((recSz s.data.toList).2 : Nat)]) ∧ Touch (fun _ => False) w w' := by
  have K := hid (digitsAhead_any s hs w)
  have hle := dAh_le s.data.toList
  have hsl : s.data.toList.length = s.size := by rw [Array.length_toList]; rfl
  rw [hsl] at hle
  by_cases hg : 1 ≤ dAh s.data.toList ∧ dAh s.data.toList ≤ 9 ∧ s.data.toList[0]? ≠ some 48
  · have e : recSz s.data.toList = (szOf s.data.toList, dAh s.data.toList) := if_pos hg
    rw [e]
    dsimp only
    have KA := hid (fun w => Any.strconv_Atoi Tryd.lays172 (s.extract 0 (dAh s.data.toList)) (szOf s.data.toList : Nat) (by rw [ByteArray.size_extract]; omega) (by
      rw [ext_list, List.drop_zero, Nat.sub_zero]
      refine atoi_dig _ (fun e => ?_) (dAh_dig _)
      have := congrArg List.length e
      rw [List.length_take, List.length_nil] at this
      omega) w)
    have hlt := sz_lt s.data.toList hg.2.1
    have h0s : 0 < s.size := by omega
    have h48 : ¬ s[0].toNat = 48 := fun e => hg.2.2 (by
      rw [at_opt s 0 h0s]
      exact congrArg some (UInt8.toNat_inj.1 (by rw [e]; rfl)))
    have h48I : ¬ (s[0].toNat : Int) = 48 := by omega
    have h48B : ((s[0].toNat : Int) == 48) = false := by simpa using h48I
    clear hsl
    generalize szOf s.data.toList = sz at *
    generalize dAh s.data.toList = n at *
    have hn1 : ¬ (n : Int) < 1 := by omega
    have hn2 : ¬ 9 < (n : Int) := by omega
    have hnI : (n : Int) ≤ (s.size : Int) := by omega
    have h0I : (0 : Int) < (s.size : Int) := by omega
    clear hg e h48
    go_enter Tryd.func16, Tryd.ntmps16
    go_wp2_with fail
    refine K.out.mono ?_
    rintro e w1 ⟨rfl, rfl⟩
    clear K
    go_wp2_with fail
    refine (KA.out w).mono ?_
    rintro e w2 ⟨rfl, t, rfl⟩
    have T2 := hid (Below.touch (Go.Joins.below_bytesWorld w.heap.size w 5 t (Nat.le_refl _)))
    clear KA
    go_wp2
    refine bodyPost_ret (results_tmp2 rfl _ _ _) rfl ?_
    exact ⟨rfl, T2.out⟩
  · have e : recSz s.data.toList = (0, 0) := if_neg hg
    rw [e]
    dsimp only
    have HG := hid hg
    have HAT := hid (fun (h : 0 < s.size) => at_opt s 0 h)
    obtain ⟨n, hn⟩ : ∃ n, n = dAh s.data.toList := ⟨_, rfl⟩
    rw [← hn] at K hle HG
    clear hg e hn
    go_enter Tryd.func16, Tryd.ntmps16
    go_wp2_with fail
    refine K.out.mono ?_
    rintro e w1 ⟨rfl, rfl⟩
    clear K
    by_cases h1 : (n : Int) < 1
    · go_wp2
      refine bodyPost_ret (results_tmp2 rfl _ _ _) rfl ?_
      exact ⟨rfl, Touch.refl _ _⟩
    · by_cases h2 : 9 < (n : Int)
      · go_wp2
        refine bodyPost_ret (results_tmp2 rfl _ _ _) rfl ?_
        exact ⟨rfl, Touch.refl _ _⟩
      · have h0 : 0 < s.size := by omega
        have h0I : (0 : Int) < (s.size : Int) := by omega
        have h48 : (s[0].toNat : Int) = 48 := by
          by_cases hh : s.data.toList[0]? = some 48
          · rw [HAT.out h0] at hh
            have := Option.some.inj hh
            rw [this]
            rfl
          · exact absurd ⟨by omega, by omega, hh⟩ HG.out
        go_wp2
        refine bodyPost_ret (results_tmp2 rfl _ _ _) rfl ?_
        exact ⟨rfl, Touch.refl _ _⟩

/-! ### Cut -/
theorem find_idx (c : UInt8) : ∀ cs : List UInt8, (List.range cs.length).find? (fun i => decide (cs[i]? = some c)) = idxOf c cs
  | [] => rfl
  | x :: cs => by
    rw [List.length_cons, List.range_succ_eq_map, List.find?_cons, idxOf]
    by_cases h : x = c
    · simp [h]
    · have ih := find_idx c cs
      simp only [List.getElem?_cons_zero, Option.some.injEq, h, decide_false, if_false, List.find?_map]
      have e : ((fun i => decide ((x :: cs)[i]? = some c)) ∘ Nat.succ) = (fun i => decide (cs[i]? = some c)) := by
        funext i
        simp
      rw [e, ih]
theorem find_same {α : Type} {p q : α → Bool} : ∀ (l : List α), (∀ i ∈ l, p i = q i) → l.find? p = l.find? q
  | [], _ => rfl
  | x :: l, h => by
    rw [List.find?_cons, List.find?_cons, h x (by simp), find_same l (fun i hi => h i (by simp [hi]))]
theorem first_idx (s : ByteArray) (c : UInt8) : firstIdx s c = match idxOf c s.data.toList with
    | some i => (i : Int)
    | none => -1 := by
  have hsl : s.data.toList.length = s.size := by rw [Array.length_toList]; rfl
  have e : (List.range s.size).find? (fun i => s[i]! == c) = (List.range s.data.toList.length).find? (fun i => decide (s.data.toList[i]? = some c)) := by
    rw [hsl]
    refine find_same _ ?_
    intro i hi
    have hi' : i < s.size := by simpa using hi
    rw [getElem!_pos s i hi', at_opt s i hi', Bool.eq_iff_iff]
    simp
  unfold firstIdx
  rw [e, find_idx]
  cases idxOf c s.data.toList <;> rfl
theorem index_ext (s : ByteArray) (w : World) : (callFunc 53 #[.string s, .int .u8 61]).run Tryd.prog w = .ok (.value (.int .i64 (firstIdx s 61))) w := by
  rw [run_callFunc_extern Tryd.func53 (by kernel_rfl) (by kernel_rfl) (by kernel_rfl) (e := Extern.BytealgIndexByte.indexByte) (by kernel_rfl), run_indexByte_string]
  rfl
def cutV (s : ByteArray) : Value := match idxOf 61 s.data.toList with
  | some i => .tuple #[.string (s.extract 0 i), .string (s.extract (i + 1) s.size), .bool true]
  | none => .tuple #[.string s, .string ⟨#[]⟩, .bool false]
set_option maxRecDepth 100000 in
set_option maxHeartbeats 4000000 in
theorem index_any (s : ByteArray) (w : World) (_hs : s.size ≤ 140737488351232) : Calls Tryd.prog 34 #[.string s, .string ⟨#[61]⟩] w fun e w' => e = .returned (.int .i64 (firstIdx s 61)) ∧ w = w' := by
  have K : ∀ w, Calls Tryd.prog 43 #[.string s, .int .u8 61] w fun e w' => e = .returned (.int .i64 (firstIdx s 61)) ∧ w = w' := by
    intro w
    have e := index_ext s
    go_enter Tryd.func43, Tryd.ntmps43
    go_wp2
    go_ret
    exact ⟨rfl, rfl⟩
  have K2 := hid (K w)
  clear K
  cases he : ([61] == s.toList) with
  | true =>
    have hl : s.data.toList = [61] := by
      have := beq_iff_eq.1 he
      rw [toList_data] at this
      exact this.symm
    have hf : firstIdx s 61 = 0 := by
      rw [first_idx, hl]
      rfl
    have HF := hid hf
    clear hf hl
    go_enter Tryd.func34, Tryd.ntmps34
    go_wp2
    go_ret
    exact ⟨by rw [HF.out]; rfl, rfl⟩
  | false =>
    go_enter Tryd.func34, Tryd.ntmps34
    go_wp2_with fail
    refine Calls.mono (R := fun e w' => e = .returned (.int .i64 (firstIdx s 61)) ∧ w = w') K2.out ?_
    rintro e w1 ⟨rfl, rfl⟩
    clear K2
    go_wp2
    go_ret
    exact ⟨rfl, rfl⟩

set_option maxRecDepth 100000 in
set_option maxHeartbeats 4000000 in
theorem cut_any (s : ByteArray) (w : World) (hs : s.size ≤ 140737488351232) : Calls Tryd.prog 17 #[.string s, .string ⟨#[61]⟩] w fun e w' => e = .returned (cutV s) ∧ Touch (fun _ => False) w w' := by
  have K : Calls Tryd.prog 27 #[.string s, .string ⟨#[61]⟩] w fun e w' => e = .returned (cutV s) ∧ Touch (fun _ => False) w w' := by
    have K0 := hid (index_any s w hs)
    rw [first_idx] at K0
    unfold cutV
    cases hi : idxOf 61 s.data.toList with
    | none =>
      rw [hi] at K0
      dsimp only at K0 ⊢
      clear hi
      go_enter Tryd.func27, Tryd.ntmps27
      go_wp2_with fail
      refine K0.out.mono ?_
      rintro e w1 ⟨rfl, rfl⟩
      clear K0
      go_wp2
      refine bodyPost_ret (results_tmp3 rfl _ _ _) rfl ?_
      exact ⟨rfl, Touch.refl _ _⟩
    | some i =>
      rw [hi] at K0
      dsimp only at K0 ⊢
      have hlt := idx_lt hi
      have hsl : s.data.toList.length = s.size := by rw [Array.length_toList]; rfl
      rw [hsl] at hlt
      have hI : (i : Int) ≤ (s.size : Int) := by omega
      have hI2 : (i : Int) + 1 ≤ (s.size : Int) := by omega
      have hn : ((i : Int) + 1).toNat = i + 1 := by omega
      clear hi hsl
      go_enter Tryd.func27, Tryd.ntmps27
      go_wp2_with fail
      refine K0.out.mono ?_
      rintro e w1 ⟨rfl, rfl⟩
      clear K0
      go_wp2_with fail
      go_quiet (fail)
      go_wp2
      refine bodyPost_ret (results_tmp3 rfl _ _ _) rfl ?_
      exact ⟨rfl, (Touch.refl _ _).drewN _⟩
  have K2 := hid K
  clear K
  have hsh : ∃ a b c, cutV s = .tuple #[a, b, c] := by
    unfold cutV
    split <;> exact ⟨_, _, _, rfl⟩
  obtain ⟨a, b, c, hc⟩ := hsh
  rw [hc] at K2 ⊢
  clear hc
  go_enter Tryd.func17, Tryd.ntmps17
  go_wp2_with fail
  refine K2.out.mono ?_
  rintro e w1 ⟨rfl, t1⟩
  have T1 := hid t1
  clear K2 t1
  go_wp2
  refine bodyPost_ret (results_tmp3 rfl _ _ _) rfl ?_
  exact ⟨rfl, T1.out⟩
end Go.Proofs.YtdchbbegbijjgaaDoor
