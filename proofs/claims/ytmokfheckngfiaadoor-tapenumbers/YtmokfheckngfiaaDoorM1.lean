/- Texts of this proof, one behind the other: what each says stands ahead of it. -/
import Derived.Test.YtmokfheckngfiaaDoorM0
import Derived.Test.YtmokfheckngfiaaDoorChecked
import Derived.WalkKit
import Derived.Deep.LoopGhost
import Derived.Deep.DeepCutAuto
/- The fields' numbers: octalNumber, wideNumber and Number, where the number is one that a field may have; conditions: those told. -/
namespace Go.Proofs.YtmokfheckngfiaaDoor
open Go.RowKit
open Go.Lib

theorem toList_data (s : ByteArray) : s.toList = s.data.toList := by
  have go : ∀ (n i : Nat) (r : List UInt8), s.size - i = n → ByteArray.toList.loop s i r = r.reverse ++ s.data.toList.drop i := by
    intro n
    induction n with
    | zero =>
      intro i r h
      unfold ByteArray.toList.loop
      rw [if_neg (by omega), List.drop_eq_nil_of_le (by rw [Array.length_toList]; show s.size ≤ i; omega), List.append_nil]
    | succ n ih =>
      intro i r h
      have hi : i < s.size := by omega
      have hi' : i < s.data.toList.length := by rw [Array.length_toList]; exact hi
      unfold ByteArray.toList.loop
      rw [if_pos hi, ih (i + 1) _ (by omega), List.drop_eq_getElem_cons hi', List.reverse_cons, List.append_assoc]
      congr 1
      show s.get! i :: _ = _
      congr 1
      show s.data[i]! = _
      rw [getElem!_pos s.data i hi]
      rfl
  unfold ByteArray.toList
  rw [go _ 0 [] rfl]
  rfl
theorem Below.touch {w w' : World} (h : Below w.heap.size w w') : Touch (fun _ => False) w w' := (touch_of_below h).mono (fun i hi hS => by omega)
theorem wraps_i64 (n : Int) (h₀ : 0 ≤ n) (h₁ : n < 2 ^ 62) : IntKind.i64.wrap n = n := by rw [IntKind.wrap_i64]; omega
theorem i64_or_nat (a b : Nat) (ha : a < 2 ^ 62) (hb : b < 2 ^ 62) : bits .or .i64 (a : Int) (b : Int) = ((a ||| b : Nat) : Int) :=
  (bits_nat .i64 62 (by decide) wraps_i64 a b ha hb).2
theorem or_high (a b k : Nat) (ha : a < 2 ^ k) (hb : 2 ^ k * b + a < 2 ^ 62) : bits .or .i64 ((2 ^ k * b : Nat) : Int) (a : Int) = ((2 ^ k * b + a : Nat) : Int) := by
  rw [i64_or_nat _ _ (by omega) (by omega), ← Nat.two_pow_add_eq_or_of_lt ha]
theorem at_str (l : List Int) (h : ∀ b ∈ l, 0 ≤ b ∧ b ≤ 255) (i : Nat) (hi : i < (strOfNums l).size) (hl : i < l.length) : ((strOfNums l)[i].toNat : Int) = l[i] := by
  have hb := h l[i] (List.getElem_mem hl)
  have h1 : (strOfNums l)[i] = UInt8.ofNat l[i].toNat := by
    show ((l.map fun n => UInt8.ofNat n.toNat).toArray)[i]'(by simp; exact hl) = _
    simp
  rw [h1, UInt8.toNat_ofNat']
  omega
set_option maxRecDepth 100000 in
set_option maxHeartbeats 4000000 in
theorem octal_good (s : ByteArray) (l : List Int) (n : Int) (htr : trimRightS (trimLeftS s.data.toList [32]) [32, 0] = (strOfNums l).data.toList) (hd : dig l) (hn : l.foldl of8 0 = n) (hm : n ≤ 1099511627776) (hs : s.size ≤ 1048576) (hl : l.length ≤ 1048576) (w : World) :
    Calls Tryd.prog 29 #[.string s] w fun e w' => e = .returned (.tuple #[.int .i64 n, .bool true]) ∧ Touch (fun _ => False) w w' := by
  have k1 := Any.strings_TrimLeft_laid Tryd.lays161 (by kernel_rfl) s ⟨#[32]⟩ w (by decide) (ascii_of_all (by decide))
  change Calls Tryd.prog 47 _ _ (fun e w' => e = .returned (.string ⟨(trimLeftS s.data.toList [32]).toArray⟩) ∧ Below w.heap.size w w') at k1
  have hlen : (trimLeftS s.data.toList [32]).length ≤ s.data.toList.length := by
    unfold trimLeftS
    exact (List.dropWhile_sublist _).length_le
  obtain ⟨s1, hs1⟩ : ∃ s1 : ByteArray, s1 = ⟨(trimLeftS s.data.toList [32]).toArray⟩ := ⟨_, rfl⟩
  have hsz1 : s1.size ≤ 1048576 := by
    have e : s1.size = (trimLeftS s.data.toList [32]).length := by rw [hs1]; show (trimLeftS s.data.toList [32]).toArray.size = _; simp
    have e2 : s.data.toList.length = s.size := by rw [Array.length_toList]; rfl
    omega
  have k2 : ∀ w, Calls Tryd.prog 46 #[.string s1, .string ⟨#[32, 0]⟩] w fun e w' => e = .returned (.string (strOfNums l)) ∧ Below w.heap.size w w' := fun w => by
    have k := Any.strings_TrimRight_laid Tryd.lays162 (by kernel_rfl) s1 ⟨#[32, 0]⟩ w (by omega) (by decide) (ascii_of_all (by decide))
    change Calls Tryd.prog 46 _ _ (fun e w' => e = .returned (.string ⟨(trimRightS s1.data.toList [32, 0]).toArray⟩) ∧ Below w.heap.size w w') at k
    have e : (⟨(trimRightS s1.data.toList [32, 0]).toArray⟩ : ByteArray) = strOfNums l := by
      apply ByteArray.ext
      show (trimRightS s1.data.toList [32, 0]).toArray = _
      rw [hs1]
      show (trimRightS (trimLeftS s.data.toList [32]).toArray.toList [32, 0]).toArray = _
      rw [htr]
    rw [e] at k
    exact k
  rw [← hs1] at k1
  have K1 := hid k1
  have K2 := hid k2
  have HIN := hid (show ∀ b ∈ l, 0 ≤ b ∧ b ≤ 255 from fun b hb => by have := hd b hb; omega)
  have HD := hid hd
  have HP := hid (fold8_pre l n hd hn)
  have HN := hid hn
  have HS := hid (str_size l)
  obtain ⟨t, ht⟩ : ∃ t, t = strOfNums l := ⟨_, rfl⟩
  have HAT := hid (show ∀ i (hi : i < t.size) (h2 : i < l.length), (t[i].toNat : Int) = l[i] by subst ht; exact fun i hi h2 => at_str l HIN.out i hi h2)
  rw [← ht] at HS
  simp only [← ht] at K2
  clear k1 k2 hs1 htr hn hd ht hlen HIN
  go_enter Tryd.func29, Tryd.ntmps29
  go_wp2_with fail
  refine K1.out.mono ?_
  rintro e w1 ⟨rfl, b1⟩
  have T1 := hid (Below.touch b1)
  clear b1 K1
  go_wp2_with fail
  refine (K2.out w1).mono ?_
  rintro e w2 ⟨rfl, b2⟩
  have T2 := hid (T1.out.trans (Below.touch b2) (fun _ _ e => e))
  clear b2 K2 T1
  have hts : t.size ≤ 1048576 := by rw [HS.out]; exact hl
  go_wp2_with fail
  go_loopg [5, 12] l.length (fun gk v5 v12 wq => ∃ i : Nat, i + gk = l.length ∧ v12 = .int .i64 (i : Nat) ∧ v5 = .int .i64 ((l.take i).foldl of8 0) ∧ w2 = wq)
  case atStart => exact ⟨0, by omega, rfl, rfl, rfl⟩
  case round =>
    obtain ⟨i, hi, rfl, rfl, rfl⟩ := hrel
    by_cases hlt : i < l.length
    · obtain ⟨gk, rfl⟩ : ∃ j, gk = j + 1 := ⟨gk - 1, by omega⟩
      have hit : i < t.size := by rw [HS.out]; exact hlt
      have hltI : (i : Int) < (t.size : Int) := by omega
      have hx := HAT.out i hit hlt
      have hdg := HD.out l[i] (List.getElem_mem hlt)
      have HNX := hid (fold8_next l i hlt)
      obtain ⟨p1, p2⟩ := HP.out i
      obtain ⟨p3, p4⟩ := HP.out (i + 1)
      rw [HNX.out] at p3 p4
      obtain ⟨x, hxe⟩ : ∃ x : Nat, x = t[i].toNat := ⟨_, rfl⟩
      have hbg : t[i].toNat = x := hxe.symm
      rw [hbg] at hx
      rw [← hx] at hdg p3 p4 HNX
      obtain ⟨a, ha⟩ := Int.eq_ofNat_of_zero_le p1
      rw [ha] at p2 p3 p4 HNX ⊢
      unfold of8 at p3 p4
      replace HNX := hid (show (l.take (i + 1)).foldl of8 0 = 8 * (a : Int) + ((x : Int) - 48) from HNX.out)
      have h48 : ¬ ((x : Int) < 48) := by omega
      have h55 : ¬ (55 < (x : Int)) := by omega
      have HOR := hid (show bits .or .i64 ((a : Int) * 8) ((x : Int) - 48) = 8 * (a : Int) + ((x : Int) - 48) by
        rw [show (a : Int) * 8 = ((2 ^ 3 * a : Nat) : Int) by omega, show (x : Int) - 48 = ((x - 48 : Nat) : Int) by omega, or_high (x - 48) a 3 (by omega) (by omega)]
        omega)
      clear hx hxe ha HAT
      go_upto_region 8 with fail
      have hor := HOR.out
      have hgr : ¬ (1099511627776 < 8 * (a : Int) + ((x : Int) - 48)) := by omega
      go_wp2
      go_roundg gk
      case measure => omega
      case rel => exact ⟨i + 1, by omega, by go_num, by rw [HNX.out], rfl⟩
    · have hltI : ¬ ((i : Int) < (t.size : Int)) := by have := HS.out; omega
      have HE := hid (show (l.take i).foldl of8 0 = n by rw [List.take_of_length_le (by omega)]; exact HN.out)
      go_wp2
      refine bodyPost_ret (results_tmp2 rfl _ _ _) rfl ?_
      exact ⟨by rw [← HE.out]; rfl, T2.out⟩
/-- The bytes of a number, the highest first: what they come to. -/
def of256 (a d : Int) : Int := 256 * a + d
def byts (l : List Int) : Prop := ∀ d ∈ l, 0 ≤ d ∧ d ≤ 255
theorem fold256_mono : ∀ (l : List Int) (a : Int), byts l → 0 ≤ a → a ≤ l.foldl of256 a
  | [], a, _, _ => by simp
  | d :: l, a, h, h0 => by
    have hd := h d (by simp)
    have := fold256_mono l (of256 a d) (fun x hx => h x (by simp [hx])) (by unfold of256; omega)
    rw [List.foldl_cons]
    unfold of256 at this ⊢
    omega
theorem fold256_pre (l : List Int) (n : Int) (h : byts l) (hn : l.foldl of256 0 = n) (i : Nat) : 0 ≤ (l.take i).foldl of256 0 ∧ (l.take i).foldl of256 0 ≤ n := by
  have h1 := fold256_mono (l.take i) 0 (fun d hd => h d (List.mem_of_mem_take hd)) (Int.le_refl _)
  refine ⟨h1, ?_⟩
  have h2 := fold256_mono (l.drop i) ((l.take i).foldl of256 0) (fun d hd => h d (List.mem_of_mem_drop hd)) h1
  rw [← List.foldl_append, List.take_append_drop, hn] at h2
  exact h2
theorem fold256_next (l : List Int) (i : Nat) (hi : i < l.length) : (l.take (i + 1)).foldl of256 0 = of256 ((l.take i).foldl of256 0) l[i] := by
  rw [List.take_succ_eq_append_getElem hi, List.foldl_append]
  rfl
set_option maxRecDepth 100000 in
set_option maxHeartbeats 4000000 in
theorem wide_good (l : List Int) (n : Int) (hd : byts l) (hn : l.foldl of256 0 = n) (hm : n ≤ 1099511627776) (hl : l.length ≤ 1048576) (w : World) :
    Calls Tryd.prog 28 #[.string (strOfNums (128 :: l))] w fun e w' => e = .returned (.tuple #[.int .i64 n, .bool true]) ∧ Touch (fun _ => False) w w' := by
  have hin : ∀ b ∈ (128 :: l), 0 ≤ b ∧ b ≤ 255 := fun b hb => by
    rcases List.mem_cons.1 hb with rfl | hb
    · omega
    · exact hd b hb
  have HD := hid hd
  have HP := hid (fold256_pre l n hd hn)
  have HN := hid hn
  have HS := hid (str_size (128 :: l))
  obtain ⟨t, ht⟩ : ∃ t, t = strOfNums (128 :: l) := ⟨_, rfl⟩
  have HAT := hid (show ∀ i (hi : i < t.size) (h2 : i < (128 :: l).length), (t[i].toNat : Int) = (128 :: l)[i] by subst ht; exact fun i hi h2 => at_str (128 :: l) hin i hi h2)
  rw [← ht] at HS ⊢
  have hts : t.size = l.length + 1 := HS.out
  have h0t : 0 < t.size := by omega
  have h0I : (0 : Int) < (t.size : Int) := by omega
  have hx0 := HAT.out 0 h0t (by simp)
  rw [List.getElem_cons_zero] at hx0
  have hbg0 : t[0].toNat = 128 := by omega
  have HTS := hid hts
  clear hn hd ht hin hx0 hts HS
  have hnd : bits .and .u8 128 127 = 0 := by decide
  have T0 := hid (Touch.refl (fun _ => False) w)
  go_enter Tryd.func28, Tryd.ntmps28
  go_wp2_with fail
  go_loopg [4, 5] l.length (fun gk v4 v5 wq => ∃ i : Nat, i + gk = l.length ∧ v5 = .int .i64 ((i + 1 : Nat) : Int) ∧ v4 = .int .i64 ((l.take i).foldl of256 0) ∧ w = wq)
  case atStart => exact ⟨0, by omega, rfl, rfl, rfl⟩
  case round =>
    obtain ⟨i, hi, rfl, rfl, rfl⟩ := hrel
    by_cases hlt : i < l.length
    · obtain ⟨gk, rfl⟩ : ∃ j, gk = j + 1 := ⟨gk - 1, by omega⟩
      have hit : i + 1 < t.size := by rw [HTS.out]; omega
      have hltI : ((i : Int) + 1) < (t.size : Int) := by omega
      have hx := HAT.out (i + 1) hit (by simp; omega)
      rw [List.getElem_cons_succ] at hx
      have hdg := HD.out l[i] (List.getElem_mem hlt)
      have HNX := hid (fold256_next l i hlt)
      obtain ⟨p1, p2⟩ := HP.out i
      obtain ⟨p3, p4⟩ := HP.out (i + 1)
      rw [HNX.out] at p3 p4
      obtain ⟨x, hxe⟩ : ∃ x : Nat, x = t[i + 1].toNat := ⟨_, rfl⟩
      have hbg : t[i + 1].toNat = x := hxe.symm
      rw [hbg] at hx
      rw [← hx] at hdg p3 p4 HNX
      obtain ⟨a, ha⟩ := Int.eq_ofNat_of_zero_le p1
      rw [ha] at p2 p3 p4 HNX ⊢
      unfold of256 at p3 p4
      replace HNX := hid (show (l.take (i + 1)).foldl of256 0 = 256 * (a : Int) + (x : Int) from HNX.out)
      have hor : bits .or .i64 ((a : Int) * 256) (x : Int) = 256 * (a : Int) + (x : Int) := by
        rw [show (a : Int) * 256 = ((2 ^ 8 * a : Nat) : Int) by omega, or_high x a 8 (by omega) (by omega)]
        omega
      have hgr : ¬ (1099511627776 < 256 * (a : Int) + (x : Int)) := by omega
      clear hx hxe ha HAT
      go_wp2
      go_roundg gk
      case measure => omega
      case rel => exact ⟨i + 1, by omega, by go_num, by rw [HNX.out], rfl⟩
    · have hltI : ¬ (((i : Int) + 1) < (t.size : Int)) := by have := HTS.out; omega
      have HE := hid (show (l.take i).foldl of256 0 = n by rw [List.take_of_length_le (by omega)]; exact HN.out)
      go_wp2
      refine bodyPost_ret (results_tmp2 rfl _ _ _) rfl ?_
      exact ⟨by rw [← HE.out]; rfl, T0.out⟩
set_option maxRecDepth 100000 in
theorem number_octal (s : ByteArray) (l : List Int) (n : Int) (hs0 : 0 < s.size) (hb : s[0].toNat < 128) (htr : trimRightS (trimLeftS s.data.toList [32]) [32, 0] = (strOfNums l).data.toList) (hd : dig l) (hn : l.foldl of8 0 = n) (hm : n ≤ 1099511627776) (hs : s.size ≤ 1048576) (hl : l.length ≤ 1048576) (w : World) :
    Calls Tryd.prog 10 #[.string s] w fun e w' => e = .returned (.tuple #[.int .i64 n, .bool true]) ∧ Touch (fun _ => False) w w' := by
  have K := hid (octal_good s l n htr hd hn hm hs hl w)
  have hne : s.toList.isEmpty = false := by
    rw [Bool.eq_false_iff]
    intro e
    rw [List.isEmpty_iff, toList_data] at e
    have : s.data.toList.length = 0 := by rw [e]; rfl
    rw [Array.length_toList] at this
    have h2 : s.size = 0 := this
    omega
  have h0I : (0 : Int) < (s.size : Int) := by omega
  have hbI : ¬ (128 ≤ (s[0].toNat : Int)) := by omega
  clear htr hd hn
  go_enter Tryd.func10, Tryd.ntmps10
  go_wp2_with fail
  refine K.out.mono ?_
  rintro e w1 ⟨rfl, t1⟩
  have T1 := hid t1
  clear t1
  go_wp2
  refine bodyPost_ret (results_tmp2 rfl _ _ _) rfl ?_
  exact ⟨rfl, T1.out⟩
set_option maxRecDepth 100000 in
theorem number_wide (l : List Int) (n : Int) (hd : byts l) (hn : l.foldl of256 0 = n) (hm : n ≤ 1099511627776) (hl : l.length ≤ 1048576) (w : World) :
    Calls Tryd.prog 10 #[.string (strOfNums (128 :: l))] w fun e w' => e = .returned (.tuple #[.int .i64 n, .bool true]) ∧ Touch (fun _ => False) w w' := by
  have K := hid (wide_good l n hd hn hm hl w)
  have hsz := str_size (128 :: l)
  have h0 : 0 < (strOfNums (128 :: l)).size := by rw [hsz]; simp
  have hb0 : ((strOfNums (128 :: l))[0].toNat : Int) = 128 := at_str (128 :: l) (fun b hb => by
    rcases List.mem_cons.1 hb with rfl | hb
    · omega
    · exact hd b hb) 0 h0 (by simp)
  generalize strOfNums (128 :: l) = s at *
  have hne : s.toList.isEmpty = false := by
    rw [Bool.eq_false_iff]
    intro e
    rw [List.isEmpty_iff, toList_data] at e
    have : s.data.toList.length = 0 := by rw [e]; rfl
    rw [Array.length_toList] at this
    have h2 : s.size = 0 := this
    omega
  have h0I : (0 : Int) < (s.size : Int) := by omega
  have hbI : 128 ≤ (s[0].toNat : Int) := by omega
  clear hd hn hb0
  go_enter Tryd.func10, Tryd.ntmps10
  go_wp2_with fail
  refine K.out.mono ?_
  rintro e w1 ⟨rfl, t1⟩
  have T1 := hid t1
  clear t1
  go_wp2
  refine bodyPost_ret (results_tmp2 rfl _ _ _) rfl ?_
  exact ⟨rfl, T1.out⟩
set_option maxRecDepth 100000 in
theorem speaks_yes (w : World) : Calls Tryd.prog 9 #[] w fun e w' => e = .returned (.bool true) ∧ Touch (fun _ => False) w w' := by
  have K : Hid (Calls Tryd.prog 10 #[.string ⟨#[48, 48, 48, 48, 54, 52, 52, 0]⟩] w fun e w' => e = .returned (.tuple #[.int .i64 420, .bool true]) ∧ Touch (fun _ => False) w w') :=
    hid (number_octal ⟨#[48, 48, 48, 48, 54, 52, 52, 0]⟩ [48, 48, 48, 48, 54, 52, 52] 420 (by decide) (by decide) (by decide) (fun d hd => by simp at hd; omega) (by decide) (by decide) (by decide) (by decide) w)
  go_enter Tryd.func9, Tryd.ntmps9
  go_wp2_with fail
  refine K.out.mono ?_
  rintro e w1 ⟨rfl, t1⟩
  have T1 := hid t1
  clear t1
  go_wp2
  go_ret
  exact ⟨rfl, T1.out⟩
end Go.Proofs.YtmokfheckngfiaaDoor
