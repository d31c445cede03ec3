/- SyntaxEscapes' walk; no condition. -/
import Derived.Test.YtdhhcefmmojcmaaGreatDoorM42
import Derived.Test.YtdhhcefmmojcmaaGreatDoorZf
import Derived.Test.YtdhhcefmmojcmaaGreatDoorKRk
import Derived.Test.YtdhhcefmmojcmaaGreatDoorSi
import Derived.Test.YtdhhcefmmojcmaaGreatDoorM13
namespace Go.Proofs.YtdhhcefmmojcmaaGreatDoor
open Go.RowKit
open Go.Lib

def letB (b : Nat) : Bool := (decide (97 ≤ b) && decide (b ≤ 122)) || (decide (65 ≤ b) && decide (b ≤ 90))
def digitB (b : Nat) : Bool := decide (48 ≤ b) && decide (b ≤ 57)
theorem letB_is (b : Nat) : letB b = true ↔ (97 ≤ b ∧ b ≤ 122) ∨ (65 ≤ b ∧ b ≤ 90) := by simp [letB]
theorem digitB_is (b : Nat) : digitB b = true ↔ 48 ≤ b ∧ b ≤ 57 := by simp [digitB]
/-- Is a byte among the first ones of a text? -/
def knS (S : ByteArray) (b i : Nat) : Bool := (S.data.toList.take i).any fun x => x.toNat == b
theorem kn_step (S : ByteArray) (b i : Nat) (h : i < S.size) : knS S b (i + 1) = (knS S b i || S[i].toNat == b) := by
  unfold knS
  have hl : i < S.data.toList.length := by simpa using h
  rw [List.take_succ_eq_append_getElem hl, List.any_append]
  simp
  rfl
theorem SR.rg {w : World} {a : Option Addr} {n c : Nat} {s : List R2} (h : SR w (.slice a n c) s) : Rg w a s ∧ n = s.length := by
  rcases h.2 with ⟨hv, k⟩ | ⟨g, cap, cur, hv, hg, hh, rest⟩
  · have hs : s = [] := List.eq_nil_of_length_eq_zero k
    refine ⟨.inl hs, ?_⟩
    cases hv
    rw [k]
  · have ha : a = some ⟨g, 0, none⟩ := by cases hv; rfl
    refine ⟨.inr ⟨g, 0, ha, lt_of_block hh, fun i hi => ⟨?_, ?_⟩⟩, by cases hv; rfl⟩
    · have := h.cells (g := g) (by rw [ha]; rfl) _ _ (flatR_get0 s i hi)
      rw [add_gK] at this
      rw [Nat.zero_add, Nat.mul_comm]
      exact this
    · have := h.cells (g := g) (by rw [ha]; rfl) _ _ (flatR_get1 s i hi)
      rw [add_gK] at this
      rw [Nat.zero_add, Nat.mul_comm]
      exact this
theorem symB_is (b : Nat) : symB b = (decide (32 < b) && (decide (b < 127) && !letB b && !digitB b)) := by rfl
set_option maxRecDepth 100000 in
set_option maxHeartbeats 8000000 in
theorem esc_known (b : Nat) (hb : b < 256) (x : Nd) (ns : List ByteArray) (hs : symB b = false) (hk : knownB b = true) (hp : prsR (escT b) fl0 = .ok (x, ns)) (w : World) (ht : TabsK w) (hx : Sx w) (h7 : 7 ≤ w.heap.size) :
    Calls Tryz.prog 7 #[.int .u8 (b : Int)] w fun e w' => e = .returned (.bool true) ∧ Touch (fun _ => False) w w' := by
  have KS := hid (speaks_yes w ht hx h7)
  have KP := hid (fun (wq : World) (t : Touch (fun _ => False) w wq) => parse_any (escT b) fl0 wq (ht.new t) (hx.new t) (Nat.le_trans h7 t.size))
  rw [hp] at KP
  unfold escT fl0 PrsP at KP
  simp only at KP
  have HS := hid hs
  have hb2 : (UInt8.ofNat b).toNat = b := by rw [UInt8.toNat_ofNat']; omega
  clear ht hx h7 hp hs
  go_enter Tryz.func7, Tryz.ntmps7
  go_wp2_with fail
  refine KS.out.mono ?_
  rintro e w1 ⟨rfl, t1⟩
  have hcv := conv_lit w1 [92, UInt8.ofNat b] 2 rfl #[.int .u8 92, .int .u8 (b : Int)] (by simp [hb2])
  have KP2 := hid (KP.out _ (t1.trans ((Touch.refl (fun _ => False) w1).alloc (.cells #[.int .u8 92, .int .u8 (b : Int)] 5)) (fun _ _ e => e)))
  have T1 := hid (t1.trans ((Touch.refl (fun _ => False) w1).alloc (.cells #[.int .u8 92, .int .u8 (b : Int)] 5)) (fun _ _ e => e))
  clear t1 KS KP
  go_wp2_with fail
  generalize w1.alloc (.cells #[.int .u8 92, .int .u8 (b : Int)] 5) = w2 at *
  refine KP2.out.mono ?_
  rintro e w3 ⟨c, an, nn, cn, rfl, ht3, hs3, hn3, t3⟩
  have T3 := hid (T1.out.trans t3 (fun _ _ e => e))
  obtain ⟨ck, sa, sn, sc, fo, mi, ma, la, ca, nm, ka, kn, kc⟩ := c
  unfold Cel.arr
  clear t3 T1 KP2 hcv ht3 hs3 hn3
  go_upto_region 4 with fail
  have HK := kept2 w3 #[.int .i64 ck, .slice sa sn sc, .bool fo, .int .i64 mi, .int .i64 ma, .bool la, .int .i64 ca, .string nm, .slice ka kn kc, .slice an nn cn] #[.int .i64 0, .int .i64 0]
  generalize (w3.alloc (.cells #[.int .i64 ck, .slice sa sn sc, .bool fo, .int .i64 mi, .int .i64 ma, .bool la, .int .i64 ca, .string nm, .slice ka kn kc, .slice an nn cn] 31)).alloc (.cells #[.int .i64 0, .int .i64 0] 34) = w4 at *
  obtain ⟨hp4, hq4, t4⟩ := HK
  have T4 := hid (T3.out.trans t4 (fun _ _ e => e))
  obtain ⟨p, hpe⟩ : ∃ p, p = w3.heap.size := ⟨_, rfl⟩
  rw [← hpe] at hp4 hq4 ⊢
  clear hpe T3 t4
  have P4 := hid hp4
  have Q4 := hid hq4
  clear hp4 hq4
  have hbI : (b : Int) ≤ 255 := by omega
  go_cut [5] (fun v wd => v = .bool (letB b) ∧ w4 = wd)
  case first =>
    have hL := letB_is b
    by_cases h1 : 97 ≤ b
    · have g1 : (97 : Int) ≤ (b : Int) := by omega
      by_cases h2 : b ≤ 122
      · have g2 : (b : Int) ≤ 122 := by omega
        have E := hid (show letB b = true from by rw [hL]; omega)
        clear hL
        go_wp2
        go_meet
        case rel => exact ⟨by rw [E.out], rfl⟩
      · have g2 : ¬ (b : Int) ≤ 122 := by omega
        have g3 : (65 : Int) ≤ (b : Int) := by omega
        have g4 : ¬ (b : Int) ≤ 90 := by omega
        have E := hid (show letB b = false from by cases hh : letB b with | false => rfl | true => rw [hL] at hh; omega)
        clear hL
        go_wp2
        go_meet
        case rel => exact ⟨by rw [E.out], rfl⟩
    · have g1 : ¬ (97 : Int) ≤ (b : Int) := by omega
      by_cases h3 : 65 ≤ b
      · have g3 : (65 : Int) ≤ (b : Int) := by omega
        by_cases h4 : b ≤ 90
        · have g4 : (b : Int) ≤ 90 := by omega
          have E := hid (show letB b = true from by rw [hL]; omega)
          clear hL
          go_wp2
          go_meet
          case rel => exact ⟨by rw [E.out], rfl⟩
        · have g4 : ¬ (b : Int) ≤ 90 := by omega
          have E := hid (show letB b = false from by cases hh : letB b with | false => rfl | true => rw [hL] at hh; omega)
          clear hL
          go_wp2
          go_meet
          case rel => exact ⟨by rw [E.out], rfl⟩
      · have g3 : ¬ (65 : Int) ≤ (b : Int) := by omega
        have E := hid (show letB b = false from by cases hh : letB b with | false => rfl | true => rw [hL] at hh; omega)
        clear hL
        go_wp2
        go_meet
        case rel => exact ⟨by rw [E.out], rfl⟩
  obtain ⟨rfl, rfl⟩ := hcut
  go_upto_region 5 with fail
  go_cut [6] (fun v wd => v = .bool (digitB b) ∧ w4 = wd)
  case first =>
    have hL := digitB_is b
    by_cases h1 : 48 ≤ b
    · have g1 : (48 : Int) ≤ (b : Int) := by omega
      by_cases h2 : b ≤ 57
      · have g2 : (b : Int) ≤ 57 := by omega
        have E := hid (show digitB b = true from by rw [hL]; omega)
        clear hL
        go_wp2
        go_meet
        case rel => exact ⟨by rw [E.out], rfl⟩
      · have g2 : ¬ (b : Int) ≤ 57 := by omega
        have E := hid (show digitB b = false from by cases hh : digitB b with | false => rfl | true => rw [hL] at hh; omega)
        clear hL
        go_wp2
        go_meet
        case rel => exact ⟨by rw [E.out], rfl⟩
    · have g1 : ¬ (48 : Int) ≤ (b : Int) := by omega
      have E := hid (show digitB b = false from by cases hh : digitB b with | false => rfl | true => rw [hL] at hh; omega)
      clear hL
      go_wp2
      go_meet
      case rel => exact ⟨by rw [E.out], rfl⟩
  obtain ⟨rfl, rfl⟩ := hcut
  go_upto_region 6 with fail
  go_cut [5, 6, 53] (fun _ _ v wd => v = .bool (symB b) ∧ w4 = wd)
  case first =>
    have hL := hid (symB_is b)
    by_cases h1 : 32 < b
    · have g1 : (32 : Int) < (b : Int) := by omega
      by_cases h2 : b < 127
      · have g2 : (b : Int) < 127 := by omega
        cases hl : letB b with
        | true =>
          have E := hid (show symB b = false from by rw [hL.out, hl]; simp)
          clear hL
          go_wp2
          go_meet
          case rel => exact ⟨by rw [E.out], rfl⟩
        | false =>
          cases hd : digitB b with
          | true =>
            have E := hid (show symB b = false from by rw [hL.out, hd]; simp)
            clear hL
            go_wp2
            go_meet
            case rel => exact ⟨by rw [E.out], rfl⟩
          | false =>
            have E := hid (show symB b = true from by rw [hL.out, hl, hd, decide_eq_true h1, decide_eq_true h2]; rfl)
            clear hL
            go_wp2
            go_meet
            case rel => exact ⟨by rw [E.out], rfl⟩
      · have g2 : ¬ (b : Int) < 127 := by omega
        have E := hid (show symB b = false from by rw [hL.out, decide_eq_false h2]; simp)
        clear hL
        go_wp2
        go_meet
        case rel => exact ⟨by rw [E.out], rfl⟩
    · have g1 : ¬ (32 : Int) < (b : Int) := by omega
      have E := hid (show symB b = false from by rw [hL.out, decide_eq_false h1]; simp)
      clear hL
      go_wp2
      go_meet
      case rel => exact ⟨by rw [E.out], rfl⟩
  obtain ⟨rfl, rfl⟩ := hcut
  rw [HS.out]
  have HK := hid (hk)
  clear hb2
  go_upto_region 10 with fail
  obtain ⟨S, hS⟩ : ∃ S : ByteArray, S = ⟨#[65, 66, 68, 83, 87, 98, 100, 102, 110, 114, 115, 116, 118, 119, 122]⟩ := ⟨_, rfl⟩
  have HSZ := hid (show S.size = 15 by rw [hS]; rfl)
  have HEND := hid (show knS S b 15 = knownB b by rw [hS]; rfl)
  rw [← hS]
  clear hS
  go_wp2_with fail
  go_loopg [7, 9] 15 (fun gk v7 v9 wq => ∃ i : Nat, i + gk = 15 ∧ v9 = .int .i64 (i : Nat) ∧ v7 = .bool (knS S b i) ∧ wq = w4)
  case atStart => exact ⟨0, rfl, rfl, rfl, rfl⟩
  case round =>
    obtain ⟨i, hgk, rfl, rfl, rfl⟩ := hrel
    have hsz := HSZ.out
    by_cases hlt : i < S.size
    · have hltI : (i : Int) < (S.size : Int) := by omega
      have hST := hid (kn_step S b i hlt)
      have hsI : (S.size : Int) ≤ 15 := by omega
      cases hkn : knS S b i with
      | true =>
        have E := hid (show knS S b (i + 1) = true from by rw [hST.out, hkn]; rfl)
        clear hsz
        go_wp2
        go_roundg (gk - 1)
        case measure => omega
        case rel => exact ⟨i + 1, by omega, by simp, by rw [E.out], rfl⟩
      | false =>
        by_cases hE : S[i].toNat = b
        · have E := hid (show knS S b (i + 1) = true from by rw [hST.out, hkn, hE]; simp)
          have hEI : ((S[i].toNat : Int) == (b : Int)) = true := by rw [hE]; simp
          clear hsz hE
          go_wp2
          go_roundg (gk - 1)
          case measure => omega
          case rel => exact ⟨i + 1, by omega, by simp, by rw [E.out], rfl⟩
        · have E := hid (show knS S b (i + 1) = false from by rw [hST.out, hkn]; simpa using hE)
          have hEI : ((S[i].toNat : Int) == (b : Int)) = false := by simp; omega
          clear hsz hE
          go_wp2
          go_roundg (gk - 1)
          case measure => omega
          case rel => exact ⟨i + 1, by omega, by simp, by rw [E.out], rfl⟩
    · have hltI : ¬ (i : Int) < (S.size : Int) := by omega
      obtain rfl : i = 15 := by omega
      rw [HEND.out, HK.out]
      clear hsz
      go_wp2_with (first | refine wpList_load_row rfl 34 _ rfl (p + 1) rfl 34 _ (0, 0) _ Q4.out Tryz.underlying34 rfl info34 ?_ | fail)
      go_ret
      exact ⟨rfl, T4.out⟩
set_option maxRecDepth 100000 in
set_option maxHeartbeats 8000000 in
theorem esc_none (b : Nat) (hb : b < 256) (c i : Int) (hc : c ≠ 0) (hs : symB b = false) (hk : knownB b = false) (hp : prsR (escT b) fl0 = .error (c, i)) (w : World) (ht : TabsK w) (hx : Sx w) (h7 : 7 ≤ w.heap.size) :
    Calls Tryz.prog 7 #[.int .u8 (b : Int)] w fun e w' => e = .returned (.bool true) ∧ Touch (fun _ => False) w w' := by
  have KS := hid (speaks_yes w ht hx h7)
  have KP := hid (fun (wq : World) (t : Touch (fun _ => False) w wq) => parse_any (escT b) fl0 wq (ht.new t) (hx.new t) (Nat.le_trans h7 t.size))
  rw [hp] at KP
  unfold escT fl0 PrsP at KP
  simp only at KP
  have HS := hid hs
  have hb2 : (UInt8.ofNat b).toNat = b := by rw [UInt8.toNat_ofNat']; omega
  clear ht hx h7 hp hs
  go_enter Tryz.func7, Tryz.ntmps7
  go_wp2_with fail
  refine KS.out.mono ?_
  rintro e w1 ⟨rfl, t1⟩
  have hcv := conv_lit w1 [92, UInt8.ofNat b] 2 rfl #[.int .u8 92, .int .u8 (b : Int)] (by simp [hb2])
  have KP2 := hid (KP.out _ (t1.trans ((Touch.refl (fun _ => False) w1).alloc (.cells #[.int .u8 92, .int .u8 (b : Int)] 5)) (fun _ _ e => e)))
  have T1 := hid (t1.trans ((Touch.refl (fun _ => False) w1).alloc (.cells #[.int .u8 92, .int .u8 (b : Int)] 5)) (fun _ _ e => e))
  clear t1 KS KP
  go_wp2_with fail
  generalize w1.alloc (.cells #[.int .u8 92, .int .u8 (b : Int)] 5) = w2 at *
  refine KP2.out.mono ?_
  rintro e w3 ⟨rfl, t3⟩
  have T3 := hid (T1.out.trans t3 (fun _ _ e => e))
  unfold zPat
  clear t3 T1 KP2 hcv
  go_upto_region 4 with fail
  have HK := kept2 w3 #[.int .i64 0, .slice none 0 0, .bool false, .int .i64 0, .int .i64 0, .bool false, .int .i64 0, .string ⟨#[]⟩, .slice none 0 0, .slice none 0 0] #[.int .i64 c, .int .i64 i]
  generalize (w3.alloc (.cells #[.int .i64 0, .slice none 0 0, .bool false, .int .i64 0, .int .i64 0, .bool false, .int .i64 0, .string ⟨#[]⟩, .slice none 0 0, .slice none 0 0] 31)).alloc (.cells #[.int .i64 c, .int .i64 i] 34) = w4 at *
  obtain ⟨hp4, hq4, t4⟩ := HK
  have T4 := hid (T3.out.trans t4 (fun _ _ e => e))
  obtain ⟨p, hpe⟩ : ∃ p, p = w3.heap.size := ⟨_, rfl⟩
  rw [← hpe] at hp4 hq4 ⊢
  clear hpe T3 t4
  have P4 := hid hp4
  have Q4 := hid hq4
  clear hp4 hq4
  have hbI : (b : Int) ≤ 255 := by omega
  go_cut [5] (fun v wd => v = .bool (letB b) ∧ w4 = wd)
  case first =>
    have hL := letB_is b
    by_cases h1 : 97 ≤ b
    · have g1 : (97 : Int) ≤ (b : Int) := by omega
      by_cases h2 : b ≤ 122
      · have g2 : (b : Int) ≤ 122 := by omega
        have E := hid (show letB b = true from by rw [hL]; omega)
        clear hL
        go_wp2
        go_meet
        case rel => exact ⟨by rw [E.out], rfl⟩
      · have g2 : ¬ (b : Int) ≤ 122 := by omega
        have g3 : (65 : Int) ≤ (b : Int) := by omega
        have g4 : ¬ (b : Int) ≤ 90 := by omega
        have E := hid (show letB b = false from by cases hh : letB b with | false => rfl | true => rw [hL] at hh; omega)
        clear hL
        go_wp2
        go_meet
        case rel => exact ⟨by rw [E.out], rfl⟩
    · have g1 : ¬ (97 : Int) ≤ (b : Int) := by omega
      by_cases h3 : 65 ≤ b
      · have g3 : (65 : Int) ≤ (b : Int) := by omega
        by_cases h4 : b ≤ 90
        · have g4 : (b : Int) ≤ 90 := by omega
          have E := hid (show letB b = true from by rw [hL]; omega)
          clear hL
          go_wp2
          go_meet
          case rel => exact ⟨by rw [E.out], rfl⟩
        · have g4 : ¬ (b : Int) ≤ 90 := by omega
          have E := hid (show letB b = false from by cases hh : letB b with | false => rfl | true => rw [hL] at hh; omega)
          clear hL
          go_wp2
          go_meet
          case rel => exact ⟨by rw [E.out], rfl⟩
      · have g3 : ¬ (65 : Int) ≤ (b : Int) := by omega
        have E := hid (show letB b = false from by cases hh : letB b with | false => rfl | true => rw [hL] at hh; omega)
        clear hL
        go_wp2
        go_meet
        case rel => exact ⟨by rw [E.out], rfl⟩
  obtain ⟨rfl, rfl⟩ := hcut
  go_upto_region 5 with fail
  go_cut [6] (fun v wd => v = .bool (digitB b) ∧ w4 = wd)
  case first =>
    have hL := digitB_is b
    by_cases h1 : 48 ≤ b
    · have g1 : (48 : Int) ≤ (b : Int) := by omega
      by_cases h2 : b ≤ 57
      · have g2 : (b : Int) ≤ 57 := by omega
        have E := hid (show digitB b = true from by rw [hL]; omega)
        clear hL
        go_wp2
        go_meet
        case rel => exact ⟨by rw [E.out], rfl⟩
      · have g2 : ¬ (b : Int) ≤ 57 := by omega
        have E := hid (show digitB b = false from by cases hh : digitB b with | false => rfl | true => rw [hL] at hh; omega)
        clear hL
        go_wp2
        go_meet
        case rel => exact ⟨by rw [E.out], rfl⟩
    · have g1 : ¬ (48 : Int) ≤ (b : Int) := by omega
      have E := hid (show digitB b = false from by cases hh : digitB b with | false => rfl | true => rw [hL] at hh; omega)
      clear hL
      go_wp2
      go_meet
      case rel => exact ⟨by rw [E.out], rfl⟩
  obtain ⟨rfl, rfl⟩ := hcut
  go_upto_region 6 with fail
  go_cut [5, 6, 53] (fun _ _ v wd => v = .bool (symB b) ∧ w4 = wd)
  case first =>
    have hL := hid (symB_is b)
    by_cases h1 : 32 < b
    · have g1 : (32 : Int) < (b : Int) := by omega
      by_cases h2 : b < 127
      · have g2 : (b : Int) < 127 := by omega
        cases hl : letB b with
        | true =>
          have E := hid (show symB b = false from by rw [hL.out, hl]; simp)
          clear hL
          go_wp2
          go_meet
          case rel => exact ⟨by rw [E.out], rfl⟩
        | false =>
          cases hd : digitB b with
          | true =>
            have E := hid (show symB b = false from by rw [hL.out, hd]; simp)
            clear hL
            go_wp2
            go_meet
            case rel => exact ⟨by rw [E.out], rfl⟩
          | false =>
            have E := hid (show symB b = true from by rw [hL.out, hl, hd, decide_eq_true h1, decide_eq_true h2]; rfl)
            clear hL
            go_wp2
            go_meet
            case rel => exact ⟨by rw [E.out], rfl⟩
      · have g2 : ¬ (b : Int) < 127 := by omega
        have E := hid (show symB b = false from by rw [hL.out, decide_eq_false h2]; simp)
        clear hL
        go_wp2
        go_meet
        case rel => exact ⟨by rw [E.out], rfl⟩
    · have g1 : ¬ (32 : Int) < (b : Int) := by omega
      have E := hid (show symB b = false from by rw [hL.out, decide_eq_false h1]; simp)
      clear hL
      go_wp2
      go_meet
      case rel => exact ⟨by rw [E.out], rfl⟩
  obtain ⟨rfl, rfl⟩ := hcut
  rw [HS.out]
  have HK := hid (hk)
  clear hb2
  go_upto_region 10 with fail
  obtain ⟨S, hS⟩ : ∃ S : ByteArray, S = ⟨#[65, 66, 68, 83, 87, 98, 100, 102, 110, 114, 115, 116, 118, 119, 122]⟩ := ⟨_, rfl⟩
  have HSZ := hid (show S.size = 15 by rw [hS]; rfl)
  have HEND := hid (show knS S b 15 = knownB b by rw [hS]; rfl)
  rw [← hS]
  clear hS
  go_wp2_with fail
  go_loopg [7, 9] 15 (fun gk v7 v9 wq => ∃ i : Nat, i + gk = 15 ∧ v9 = .int .i64 (i : Nat) ∧ v7 = .bool (knS S b i) ∧ wq = w4)
  case atStart => exact ⟨0, rfl, rfl, rfl, rfl⟩
  case round =>
    obtain ⟨i, hgk, rfl, rfl, rfl⟩ := hrel
    have hsz := HSZ.out
    by_cases hlt : i < S.size
    · have hltI : (i : Int) < (S.size : Int) := by omega
      have hST := hid (kn_step S b i hlt)
      have hsI : (S.size : Int) ≤ 15 := by omega
      cases hkn : knS S b i with
      | true =>
        have E := hid (show knS S b (i + 1) = true from by rw [hST.out, hkn]; rfl)
        clear hsz
        go_wp2
        go_roundg (gk - 1)
        case measure => omega
        case rel => exact ⟨i + 1, by omega, by simp, by rw [E.out], rfl⟩
      | false =>
        by_cases hE : S[i].toNat = b
        · have E := hid (show knS S b (i + 1) = true from by rw [hST.out, hkn, hE]; simp)
          have hEI : ((S[i].toNat : Int) == (b : Int)) = true := by rw [hE]; simp
          clear hsz hE
          go_wp2
          go_roundg (gk - 1)
          case measure => omega
          case rel => exact ⟨i + 1, by omega, by simp, by rw [E.out], rfl⟩
        · have E := hid (show knS S b (i + 1) = false from by rw [hST.out, hkn]; simpa using hE)
          have hEI : ((S[i].toNat : Int) == (b : Int)) = false := by simp; omega
          clear hsz hE
          go_wp2
          go_roundg (gk - 1)
          case measure => omega
          case rel => exact ⟨i + 1, by omega, by simp, by rw [E.out], rfl⟩
    · have hltI : ¬ (i : Int) < (S.size : Int) := by omega
      obtain rfl : i = 15 := by omega
      rw [HEND.out, HK.out]
      have hcB : (c == 0) = false := by simpa using hc
      clear hsz
      go_wp2_with (first | refine wpList_load_row rfl 34 _ rfl (p + 1) rfl 34 _ (0, 0) _ Q4.out Tryz.underlying34 rfl info34 ?_ | fail)
      go_ret
      exact ⟨rfl, T4.out⟩
set_option maxRecDepth 100000 in
set_option maxHeartbeats 8000000 in
theorem esc_sym (b : Nat) (hb : b < 256) (hs : symB b = true) (hp : prsR (escT b) fl0 = .ok (.cls fl0 [((b : Int), (b : Int))], [⟨#[]⟩])) (w : World) (ht : TabsK w) (hx : Sx w) (h7 : 7 ≤ w.heap.size) :
    Calls Tryz.prog 7 #[.int .u8 (b : Int)] w fun e w' => e = .returned (.bool true) ∧ Touch (fun _ => False) w w' := by
  have KS := hid (speaks_yes w ht hx h7)
  have KP := hid (fun (wq : World) (t : Touch (fun _ => False) w wq) => parse_any (escT b) fl0 wq (ht.new t) (hx.new t) (Nat.le_trans h7 t.size))
  rw [hp] at KP
  unfold escT fl0 PrsP at KP
  simp only at KP
  have HS := hid hs
  have hb2 : (UInt8.ofNat b).toNat = b := by rw [UInt8.toNat_ofNat']; omega
  clear ht hx h7 hp hs
  go_enter Tryz.func7, Tryz.ntmps7
  go_wp2_with fail
  refine KS.out.mono ?_
  rintro e w1 ⟨rfl, t1⟩
  have hcv := conv_lit w1 [92, UInt8.ofNat b] 2 rfl #[.int .u8 92, .int .u8 (b : Int)] (by simp [hb2])
  have KP2 := hid (KP.out _ (t1.trans ((Touch.refl (fun _ => False) w1).alloc (.cells #[.int .u8 92, .int .u8 (b : Int)] 5)) (fun _ _ e => e)))
  have T1 := hid (t1.trans ((Touch.refl (fun _ => False) w1).alloc (.cells #[.int .u8 92, .int .u8 (b : Int)] 5)) (fun _ _ e => e))
  clear t1 KS KP
  go_wp2_with fail
  generalize w1.alloc (.cells #[.int .u8 92, .int .u8 (b : Int)] 5) = w2 at *
  refine KP2.out.mono ?_
  rintro e w3 ⟨c, an, nn, cn, rfl, ht3, hs3, hn3, t3⟩
  have T3 := hid (T1.out.trans t3 (fun _ _ e => e))
  have e1 := ht3.inv.1.1
  have sr := ht3.inv.2.1
  obtain ⟨ck, sa, sn, sc, fo, mi, ma, la, ca, nm, ka, kn, kc⟩ := c
  simp only at e1 sr
  subst e1
  have rg := sr.rg.1
  obtain rfl : sn = 1 := sr.rg.2
  have RG3 := hid rg
  clear rg sr
  unfold Cel.arr
  clear t3 T1 KP2 hcv ht3 hs3 hn3
  go_upto_region 4 with fail
  have HK := kept2 w3 #[.int .i64 1, .slice sa 1 sc, .bool fo, .int .i64 mi, .int .i64 ma, .bool la, .int .i64 ca, .string nm, .slice ka kn kc, .slice an nn cn] #[.int .i64 0, .int .i64 0]
  generalize (w3.alloc (.cells #[.int .i64 1, .slice sa 1 sc, .bool fo, .int .i64 mi, .int .i64 ma, .bool la, .int .i64 ca, .string nm, .slice ka kn kc, .slice an nn cn] 31)).alloc (.cells #[.int .i64 0, .int .i64 0] 34) = w4 at *
  obtain ⟨hp4, hq4, t4⟩ := HK
  have T4 := hid (T3.out.trans t4 (fun _ _ e => e))
  have RG := hid (RG3.out.kept t4 (fun _ _ _ _ e => e))
  clear RG3
  obtain ⟨p, hpe⟩ : ∃ p, p = w3.heap.size := ⟨_, rfl⟩
  rw [← hpe] at hp4 hq4 ⊢
  clear hpe T3 t4
  have P4 := hid hp4
  have Q4 := hid hq4
  clear hp4 hq4
  have hbI : (b : Int) ≤ 255 := by omega
  go_cut [5] (fun v wd => v = .bool (letB b) ∧ w4 = wd)
  case first =>
    have hL := letB_is b
    by_cases h1 : 97 ≤ b
    · have g1 : (97 : Int) ≤ (b : Int) := by omega
      by_cases h2 : b ≤ 122
      · have g2 : (b : Int) ≤ 122 := by omega
        have E := hid (show letB b = true from by rw [hL]; omega)
        clear hL
        go_wp2
        go_meet
        case rel => exact ⟨by rw [E.out], rfl⟩
      · have g2 : ¬ (b : Int) ≤ 122 := by omega
        have g3 : (65 : Int) ≤ (b : Int) := by omega
        have g4 : ¬ (b : Int) ≤ 90 := by omega
        have E := hid (show letB b = false from by cases hh : letB b with | false => rfl | true => rw [hL] at hh; omega)
        clear hL
        go_wp2
        go_meet
        case rel => exact ⟨by rw [E.out], rfl⟩
    · have g1 : ¬ (97 : Int) ≤ (b : Int) := by omega
      by_cases h3 : 65 ≤ b
      · have g3 : (65 : Int) ≤ (b : Int) := by omega
        by_cases h4 : b ≤ 90
        · have g4 : (b : Int) ≤ 90 := by omega
          have E := hid (show letB b = true from by rw [hL]; omega)
          clear hL
          go_wp2
          go_meet
          case rel => exact ⟨by rw [E.out], rfl⟩
        · have g4 : ¬ (b : Int) ≤ 90 := by omega
          have E := hid (show letB b = false from by cases hh : letB b with | false => rfl | true => rw [hL] at hh; omega)
          clear hL
          go_wp2
          go_meet
          case rel => exact ⟨by rw [E.out], rfl⟩
      · have g3 : ¬ (65 : Int) ≤ (b : Int) := by omega
        have E := hid (show letB b = false from by cases hh : letB b with | false => rfl | true => rw [hL] at hh; omega)
        clear hL
        go_wp2
        go_meet
        case rel => exact ⟨by rw [E.out], rfl⟩
  obtain ⟨rfl, rfl⟩ := hcut
  go_upto_region 5 with fail
  go_cut [6] (fun v wd => v = .bool (digitB b) ∧ w4 = wd)
  case first =>
    have hL := digitB_is b
    by_cases h1 : 48 ≤ b
    · have g1 : (48 : Int) ≤ (b : Int) := by omega
      by_cases h2 : b ≤ 57
      · have g2 : (b : Int) ≤ 57 := by omega
        have E := hid (show digitB b = true from by rw [hL]; omega)
        clear hL
        go_wp2
        go_meet
        case rel => exact ⟨by rw [E.out], rfl⟩
      · have g2 : ¬ (b : Int) ≤ 57 := by omega
        have E := hid (show digitB b = false from by cases hh : digitB b with | false => rfl | true => rw [hL] at hh; omega)
        clear hL
        go_wp2
        go_meet
        case rel => exact ⟨by rw [E.out], rfl⟩
    · have g1 : ¬ (48 : Int) ≤ (b : Int) := by omega
      have E := hid (show digitB b = false from by cases hh : digitB b with | false => rfl | true => rw [hL] at hh; omega)
      clear hL
      go_wp2
      go_meet
      case rel => exact ⟨by rw [E.out], rfl⟩
  obtain ⟨rfl, rfl⟩ := hcut
  go_upto_region 6 with fail
  go_cut [5, 6, 53] (fun _ _ v wd => v = .bool (symB b) ∧ w4 = wd)
  case first =>
    have hL := hid (symB_is b)
    by_cases h1 : 32 < b
    · have g1 : (32 : Int) < (b : Int) := by omega
      by_cases h2 : b < 127
      · have g2 : (b : Int) < 127 := by omega
        cases hl : letB b with
        | true =>
          have E := hid (show symB b = false from by rw [hL.out, hl]; simp)
          clear hL
          go_wp2
          go_meet
          case rel => exact ⟨by rw [E.out], rfl⟩
        | false =>
          cases hd : digitB b with
          | true =>
            have E := hid (show symB b = false from by rw [hL.out, hd]; simp)
            clear hL
            go_wp2
            go_meet
            case rel => exact ⟨by rw [E.out], rfl⟩
          | false =>
            have E := hid (show symB b = true from by rw [hL.out, hl, hd, decide_eq_true h1, decide_eq_true h2]; rfl)
            clear hL
            go_wp2
            go_meet
            case rel => exact ⟨by rw [E.out], rfl⟩
      · have g2 : ¬ (b : Int) < 127 := by omega
        have E := hid (show symB b = false from by rw [hL.out, decide_eq_false h2]; simp)
        clear hL
        go_wp2
        go_meet
        case rel => exact ⟨by rw [E.out], rfl⟩
    · have g1 : ¬ (32 : Int) < (b : Int) := by omega
      have E := hid (show symB b = false from by rw [hL.out, decide_eq_false h1]; simp)
      clear hL
      go_wp2
      go_meet
      case rel => exact ⟨by rw [E.out], rfl⟩
  obtain ⟨rfl, rfl⟩ := hcut
  rw [HS.out]
  have hsl : Canon [((b : Int), (b : Int))] := ⟨fun r hr => by simp at hr; subst hr; exact ⟨by simp only; omega, Int.le_refl _, by simp only; omega⟩, List.pairwise_singleton _ _⟩
  have KZ := hid (fun (wq : World) (t : Touch (fun _ => False) w4 wq) => size_says sa sc [((b : Int), (b : Int))] wq (RG.out.kept t (fun _ _ _ _ e => e)) hsl)
  have KH := hid (fun (wq : World) (t : Touch (fun _ => False) w4 wq) => has_says sa sc [((b : Int), (b : Int))] (b : Int) wq (RG.out.kept t (fun _ _ _ _ e => e)) hsl)
  have hz : sizeL [((b : Int), (b : Int))] = 1 := by simp [sizeL]
  have hh : hasB (b : Int) [((b : Int), (b : Int))] = true := by simp [hasB]
  rw [hz] at KZ
  rw [hh] at KH
  simp only [List.length_cons, List.length_nil, Nat.zero_add] at KZ KH
  clear hz hh hsl
  have c0 := cell_of P4.out 0 _ rfl
  have c1 := cell_of P4.out 1 _ rfl
  have K1 := hid (KZ.out w4 (Touch.refl _ _))
  go_wp2_with (first | refine wpList_load_row rfl 34 _ rfl (p + 1) rfl 34 _ (0, 0) _ Q4.out Tryz.underlying34 rfl info34 ?_ | fail)
  refine K1.out.mono ?_
  rintro e w5 ⟨rfl, t5⟩
  have T5 := hid (T4.out.trans t5 (fun _ _ e => e))
  have K2 := hid (KH.out w5 t5)
  have d1 := (t5.cell (p := ⟨p, 1, none⟩) (lt_of_block P4.out) id).trans c1
  clear c0 c1 KZ KH K1 t5 T4
  go_wp2_with fail
  refine K2.out.mono ?_
  rintro e w6 ⟨rfl, t6⟩
  have T6 := hid (T5.out.trans t6 (fun _ _ e => e))
  clear t6 K2 T5 d1
  go_wp2
  go_ret
  exact ⟨rfl, T6.out⟩
theorem escapes_walk (b : Nat) (hb : b < 256) (w : World) (ht : TabsK w) (hx : Sx w) (h7 : 7 ≤ w.heap.size) :
    Calls Tryz.prog 7 #[.int .u8 (b : Int)] w fun e w' => e = .returned (.bool true) ∧ Touch (fun _ => False) w w' := by
  rcases esc_prs b hb with ⟨hs, hp⟩ | ⟨hs, hk, x, ns, hp⟩ | ⟨hs, hk, c, i, hc, hp⟩
  · exact esc_sym b hb hs hp w ht hx h7
  · exact esc_known b hb x ns hs hk hp w ht hx h7
  · exact esc_none b hb c i hc hs hk hp w ht hx h7
end Go.Proofs.YtdhhcefmmojcmaaGreatDoor
