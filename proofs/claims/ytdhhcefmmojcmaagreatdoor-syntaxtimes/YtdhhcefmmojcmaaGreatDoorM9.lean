/- Texts of this proof, one behind the other: what each says stands ahead of it. -/
import Derived.Test.YtdhhcefmmojcmaaGreatDoorM8
/- takeUTF8 of a text that isn't empty; condition: the two tables lie there. -/
namespace Go.Proofs.YtdhhcefmmojcmaaGreatDoor
open Go.RowKit

def tkGo (s : ByteArray) (m : Nat) : Nat → Nat → Nat → Nat → Nat → Int × Nat
  | 0, _, sc, _, _ => ((sc : Int), 1 + m)
  | k + 1, i, sc, lo, hi => if i = s.size ∨ byN s i < lo ∨ hi < byN s i then (-1, i) else tkGo s m k (i + 1) (64 * sc + byN s i % 64) 128 191
def tk8 (s : ByteArray) : Int × Nat := match leadOf (byN s 0) with
  | none => (-1, 1)
  | some l => tkGo s l.more l.more 1 (byN s 0 % 2 ^ (7 - l.more)) l.low l.high
theorem lead_in {b : Nat} {l : Lead} (h : leadOf b = some l) : l.first < 256 ∧ l.last < 256 ∧ l.more ≤ 3 ∧ l.low < 256 ∧ l.high < 256 := lead_small l (List.mem_of_find?_eq_some h)

theorem and_mask (n k : Nat) (hn : n < 256) (hk : k ≤ 7) : bits .and .i64 (wrap64 (n : Int)) ((2 ^ k - 1 : Nat) : Int) = ((n % 2 ^ k : Nat) : Int) := by
  have hp : 2 ^ k ≤ 2 ^ 7 := Nat.pow_le_pow_right (by decide) hk
  rw [IntWalk.wrap64_in _ (by omega), (bits_nat .i64 62 (by decide) wraps_i64 n (2 ^ k - 1) (by omega) (by omega)).1, Nat.and_two_pow_sub_one_eq_mod]
theorem next_six (sc n : Nat) (hs : sc < 524288) : bits .or .i64 ((sc : Int) * 64) ((n : Int) % 64) = ((64 * sc + n % 64 : Nat) : Int) := by
  rw [show (sc : Int) * 64 = ((2 ^ 6 * sc : Nat) : Int) by omega, show (n : Int) % 64 = ((n % 64 : Nat) : Int) by omega, or_high (n % 64) sc 6 (by omega) (by omega)]

set_option maxRecDepth 100000 in
set_option maxHeartbeats 8000000 in
theorem take8_any (s : ByteArray) (hs : 0 < s.size) (hb : s.size ≤ 140737488351232) (w : World) (ht : TabsK w) :
    Calls Tryz.prog 67 #[.string s] w fun e w' => e = .returned (.tuple #[.int .i64 (tk8 s).1, .int .i64 ((tk8 s).2 : Nat)]) ∧ Touch (fun _ => False) w w' := by
  have K := hid (leadOf_any (byN s 0) w ht)
  have HB := hid (by_get s 0 hs)
  have hsI : (0 : Int) < (s.size : Int) := by omega
  obtain ⟨R, hR⟩ : ∃ R, tk8 s = R := ⟨_, rfl⟩
  have HR := hid hR
  rw [hR]
  clear hR ht
  cases hl : leadOf (byN s 0) with
  | none =>
    rw [leadR_none hl, ← HB.out] at K
    have HRN := hid (show R = (-1, 1) by rw [← HR.out]; unfold tk8; rw [hl])
    clear hl
    go_enter Tryz.func67, Tryz.ntmps67
    go_wp2_with fail
    refine K.out.mono ?_
    rintro e w1 ⟨rfl, tc⟩
    have T := hid tc
    clear tc K
    go_wp2
    go_ret2
    exact ⟨by rw [HRN.out]; rfl, T.out.alloc _⟩
  | some l =>
    rw [leadR_some hl, ← HB.out] at K
    have hsm := lead_in hl
    have HRS := hid (show tkGo s l.more l.more 1 (byN s 0 % 2 ^ (7 - l.more)) l.low l.high = R by rw [← HR.out]; unfold tk8; rw [hl])
    clear hl HR
    obtain ⟨x, y, m, lo, hi⟩ := l
    unfold leadV at K
    dsimp only at K hsm HRS
    go_enter Tryz.func67, Tryz.ntmps67
    go_wp2_with fail
    refine K.out.mono ?_
    rintro e w1 ⟨rfl, tc⟩
    have T := hid (tc.alloc (.cells #[.int .u8 x, .int .u8 y, .int .i64 m, .int .u8 lo, .int .u8 hi] 147))
    have B := hid (block_new w1 #[.int .u8 x, .int .u8 y, .int .i64 m, .int .u8 lo, .int .u8 hi] 147)
    clear tc K
    go_upto_region 4 with fail
    generalize (w1.alloc (.cells #[.int .u8 x, .int .u8 y, .int .i64 m, .int .u8 lo, .int .u8 hi] 147)) = wA at *
    obtain ⟨g, hg⟩ : ∃ g, g = w1.heap.size := ⟨_, rfl⟩
    rw [← hg] at B ⊢
    clear hg
    have c2 : wA.cell? ⟨g, 2, none⟩ = some (.int .i64 m) := by simp [World.cell?, B.out]
    have c3 : wA.cell? ⟨g, 3, none⟩ = some (.int .u8 lo) := by simp [World.cell?, B.out]
    have c4 : wA.cell? ⟨g, 4, none⟩ = some (.int .u8 hi) := by simp [World.cell?, B.out]
    go_cut [6] (fun v wd => v = .int .i64 ((byN s 0 % 2 ^ (7 - m) : Nat) : Int) ∧ ∃ n, wd = wA.drewN n)
    case first =>
      rcases (show m = 0 ∨ m = 1 ∨ m = 2 ∨ m = 3 by omega) with rfl | rfl | rfl | rfl
      · have HM := hid (and_mask (byN s 0) 7 (by_lt s 0) (by decide))
        go_quiet (fail)
        go_wp2
        go_meet
        case rel => exact ⟨by rw [HB.out]; exact congrArg _ HM.out, _, rfl⟩
      · have HM := hid (and_mask (byN s 0) 6 (by_lt s 0) (by decide))
        go_quiet (fail)
        go_wp2
        go_meet
        case rel => exact ⟨by rw [HB.out]; exact congrArg _ HM.out, _, rfl⟩
      · have HM := hid (and_mask (byN s 0) 5 (by_lt s 0) (by decide))
        go_quiet (fail)
        go_wp2
        go_meet
        case rel => exact ⟨by rw [HB.out]; exact congrArg _ HM.out, _, rfl⟩
      · have HM := hid (and_mask (byN s 0) 4 (by_lt s 0) (by decide))
        go_quiet (fail)
        go_wp2
        go_meet
        case rel => exact ⟨by rw [HB.out]; exact congrArg _ HM.out, _, rfl⟩
    obtain ⟨rfl, n1, rfl⟩ := hcut
    have hsc : byN s 0 % 2 ^ (7 - m) < 128 := by
      have h1 : 0 < 2 ^ (7 - m) := Nat.two_pow_pos _
      have h2 : 2 ^ (7 - m) ≤ 2 ^ 7 := Nat.pow_le_pow_right (by decide) (by omega)
      have := Nat.mod_lt (byN s 0) h1
      omega
    generalize byN s 0 % 2 ^ (7 - m) = sc0 at *
    replace T := hid (T.out.drewN n1)
    replace B := hid (show (wA.drewN n1).heap[g]? = _ from B.out)
    have e2 : (wA.drewN n1).cell? ⟨g, 2, none⟩ = some (.int .i64 m) := c2
    have e3 : (wA.drewN n1).cell? ⟨g, 3, none⟩ = some (.int .u8 lo) := c3
    have e4 : (wA.drewN n1).cell? ⟨g, 4, none⟩ = some (.int .u8 hi) := c4
    clear c2 c3 c4 HB
    generalize wA.drewN n1 = wB at *
    go_wp2_with fail
    go_quiet (fail)
    replace T := hid (T.out.drewN nq)
    replace B := hid (show (wB.drewN nq).heap[g]? = _ from B.out)
    have d2 : (wB.drewN nq).cell? ⟨g, 2, none⟩ = some (.int .i64 m) := e2
    clear e2 e3 e4
    generalize wB.drewN nq = wC at *
    go_wp2_with fail
    go_loopg [6, 7, 8, 9] m (fun gk v6 v7 v8 v9 wq => ∃ i sc l h : Nat, i + gk = m + 1 ∧ 1 ≤ i ∧ v6 = .int .i64 (sc : Nat) ∧ v7 = .int .u8 (l : Nat) ∧ v8 = .int .u8 (h : Nat) ∧ v9 = .int .i64 (i : Nat) ∧ i ≤ s.size ∧ l < 256 ∧ h < 256 ∧ ((i = 1 → sc < 128) ∧ (i = 2 → sc < 8192) ∧ (i = 3 → sc < 524288)) ∧ tkGo s m gk i sc l h = R ∧ wC = wq)
    case atStart => exact ⟨1, sc0, lo, hi, by omega, Nat.le_refl _, rfl, rfl, rfl, rfl, by omega, by omega, by omega, ⟨fun _ => hsc, by omega, by omega⟩, HRS.out, rfl⟩
    case round =>
      obtain ⟨i, sc, l, h, hk, h1, rfl, rfl, rfl, rfl, hin, hl, hh, hb3, htk, rfl⟩ := hrel
      have HK := hid htk
      clear htk HRS
      by_cases hlt : i ≤ m
      · obtain ⟨gk, rfl⟩ : ∃ q, gk = q + 1 := ⟨gk - 1, by omega⟩
        have HST := hid (show (if i = s.size ∨ byN s i < l ∨ h < byN s i then ((-1 : Int), i) else tkGo s m gk (i + 1) (64 * sc + byN s i % 64) 128 191) = R from HK.out)
        have hltI : (i : Int) ≤ (m : Int) := by omega
        clear HK
        by_cases hend : i = s.size
        · have HRE := hid (show R = (-1, i) by rw [← HST.out, if_pos (.inl hend)])
          have hd : decide ((i : Int) = (s.size : Int)) = true := decide_eq_true (by omega)
          clear HST
          go_wp2
          go_ret2
          exact ⟨by rw [HRE.out]; rfl, T.out⟩
        · have hd : decide ((i : Int) = (s.size : Int)) = false := decide_eq_false (by omega)
          have hd2 : ((i : Int) == (s.size : Int)) = false := by rw [beq_eq_false_iff_ne]; omega
          have hii : i < s.size := by omega
          have hiI : (i : Int) < (s.size : Int) := by omega
          have hbi := by_get s i hii
          have HBI := hid hbi
          have hbl := by_lt s i
          by_cases hlo : byN s i < l
          · have HRE := hid (show R = (-1, i) by rw [← HST.out, if_pos (.inr (.inl hlo))])
            have k1 : (s[i].toNat : Int) < (l : Int) := by rw [hbi]; omega
            clear HST hbi
            go_wp2
            go_ret2
            exact ⟨by rw [HRE.out]; rfl, T.out⟩
          · have k1 : (l : Int) ≤ (s[i].toNat : Int) := by rw [hbi]; omega
            by_cases hhi : h < byN s i
            · have HRE := hid (show R = (-1, i) by rw [← HST.out, if_pos (.inr (.inr hhi))])
              have k2 : (h : Int) < (s[i].toNat : Int) := by rw [hbi]; omega
              clear HST hbi
              go_wp2
              go_ret2
              exact ⟨by rw [HRE.out]; rfl, T.out⟩
            · have k2 : (s[i].toNat : Int) ≤ (h : Int) := by rw [hbi]; omega
              have HRE := hid (show tkGo s m gk (i + 1) (64 * sc + byN s i % 64) 128 191 = R by rw [← HST.out, if_neg (by omega)])
              have HNX := hid (next_six sc (byN s i) (by omega))
              clear HST hbi
              go_wp2
              go_roundg gk
              case measure => omega
              case rel => exact ⟨i + 1, 64 * sc + byN s i % 64, 128, 191, by omega, by omega, by rw [HBI.out, HNX.out], rfl, rfl, by go_num, by omega, by omega, by omega, ⟨by omega, by omega, by omega⟩, HRE.out, rfl⟩
      · obtain rfl : gk = 0 := by omega
        have HRE := hid (show R = ((sc : Int), 1 + m) from HK.out.symm)
        have hltI : ¬ ((i : Int) ≤ (m : Int)) := by omega
        have z0 : IntKind.i64.wrap (1 + (m : Int)) = 1 + (m : Int) := by rw [IntKind.wrap_i64]; omega
        go_wp2_with fail
        go_quiet (fail)
        go_wp2
        go_ret2
        exact ⟨by rw [HRE.out]; rfl, T.out.drewN _⟩
end Go.Proofs.YtdhhcefmmojcmaaGreatDoor

/- The other takers: pairs of bytes, and the rest of a text; conditions: those told. -/
namespace Go.Proofs.YtdhhcefmmojcmaaGreatDoor
open Go.RowKit

set_option maxRecDepth 100000 in
theorem isHalf_any (r : Int) (w : World) : Calls Tryz.prog 91 #[.int .i64 r] w fun e w' => e = .returned (.bool (decide (55296 ≤ r) && decide (r < 57344))) ∧ w = w' := by
  by_cases h1 : 55296 ≤ r
  · by_cases h2 : r < 57344
    · go_enter Tryz.func91, Tryz.ntmps91
      go_wp2
      go_ret
      exact ⟨by simp [h1, h2], rfl⟩
    · have k2 : decide (r < 57344) = false := decide_eq_false h2
      go_enter Tryz.func91, Tryz.ntmps91
      go_wp2
      go_ret
      exact ⟨by simp, rfl⟩
  · have k1 : decide (55296 ≤ r) = false := decide_eq_false h1
    go_enter Tryz.func91, Tryz.ntmps91
    go_wp2
    go_ret
    exact ⟨by simp, rfl⟩

/-- A number by its two halves, or what is wrong. -/
def tk16 (U : Nat → Int) (i : Nat) : Int × Nat :=
  if U i = -1 then (-1, 1)
  else if ¬ (55296 ≤ U i ∧ U i < 57344) then (U i, 2)
  else if 56320 ≤ U i ∨ U (i + 2) < 56320 ∨ 57344 ≤ U (i + 2) then (-1, 2)
  else (65536 + (U i - 55296) * 1024 + U (i + 2) - 56320, 4)

set_option maxRecDepth 100000 in
set_option maxHeartbeats 4000000 in
theorem pair_any (U : Nat → Int) (bd bl bh i : Nat) (w : World) (hi : i ≤ 140737488351232) (hU : ∀ j, -1 ≤ U j ∧ U j ≤ 65535)
    (hc : ∀ wq, Touch (fun _ => False) w wq → ∀ j : Nat, j ≤ 140737488351240 → Calls Tryz.prog 90 (#[.int .i64 j] ++ #[.pointer (some ⟨bd, 0, none⟩), .pointer (some ⟨bl, 0, none⟩), .pointer (some ⟨bh, 0, none⟩)]) wq fun e w' => e = .returned (.int .i64 (U j)) ∧ Touch (fun _ => False) wq w') :
    Calls Tryz.prog 64 #[.func (.func 90) #[] #[.pointer (some ⟨bd, 0, none⟩), .pointer (some ⟨bl, 0, none⟩), .pointer (some ⟨bh, 0, none⟩)], .int .i64 i] w fun e w' => e = .returned (.tuple #[.int .i64 (tk16 U i).1, .int .i64 ((tk16 U i).2 : Nat)]) ∧ Touch (fun _ => False) w w' := by
  have HC := hid hc
  have K1 := hid (hc w (Touch.refl _ w) i (by omega))
  have hu := hU i
  have hv := hU (i + 2)
  obtain ⟨R, hR⟩ : ∃ R, tk16 U i = R := ⟨_, rfl⟩
  have HR := hid hR
  unfold tk16 at hR
  rw [HR.out]
  clear hc HR
  obtain ⟨j, hj⟩ : ∃ j, j = i + 2 := ⟨_, rfl⟩
  have hji : (j : Int) = (i : Int) + 2 := by omega
  have hjb : j ≤ 140737488351240 := by omega
  rw [← hj] at hR hv
  clear hj
  obtain ⟨u, hu0⟩ : ∃ u, U i = u := ⟨_, rfl⟩
  rw [hu0] at hR hu K1
  have KV := hid (fun wq tq => HC.out wq tq j hjb)
  obtain ⟨v, hv0⟩ : ∃ v, U j = v := ⟨_, rfl⟩
  rw [hv0] at hR hv KV
  rw [hji] at KV
  clear hu0 hv0 HC hU hji hjb
  have HR := hid hR
  clear hR
  go_enter Tryz.func64, Tryz.ntmps64
  go_wp2_with fail
  refine K1.out.mono ?_
  rintro e w1 ⟨rfl, tc⟩
  have T := hid tc
  clear tc K1
  by_cases h1 : u = -1
  · subst h1
    have HE := hid (show R = (-1, 1) by rw [← HR.out, if_pos rfl])
    go_wp2
    go_ret2
    exact ⟨by rw [HE.out]; rfl, T.out⟩
  have hd1 : decide (u = -1) = false := decide_eq_false h1
  have hd1' : (u == -1) = false := by simpa using h1
  rw [if_neg h1] at HR
  have KH := hid (isHalf_any u w1)
  by_cases h2 : 55296 ≤ u ∧ u < 57344
  · rw [show (decide (55296 ≤ u) && decide (u < 57344)) = true by simp [h2]] at KH
    rw [if_neg (fun k => k h2)] at HR
    obtain ⟨h2a, h2b⟩ := h2
    go_wp2_with fail
    refine KH.out.mono ?_
    rintro e w1 ⟨rfl, rfl⟩
    go_wp2_with fail
    refine (KV.out w1 T.out).mono ?_
    rintro e w2 ⟨rfl, tc⟩
    replace T := hid (T.out.trans tc (fun _ _ e => e))
    clear tc KV KH
    by_cases h3 : 56320 ≤ u
    · have HE := hid (show R = (-1, 2) by rw [← HR.out, if_pos (.inl h3)])
      go_wp2
      go_ret2
      exact ⟨by rw [HE.out]; rfl, T.out⟩
    · by_cases h4 : v < 56320
      · have HE := hid (show R = (-1, 2) by rw [← HR.out, if_pos (.inr (.inl h4))])
        go_wp2
        go_ret2
        exact ⟨by rw [HE.out]; rfl, T.out⟩
      · by_cases h5 : 57344 ≤ v
        · have HE := hid (show R = (-1, 2) by rw [← HR.out, if_pos (.inr (.inr h5))])
          go_wp2
          go_ret2
          exact ⟨by rw [HE.out]; rfl, T.out⟩
        · have HE := hid (show R = (65536 + (u - 55296) * 1024 + v - 56320, 4) by rw [← HR.out, if_neg (by omega)])
          go_wp2
          go_ret2
          exact ⟨by rw [HE.out]; rfl, T.out⟩
  · rw [show (decide (55296 ≤ u) && decide (u < 57344)) = false by simp; omega] at KH
    have HE := hid (show R = (u, 2) by rw [← HR.out, if_pos h2])
    clear h2
    go_wp2_with fail
    refine KH.out.mono ?_
    rintro e w1 ⟨rfl, rfl⟩
    go_wp2
    go_ret2
    exact ⟨by rw [HE.out]; rfl, T.out⟩

set_option maxRecDepth 100000 in
theorem take_rest (b i : Nat) (s : ByteArray) (w : World) (ht : TabsK w) (hd : w.cell? ⟨b, 0, none⟩ = some (.string s)) (hi : i < s.size) (hs : s.size ≤ 140737488351232) :
    Calls Tryz.prog 66 (#[.int .i64 i] ++ #[.pointer (some ⟨b, 0, none⟩)]) w fun e w' => e = .returned (.tuple #[.int .i64 (tk8 (s.extract i s.size)).1, .int .i64 ((tk8 (s.extract i s.size)).2 : Nat)]) ∧ Touch (fun _ => False) w w' := by
  have hsz : (s.extract i s.size).size = s.size - i := by rw [ByteArray.size_extract]; omega
  have K := hid (take8_any (s.extract i s.size) (by omega) (by omega) w ht)
  have hiI : (i : Int) ≤ (s.size : Int) := by omega
  generalize tk8 (s.extract i s.size) = R at *
  clear ht hsz
  go_enter Tryz.func66, Tryz.ntmps66
  go_wp2_with fail
  refine K.out.mono ?_
  rintro e w1 ⟨rfl, tc⟩
  have T := hid tc
  clear tc K
  go_wp2
  go_ret2
  exact ⟨rfl, T.out⟩

set_option maxRecDepth 100000 in
theorem take_pair (U : Nat → Int) (b bd bl bh i : Nat) (w : World) (hi : i ≤ 140737488351232) (hU : ∀ j, -1 ≤ U j ∧ U j ≤ 65535) (hb : w.cell? ⟨b, 0, none⟩ = some (.func (.func 90) #[] #[.pointer (some ⟨bd, 0, none⟩), .pointer (some ⟨bl, 0, none⟩), .pointer (some ⟨bh, 0, none⟩)]))
    (hc : ∀ wq, Touch (fun _ => False) w wq → ∀ j : Nat, j ≤ 140737488351240 → Calls Tryz.prog 90 (#[.int .i64 j] ++ #[.pointer (some ⟨bd, 0, none⟩), .pointer (some ⟨bl, 0, none⟩), .pointer (some ⟨bh, 0, none⟩)]) wq fun e w' => e = .returned (.int .i64 (U j)) ∧ Touch (fun _ => False) wq w') :
    Calls Tryz.prog 63 (#[.int .i64 i] ++ #[.pointer (some ⟨b, 0, none⟩)]) w fun e w' => e = .returned (.tuple #[.int .i64 (tk16 U i).1, .int .i64 ((tk16 U i).2 : Nat)]) ∧ Touch (fun _ => False) w w' := by
  have K := hid (pair_any U bd bl bh i w hi hU hc)
  generalize tk16 U i = R at *
  clear hc hU
  go_enter Tryz.func63, Tryz.ntmps63
  go_wp2_with fail
  refine K.out.mono ?_
  rintro e w1 ⟨rfl, tc⟩
  have T := hid tc
  clear tc K
  go_wp2
  go_ret2
  exact ⟨rfl, T.out⟩
end Go.Proofs.YtdhhcefmmojcmaaGreatDoor

/- taker: what it hands back, and what that answers; conditions: those told. -/
namespace Go.Proofs.YtdhhcefmmojcmaaGreatDoor
open Go.RowKit

/-- The number in two bytes, the lower one first, or the higher one. -/
def unitL (s : ByteArray) (i : Nat) : Int := if s.size < i + 2 then -1 else (byN s i + 256 * byN s (i + 1) : Nat)
def unitB (s : ByteArray) (i : Nat) : Int := if s.size < i + 2 then -1 else (byN s (i + 1) + 256 * byN s i : Nat)
theorem unitL_in (s : ByteArray) (i : Nat) : -1 ≤ unitL s i ∧ unitL s i ≤ 65535 := by
  have := by_lt s i
  have := by_lt s (i + 1)
  unfold unitL
  split <;> omega
theorem unitB_in (s : ByteArray) (i : Nat) : -1 ≤ unitB s i ∧ unitB s i ≤ 65535 := by
  have := by_lt s i
  have := by_lt s (i + 1)
  unfold unitB
  split <;> omega
/-- The scalar at a place and how many bytes it has, by coding. -/
def tkAt (s : ByteArray) (c i : Nat) : Int × Nat := if c = 2 then tk16 (unitL s) i else if c = 3 then tk16 (unitB s) i else if c = 4 then ((byN s i : Int), 1) else tk8 (s.extract i s.size)

/-- A cell of its own, from such a block on. -/
structure Own1 (lo : Nat) (w : World) (b : Nat) (v : Value) : Prop where
  lt : b < w.heap.size
  ge : lo ≤ b
  cell : w.cell? ⟨b, 0, none⟩ = some v
theorem Own1.kept {lo : Nat} {w w' : World} {b : Nat} {v : Value} {S : Nat → Prop} (h : Own1 lo w b v) (t : Touch S w w') (hs : ¬ S b) : Own1 lo w' b v := ⟨Nat.lt_of_lt_of_le h.lt t.size, h.ge, (t.cell (p := ⟨b, 0, none⟩) h.lt hs).trans h.cell⟩
theorem Own1.made {w : World} {v : Value} {t : TypeId} {n lo : Nat} (h : n = w.heap.size) (hl : lo ≤ n) : Own1 lo (w.alloc (.cells #[v] t)) n v := by
  subst h
  exact ⟨by simp, hl, by unfold World.cell?; rw [block_new]; rfl⟩
theorem Own1.alloc {lo : Nat} {w : World} {b : Nat} {v : Value} (h : Own1 lo w b v) (o : Obj) : Own1 lo (w.alloc o) b v := h.kept ((Touch.refl (fun _ => False) w).alloc o) id
theorem Own1.low {lo lo' : Nat} {w : World} {b : Nat} {v : Value} (h : Own1 lo w b v) (hl : lo' ≤ lo) : Own1 lo' w b v := ⟨h.lt, Nat.le_trans hl h.ge, h.cell⟩
theorem run_store_func (P : Program) (w : World) (a : Addr) (m : Mode) (f : Fn) (t c : Array Value) : (store a (.func f t c) m).run P w = stored P w a (.func f t c) m := run_store P w a _ m rfl
attribute [local go_sem] run_store_func
/-- What units hands back. -/
def UnitOk (lo : Nat) (s : ByteArray) (c : Nat) (e : Ending) (w' : World) : Prop := ∃ bd bl bh, e = .returned (.func (.func 90) #[] #[.pointer (some ⟨bd, 0, none⟩), .pointer (some ⟨bl, 0, none⟩), .pointer (some ⟨bh, 0, none⟩)]) ∧ Own1 lo w' bd (.string s) ∧ Own1 lo w' bl (.int .i64 (if c = 3 then 1 else 0)) ∧ Own1 lo w' bh (.int .i64 (if c = 3 then 0 else 1))
set_option maxRecDepth 100000 in
theorem units_two (s : ByteArray) (w : World) : Calls Tryz.prog 62 #[.string s, .int .i64 2] w fun e w' => UnitOk w.heap.size s 2 e w' ∧ Touch (fun _ => False) w w' := by
  go_enter Tryz.func62, Tryz.ntmps62
  go_wp2
  go_ret
  refine ⟨⟨_, _, _, rfl, ?_, ?_, ?_⟩, (((Touch.refl _ w).alloc _).alloc _).alloc _⟩
  · exact ((Own1.made rfl (Nat.le_refl _)).alloc _).alloc _
  · exact (Own1.made (by simp) (by omega)).alloc _
  · exact Own1.made (by simp) (by omega)
set_option maxRecDepth 100000 in
theorem units_three (s : ByteArray) (w : World) : Calls Tryz.prog 62 #[.string s, .int .i64 3] w fun e w' => UnitOk w.heap.size s 3 e w' ∧ Touch (fun _ => False) w w' := by
  go_enter Tryz.func62, Tryz.ntmps62
  go_wp2
  go_ret
  refine ⟨⟨_, _, _, rfl, ?_, ?_, ?_⟩, (((Touch.refl _ w).alloc _).alloc _).alloc _⟩
  · exact ((Own1.made rfl (Nat.le_refl _)).alloc _).alloc _
  · exact (Own1.made (by simp) (by omega)).alloc _
  · exact Own1.made (by simp) (by omega)
set_option maxRecDepth 100000 in
theorem taker_four (s : ByteArray) (w : World) : Calls Tryz.prog 43 #[.string s, .int .i64 4] w fun e w' => ∃ b, e = .returned (.func (.func 65) #[] #[.pointer (some ⟨b, 0, none⟩)]) ∧ Own1 w.heap.size w' b (.string s) ∧ Touch (fun _ => False) w w' := by
  go_enter Tryz.func43, Tryz.ntmps43
  go_wp2
  go_ret
  exact ⟨_, rfl, Own1.made rfl (Nat.le_refl _), (Touch.refl _ w).alloc _⟩
set_option maxRecDepth 100000 in
theorem taker_one (s : ByteArray) (w : World) : Calls Tryz.prog 43 #[.string s, .int .i64 1] w fun e w' => ∃ b, e = .returned (.func (.func 66) #[] #[.pointer (some ⟨b, 0, none⟩)]) ∧ Own1 w.heap.size w' b (.string s) ∧ Touch (fun _ => False) w w' := by
  go_enter Tryz.func43, Tryz.ntmps43
  go_wp2
  go_ret
  exact ⟨_, rfl, Own1.made rfl (Nat.le_refl _), (Touch.refl _ w).alloc _⟩
set_option maxRecDepth 100000 in
theorem taker_pair (s : ByteArray) (c : Int) (n : Nat) (w : World) (hcn : (c = 2 ∧ n = 2) ∨ (c = 3 ∧ n = 3)) (K : ∀ w, Calls Tryz.prog 62 #[.string s, .int .i64 c] w fun e w' => UnitOk w.heap.size s n e w' ∧ Touch (fun _ => False) w w') :
    Calls Tryz.prog 43 #[.string s, .int .i64 c] w fun e w' => ∃ b bd bl bh, e = .returned (.func (.func 63) #[] #[.pointer (some ⟨b, 0, none⟩)]) ∧ Own1 w.heap.size w' b (.func (.func 90) #[] #[.pointer (some ⟨bd, 0, none⟩), .pointer (some ⟨bl, 0, none⟩), .pointer (some ⟨bh, 0, none⟩)]) ∧ Own1 w.heap.size w' bd (.string s) ∧ Own1 w.heap.size w' bl (.int .i64 (if n = 3 then 1 else 0)) ∧ Own1 w.heap.size w' bh (.int .i64 (if n = 3 then 0 else 1)) ∧ Touch (fun _ => False) w w' := by
  rcases hcn with ⟨rfl, rfl⟩ | ⟨rfl, rfl⟩
  all_goals
    have KK := hid K
    clear K
    go_enter Tryz.func43, Tryz.ntmps43
    go_wp2_with fail
    refine (KK.out _).mono ?_
    rintro e w1 ⟨⟨bd, bl, bh, rfl, o1, o2, o3⟩, tc⟩
    have T := hid (((Touch.refl (fun _ => False) w).alloc _).trans tc (fun _ _ e => e))
    have HL := hid (show w.heap.size ≤ w1.heap.size from T.out.size)
    have HA := hid (show w.heap.size ≤ (w.alloc (.cells #[.string s] 9)).heap.size by simp)
    have O1 := hid o1
    have O2 := hid o2
    have O3 := hid o3
    clear tc o1 o2 o3 KK
    go_wp2
    go_ret
    exact ⟨_, rfl, bd, bl, bh, Own1.made rfl HL.out, (O1.out.low HA.out).alloc _, (O2.out.low HA.out).alloc _, (O3.out.low HA.out).alloc _, T.out.alloc _⟩

/-- What a taker answers at each place, whatever is written into an older block. -/
def TakeOk (lo : Nat) (s : ByteArray) (c : Nat) (fid b : Nat) (w : World) : Prop := ∀ q, q < lo → ∀ wq, Touch (fun k => k = q) w wq → TabsK wq → ∀ i : Nat, i < s.size → Calls Tryz.prog fid (#[.int .i64 i] ++ #[.pointer (some ⟨b, 0, none⟩)]) wq fun e w' => e = .returned (.tuple #[.int .i64 (tkAt s c i).1, .int .i64 ((tkAt s c i).2 : Nat)]) ∧ Touch (fun _ => False) wq w'
theorem taker_says (s : ByteArray) (c : Nat) (w : World) (hs : s.size ≤ 140737488351232) (hc : 1 ≤ c ∧ c ≤ 4) :
    Calls Tryz.prog 43 #[.string s, .int .i64 c] w fun e w' => ∃ fid b, (fid = 63 ∨ fid = 65 ∨ fid = 66) ∧ e = .returned (.func (.func fid) #[] #[.pointer (some ⟨b, 0, none⟩)]) ∧ TakeOk w.heap.size s c fid b w' ∧ Touch (fun _ => False) w w' := by
  have out : ∀ {q b : Nat}, q < w.heap.size → w.heap.size ≤ b → ¬ b = q := fun h1 h2 e => by omega
  rcases (show c = 1 ∨ c = 2 ∨ c = 3 ∨ c = 4 by omega) with rfl | rfl | rfl | rfl
  · refine (taker_one s w).mono ?_
    rintro e w' ⟨b, rfl, o, tc⟩
    exact ⟨66, b, .inr (.inr rfl), rfl, fun q hq wq tq ht i hi => take_rest b i s wq ht (o.kept tq (out hq o.ge)).cell hi hs, tc⟩
  · refine (taker_pair s 2 2 w (.inl ⟨rfl, rfl⟩) (units_two s)).mono ?_
    rintro e w' ⟨b, bd, bl, bh, rfl, o, o1, o2, o3, tc⟩
    refine ⟨63, b, .inl rfl, rfl, fun q hq wq tq ht i hi => take_pair (unitL s) b bd bl bh i wq (by omega) (unitL_in s) (o.kept tq (out hq o.ge)).cell (fun wz tz j hj => ?_), tc⟩
    exact units_little bd bl bh j s wz ((o1.kept tq (out hq o1.ge)).kept tz id).cell ((o2.kept tq (out hq o2.ge)).kept tz id).cell ((o3.kept tq (out hq o3.ge)).kept tz id).cell hs hj
  · refine (taker_pair s 3 3 w (.inr ⟨rfl, rfl⟩) (units_three s)).mono ?_
    rintro e w' ⟨b, bd, bl, bh, rfl, o, o1, o2, o3, tc⟩
    refine ⟨63, b, .inl rfl, rfl, fun q hq wq tq ht i hi => take_pair (unitB s) b bd bl bh i wq (by omega) (unitB_in s) (o.kept tq (out hq o.ge)).cell (fun wz tz j hj => ?_), tc⟩
    exact units_big bd bl bh j s wz ((o1.kept tq (out hq o1.ge)).kept tz id).cell ((o2.kept tq (out hq o2.ge)).kept tz id).cell ((o3.kept tq (out hq o3.ge)).kept tz id).cell hs hj
  · refine (taker_four s w).mono ?_
    rintro e w' ⟨b, rfl, o, tc⟩
    exact ⟨65, b, .inr (.inl rfl), rfl, fun q hq wq tq _ i hi => take_latin b i s wq (o.kept tq (out hq o.ge)).cell hi, tc⟩
end Go.Proofs.YtdhhcefmmojcmaaGreatDoor
