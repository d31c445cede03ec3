/- Texts of this proof, one behind the other: what each says stands ahead of it. -/
import Derived.Test.YtjpmjcadnnglnaaDoorM2
import Derived.Test.YtjpmjcadnnglnaaDoorM0
/- A parser of JSON: need, hexDigit, unit; condition: the text has at most 1048576 bytes. -/
namespace Go.Proofs.YtjpmjcadnnglnaaDoor
open Go.RowKit

/-- Where bytes that must be the next ones end, or the place at which they aren't. -/
def needE (s : ByteArray) : Bs → Nat → Except Nat Nat
  | [], t => .ok t
  | c :: cs, t => if lk s t = (c.toNat : Int) then needE s cs (t + 1) else .error t
def NeedR (s : ByteArray) (b d : Nat) (w : World) : Except Nat Nat → Ending → World → Prop
  | .ok u, e, w' => e = .returned (.tuple #[]) ∧ Ps w' b s u d ∧ Touch (fun k => k = b) w w'
  | .error k, e, w' => e = thrown 20 k ∧ Ps w' b s k d ∧ Touch (fun k => k = b) w w'
theorem lk_lt' {s : ByteArray} {t : Nat} {c : UInt8} (h : lk s t = (c.toNat : Int)) : t < s.size := by
  unfold lk at h
  by_cases hl : t < s.size
  · exact hl
  · rw [List.getElem?_eq_none (by rw [size_list]; omega)] at h
    simp only at h
    omega
set_option maxRecDepth 100000 in
set_option maxHeartbeats 4000000 in
theorem need_any (b : Nat) (s p : ByteArray) (t d : Nat) (w : World) (h : Ps w b s t d) (hs : s.size ≤ 1048576) (ht : t ≤ s.size) (hp : p.size ≤ 1000) :
    Calls Tryd.prog 56 #[.pointer (some ⟨b, 0, none⟩), .string p] w fun e w' => NeedR s b d w (needE s p.data.toList t) e w' := by
  obtain ⟨X, hX⟩ : ∃ X, X = needE s p.data.toList t := ⟨_, rfl⟩
  have HX := hid hX.symm
  rw [← hX]
  clear hX
  have HP := hid h
  have TW := hid (Touch.refl (fun k => k = b) w)
  clear h
  go_enter Tryd.func56, Tryd.ntmps56
  go_wp2_with fail
  go_loopg [7] p.size (fun gk v wq => ∃ i : Nat, i + gk = p.size ∧ v = .int .i64 (i : Nat) ∧ Hid (t + i ≤ s.size) ∧ Hid (Ps wq b s (t + i) d) ∧ Hid (needE s (p.data.toList.drop i) (t + i) = X) ∧ Hid (Touch (fun k => k = b) w wq))
  case atStart => exact ⟨0, by omega, rfl, hid ht, HP, HX, TW⟩
  case round =>
    obtain ⟨i, hi, rfl, HT, HK, HD, TK⟩ := hrel
    clear HP TW HX
    by_cases hlt : i < p.size
    · have hl : (i : Int) < (p.size : Int) := by omega
      rw [byte_at p i hlt, needE] at HD
      obtain ⟨c, hc⟩ : ∃ c, c = p[i] := ⟨_, rfl⟩
      rw [← hc] at HD
      have hix : ∀ w, (Instr.index 9 (.string p) (.int .i64 (i : Nat))).run Tryd.prog w = .ok (.int .u8 ((c.toNat : Nat) : Int)) w := fun w => by
        rw [hc]
        simp [go_sem, hl]
      have K := hid (fun w' (hp : Ps w' b s (t + i) d) => take_any b s (t + i) d c.toNat w' hp hs HT.out c.toNat_lt)
      clear hc
      by_cases he : lk s (t + i) = (c.toNat : Int)
      · rw [if_pos he] at HD
        rw [decide_eq_true he, if_pos he] at K
        have HE := hid (lk_lt' he)
        clear he
        go_wp2_with fail
        refine (K.out _ HK.out).mono ?_
        rintro e w1 ⟨rfl, hp, tt⟩
        have H1 := hid hp
        have T1 := hid (TK.out.trans tt (fun _ _ e => e))
        clear hp tt K HK TK
        go_wp2
        go_roundg (gk - 1)
        case measure => omega
        case rel => exact ⟨i + 1, by omega, by go_num, hid (by have := HE.out; omega), H1, HD, T1⟩
      · rw [if_neg he] at HD
        rw [decide_eq_false he, if_neg he] at K
        clear he
        have KW := hid (fun w' (hp : Ps w' b s (t + i) d) => wrong_any b s (t + i) d 20 w' hp)
        unfold thrown at KW
        go_wp2_with fail
        refine (K.out _ HK.out).mono ?_
        rintro e w1 ⟨rfl, hp, tt⟩
        have H1 := hid hp
        have T1 := hid (TK.out.trans tt (fun _ _ e => e))
        clear hp tt K HK TK
        go_wp2_with fail
        refine (KW.out _ H1.out).mono ?_
        rintro e w2 ⟨rfl, tt⟩
        have H2 := hid (H1.out.new tt)
        have T2 := hid (T1.out.trans tt (fun _ _ e => e.elim))
        clear tt KW H1 T1
        go_wp2
        refine ⟨rfl, ?_⟩
        rw [← HD.out]
        exact ⟨rfl, H2.out, T2.out⟩
    · have hl : ¬ (i : Int) < (p.size : Int) := by omega
      have HF := hid (show t + i = t + p.size by omega)
      rw [List.drop_eq_nil_of_le (by rw [size_list]; omega), needE] at HD
      go_wp2
      go_end0
      rw [← HD.out]
      exact ⟨rfl, HK.out, TK.out⟩

/-! ### Four digits -/
def hexV (x : Int) : Int := if 48 ≤ x ∧ x ≤ 57 then x - 48 else if 97 ≤ x ∧ x ≤ 102 then x - 87 else if 65 ≤ x ∧ x ≤ 70 then x - 55 else -1
theorem hexV_in (x : Int) : -1 ≤ hexV x ∧ hexV x ≤ 15 := by
  unfold hexV
  split
  · omega
  · split
    · omega
    · split <;> omega
set_option maxRecDepth 100000 in
set_option maxHeartbeats 4000000 in
theorem hex_any (x : Int) (w : World) (h1 : -1 ≤ x) (h2 : x ≤ 255) : Calls Tryd.prog 72 #[.int .i64 x] w fun e w' => e = .returned (.int .i64 (hexV x)) ∧ w' = w := by
  unfold hexV
  by_cases c1 : 48 ≤ x
  · by_cases c2 : x ≤ 57
    · rw [if_pos ⟨c1, c2⟩]
      go_enter Tryd.func72, Tryd.ntmps72
      go_wp2
      go_ret
      exact ⟨rfl, rfl⟩
    · rw [if_neg (by omega)]
      by_cases c3 : 97 ≤ x
      · by_cases c4 : x ≤ 102
        · rw [if_pos ⟨c3, c4⟩]
          have e : x - 97 + 10 = x - 87 := by omega
          go_enter Tryd.func72, Tryd.ntmps72
          go_wp2
          go_ret
          exact ⟨by first | rfl | rw [← e], rfl⟩
        · rw [if_neg (by omega)]
          have c5 : 65 ≤ x := by omega
          have c6 : ¬ x ≤ 70 := by omega
          rw [if_neg (by omega)]
          go_enter Tryd.func72, Tryd.ntmps72
          go_wp2
          go_ret
          exact ⟨rfl, rfl⟩
      · rw [if_neg (by omega)]
        by_cases c5 : 65 ≤ x
        · by_cases c6 : x ≤ 70
          · rw [if_pos ⟨c5, c6⟩]
            have e : x - 65 + 10 = x - 55 := by omega
            go_enter Tryd.func72, Tryd.ntmps72
            go_wp2
            go_ret
            exact ⟨by first | rfl | rw [← e], rfl⟩
          · rw [if_neg (by omega)]
            go_enter Tryd.func72, Tryd.ntmps72
            go_wp2
            go_ret
            exact ⟨rfl, rfl⟩
        · rw [if_neg (by omega)]
          go_enter Tryd.func72, Tryd.ntmps72
          go_wp2
          go_ret
          exact ⟨rfl, rfl⟩
  · have c3 : ¬ 97 ≤ x := by omega
    have c5 : ¬ 65 ≤ x := by omega
    rw [if_neg (by omega), if_neg (by omega), if_neg (by omega)]
    go_enter Tryd.func72, Tryd.ntmps72
    go_wp2
    go_ret
    exact ⟨rfl, rfl⟩
end Go.Proofs.YtjpmjcadnnglnaaDoor

/- takeUTF8 of a text that isn't empty; condition: the two tables lie there. -/
namespace Go.Proofs.YtjpmjcadnnglnaaDoor
open Go.RowKit

def tkGo (s : ByteArray) (m : Nat) : Nat → Nat → Nat → Nat → Nat → Int × Nat
  | 0, _, sc, _, _ => ((sc : Int), 1 + m)
  | k + 1, i, sc, lo, hi => if i = s.size ∨ byN s i < lo ∨ hi < byN s i then (-1, i) else tkGo s m k (i + 1) (64 * sc + byN s i % 64) 128 191
def tk8 (s : ByteArray) : Int × Nat := match leadOf (byN s 0) with
  | none => (-1, 1)
  | some l => tkGo s l.more l.more 1 (byN s 0 % 2 ^ (7 - l.more)) l.low l.high
theorem lead_in {b : Nat} {l : Lead} (h : leadOf b = some l) : l.first < 256 ∧ l.last < 256 ∧ l.more ≤ 3 ∧ l.low < 256 ∧ l.high < 256 := lead_small l (List.mem_of_find?_eq_some h)

theorem and_mask (n k : Nat) (hn : n < 256) (hk : k ≤ 7) : bits .and .i64 (wrap64 (n : Int)) ((2 ^ k - 1 : Nat) : Int) = ((n % 2 ^ k : Nat) : Int) := by
  have hp : 2 ^ k ≤ 2 ^ 7 := Nat.pow_le_pow_right (by decide) hk
  rw [IntWalk.wrap64_in _ (by omega), (bits_nat .i64 62 (by decide) wraps_i64 n (2 ^ k - 1) (by omega) (by omega)).1, Nat.and_two_pow_sub_one_eq_mod]
theorem next_six (sc n : Nat) (hs : sc < 524288) : bits .or .i64 ((sc : Int) * 64) ((n : Int) % 64) = ((64 * sc + n % 64 : Nat) : Int) := by
  rw [show (sc : Int) * 64 = ((2 ^ 6 * sc : Nat) : Int) by omega, show (n : Int) % 64 = ((n % 64 : Nat) : Int) by omega, or_high (n % 64) sc 6 (by omega) (by omega)]

set_option maxRecDepth 100000 in
set_option maxHeartbeats 8000000 in
theorem take8_any (s : ByteArray) (hs : 0 < s.size) (hb : s.size ≤ 140737488351232) (w : World) (ht : Tabs w) :
    Calls Tryd.prog 43 #[.string s] w fun e w' => e = .returned (.tuple #[.int .i64 (tk8 s).1, .int .i64 ((tk8 s).2 : Nat)]) ∧ Touch (fun _ => False) w w' := by
  have K := hid (leadOf_any (byN s 0) w ht)
  have HB := hid (by_get s 0 hs)
  have hsI : (0 : Int) < (s.size : Int) := by omega
  obtain ⟨R, hR⟩ : ∃ R, tk8 s = R := ⟨_, rfl⟩
  have HR := hid hR
  rw [hR]
  clear hR ht
  cases hl : leadOf (byN s 0) with
  | none =>
    rw [leadR_none hl, ← HB.out] at K
    have HRN := hid (show R = (-1, 1) by rw [← HR.out]; unfold tk8; rw [hl])
    clear hl
    go_enter Tryd.func43, Tryd.ntmps43
    go_wp2_with fail
    refine K.out.mono ?_
    rintro e w1 ⟨rfl, tc⟩
    have T := hid tc
    clear tc K
    go_wp2
    go_ret2
    exact ⟨by rw [HRN.out]; rfl, T.out.alloc _⟩
  | some l =>
    rw [leadR_some hl, ← HB.out] at K
    have hsm := lead_in hl
    have HRS := hid (show tkGo s l.more l.more 1 (byN s 0 % 2 ^ (7 - l.more)) l.low l.high = R by rw [← HR.out]; unfold tk8; rw [hl])
    clear hl HR
    obtain ⟨x, y, m, lo, hi⟩ := l
    unfold leadV at K
    dsimp only at K hsm HRS
    go_enter Tryd.func43, Tryd.ntmps43
    go_wp2_with fail
    refine K.out.mono ?_
    rintro e w1 ⟨rfl, tc⟩
    have T := hid (tc.alloc (.cells #[.int .u8 x, .int .u8 y, .int .i64 m, .int .u8 lo, .int .u8 hi] 103))
    have B := hid (block_new w1 #[.int .u8 x, .int .u8 y, .int .i64 m, .int .u8 lo, .int .u8 hi] 103)
    clear tc K
    go_upto_region 4 with fail
    generalize (w1.alloc (.cells #[.int .u8 x, .int .u8 y, .int .i64 m, .int .u8 lo, .int .u8 hi] 103)) = wA at *
    obtain ⟨g, hg⟩ : ∃ g, g = w1.heap.size := ⟨_, rfl⟩
    rw [← hg] at B ⊢
    clear hg
    have c2 : wA.cell? ⟨g, 2, none⟩ = some (.int .i64 m) := by simp [World.cell?, B.out]
    have c3 : wA.cell? ⟨g, 3, none⟩ = some (.int .u8 lo) := by simp [World.cell?, B.out]
    have c4 : wA.cell? ⟨g, 4, none⟩ = some (.int .u8 hi) := by simp [World.cell?, B.out]
    go_cut [6] (fun v wd => v = .int .i64 ((byN s 0 % 2 ^ (7 - m) : Nat) : Int) ∧ ∃ n, wd = wA.drewN n)
    case first =>
      rcases (show m = 0 ∨ m = 1 ∨ m = 2 ∨ m = 3 by omega) with rfl | rfl | rfl | rfl
      · have HM := hid (and_mask (byN s 0) 7 (by_lt s 0) (by decide))
        go_quiet (fail)
        go_wp2
        go_meet
        case rel => exact ⟨by rw [HB.out]; exact congrArg _ HM.out, _, rfl⟩
      · have HM := hid (and_mask (byN s 0) 6 (by_lt s 0) (by decide))
        go_quiet (fail)
        go_wp2
        go_meet
        case rel => exact ⟨by rw [HB.out]; exact congrArg _ HM.out, _, rfl⟩
      · have HM := hid (and_mask (byN s 0) 5 (by_lt s 0) (by decide))
        go_quiet (fail)
        go_wp2
        go_meet
        case rel => exact ⟨by rw [HB.out]; exact congrArg _ HM.out, _, rfl⟩
      · have HM := hid (and_mask (byN s 0) 4 (by_lt s 0) (by decide))
        go_quiet (fail)
        go_wp2
        go_meet
        case rel => exact ⟨by rw [HB.out]; exact congrArg _ HM.out, _, rfl⟩
    obtain ⟨rfl, n1, rfl⟩ := hcut
    have hsc : byN s 0 % 2 ^ (7 - m) < 128 := by
      have h1 : 0 < 2 ^ (7 - m) := Nat.two_pow_pos _
      have h2 : 2 ^ (7 - m) ≤ 2 ^ 7 := Nat.pow_le_pow_right (by decide) (by omega)
      have := Nat.mod_lt (byN s 0) h1
      omega
    generalize byN s 0 % 2 ^ (7 - m) = sc0 at *
    replace T := hid (T.out.drewN n1)
    replace B := hid (show (wA.drewN n1).heap[g]? = _ from B.out)
    have e2 : (wA.drewN n1).cell? ⟨g, 2, none⟩ = some (.int .i64 m) := c2
    have e3 : (wA.drewN n1).cell? ⟨g, 3, none⟩ = some (.int .u8 lo) := c3
    have e4 : (wA.drewN n1).cell? ⟨g, 4, none⟩ = some (.int .u8 hi) := c4
    clear c2 c3 c4 HB
    generalize wA.drewN n1 = wB at *
    go_wp2_with fail
    go_quiet (fail)
    replace T := hid (T.out.drewN nq)
    replace B := hid (show (wB.drewN nq).heap[g]? = _ from B.out)
    have d2 : (wB.drewN nq).cell? ⟨g, 2, none⟩ = some (.int .i64 m) := e2
    clear e2 e3 e4
    generalize wB.drewN nq = wC at *
    go_wp2_with fail
    go_loopg [6, 7, 8, 9] m (fun gk v6 v7 v8 v9 wq => ∃ i sc l h : Nat, i + gk = m + 1 ∧ 1 ≤ i ∧ v6 = .int .i64 (sc : Nat) ∧ v7 = .int .u8 (l : Nat) ∧ v8 = .int .u8 (h : Nat) ∧ v9 = .int .i64 (i : Nat) ∧ i ≤ s.size ∧ l < 256 ∧ h < 256 ∧ ((i = 1 → sc < 128) ∧ (i = 2 → sc < 8192) ∧ (i = 3 → sc < 524288)) ∧ tkGo s m gk i sc l h = R ∧ wC = wq)
    case atStart => exact ⟨1, sc0, lo, hi, by omega, Nat.le_refl _, rfl, rfl, rfl, rfl, by omega, by omega, by omega, ⟨fun _ => hsc, by omega, by omega⟩, HRS.out, rfl⟩
    case round =>
      obtain ⟨i, sc, l, h, hk, h1, rfl, rfl, rfl, rfl, hin, hl, hh, hb3, htk, rfl⟩ := hrel
      have HK := hid htk
      clear htk HRS
      by_cases hlt : i ≤ m
      · obtain ⟨gk, rfl⟩ : ∃ q, gk = q + 1 := ⟨gk - 1, by omega⟩
        have HST := hid (show (if i = s.size ∨ byN s i < l ∨ h < byN s i then ((-1 : Int), i) else tkGo s m gk (i + 1) (64 * sc + byN s i % 64) 128 191) = R from HK.out)
        have hltI : (i : Int) ≤ (m : Int) := by omega
        clear HK
        by_cases hend : i = s.size
        · have HRE := hid (show R = (-1, i) by rw [← HST.out, if_pos (.inl hend)])
          have hd : decide ((i : Int) = (s.size : Int)) = true := decide_eq_true (by omega)
          clear HST
          go_wp2
          go_ret2
          exact ⟨by rw [HRE.out]; rfl, T.out⟩
        · have hd : decide ((i : Int) = (s.size : Int)) = false := decide_eq_false (by omega)
          have hd2 : ((i : Int) == (s.size : Int)) = false := by rw [beq_eq_false_iff_ne]; omega
          have hii : i < s.size := by omega
          have hiI : (i : Int) < (s.size : Int) := by omega
          have hbi := by_get s i hii
          have HBI := hid hbi
          have hbl := by_lt s i
          by_cases hlo : byN s i < l
          · have HRE := hid (show R = (-1, i) by rw [← HST.out, if_pos (.inr (.inl hlo))])
            have k1 : (s[i].toNat : Int) < (l : Int) := by rw [hbi]; omega
            clear HST hbi
            go_wp2
            go_ret2
            exact ⟨by rw [HRE.out]; rfl, T.out⟩
          · have k1 : (l : Int) ≤ (s[i].toNat : Int) := by rw [hbi]; omega
            by_cases hhi : h < byN s i
            · have HRE := hid (show R = (-1, i) by rw [← HST.out, if_pos (.inr (.inr hhi))])
              have k2 : (h : Int) < (s[i].toNat : Int) := by rw [hbi]; omega
              clear HST hbi
              go_wp2
              go_ret2
              exact ⟨by rw [HRE.out]; rfl, T.out⟩
            · have k2 : (s[i].toNat : Int) ≤ (h : Int) := by rw [hbi]; omega
              have HRE := hid (show tkGo s m gk (i + 1) (64 * sc + byN s i % 64) 128 191 = R by rw [← HST.out, if_neg (by omega)])
              have HNX := hid (next_six sc (byN s i) (by omega))
              clear HST hbi
              go_wp2
              go_roundg gk
              case measure => omega
              case rel => exact ⟨i + 1, 64 * sc + byN s i % 64, 128, 191, by omega, by omega, by rw [HBI.out, HNX.out], rfl, rfl, by go_num, by omega, by omega, by omega, ⟨by omega, by omega, by omega⟩, HRE.out, rfl⟩
      · obtain rfl : gk = 0 := by omega
        have HRE := hid (show R = ((sc : Int), 1 + m) from HK.out.symm)
        have hltI : ¬ ((i : Int) ≤ (m : Int)) := by omega
        have z0 : IntKind.i64.wrap (1 + (m : Int)) = 1 + (m : Int) := by rw [IntKind.wrap_i64]; omega
        go_wp2_with fail
        go_quiet (fail)
        go_wp2
        go_ret2
        exact ⟨by rw [HRE.out]; rfl, T.out.drewN _⟩
end Go.Proofs.YtjpmjcadnnglnaaDoor

/- A parser of JSON: unit: four digits; condition: the text has at most 1048576 bytes. -/
namespace Go.Proofs.YtjpmjcadnnglnaaDoor
open Go.RowKit

def unF (s : ByteArray) : Nat → Nat → Nat → Except Nat (Nat × Nat)
  | 0, t, n => .ok (n, t)
  | k + 1, t, n => if hexV (lk s t) < 0 then .error t else unF s k (t + 1) (16 * n + (hexV (lk s t)).toNat)
/-- Four digits: what they tell, and where they end. -/
def unitE (s : ByteArray) (t : Nat) : Except Nat (Nat × Nat) := unF s 4 t 0
def UnitR (s : ByteArray) (b d : Nat) (w : World) : Except Nat (Nat × Nat) → Ending → World → Prop
  | .ok (n, u), e, w' => e = .returned (.int .i64 (n : Nat)) ∧ Ps w' b s u d ∧ Touch (fun k => k = b) w w'
  | .error k, e, w' => e = thrown 20 k ∧ Ps w' b s k d ∧ Touch (fun k => k = b) w w'
theorem lk_in (s : ByteArray) (t : Nat) : -1 ≤ lk s t ∧ lk s t ≤ 255 := by
  unfold lk
  split
  · rename_i c _
    have := c.toNat_lt
    omega
  · omega
theorem hexV_lt {s : ByteArray} {t : Nat} (h : ¬ hexV (lk s t) < 0) : t < s.size := by
  by_cases hl : t < s.size
  · exact hl
  · exfalso
    apply h
    have : lk s t = -1 := by unfold lk; rw [List.getElem?_eq_none (by rw [size_list]; omega)]
    rw [this]
    decide
theorem pow16 : ∀ i : Nat, i < 4 → 16 ^ i ≤ 4096 := by decide
set_option maxRecDepth 100000 in
set_option maxHeartbeats 4000000 in
theorem junit_any (b : Nat) (s : ByteArray) (t d : Nat) (w : World) (h : Ps w b s t d) (hs : s.size ≤ 1048576) (ht : t ≤ s.size) :
    Calls Tryd.prog 69 #[.pointer (some ⟨b, 0, none⟩)] w fun e w' => UnitR s b d w (unitE s t) e w' := by
  obtain ⟨X, hX⟩ : ∃ X, X = unitE s t := ⟨_, rfl⟩
  have HX := hid hX.symm
  rw [← hX]
  clear hX
  unfold unitE at HX
  have HP := hid h
  have TW := hid (Touch.refl (fun k => k = b) w)
  clear h
  go_enter Tryd.func69, Tryd.ntmps69
  go_wp2_with fail
  go_loopg [3, 5] 4 (fun gk v3 v5 wq => ∃ i n : Nat, i + gk = 4 ∧ v5 = .int .i64 (i : Nat) ∧ v3 = .int .i64 (n : Nat) ∧ n < 16 ^ i ∧ Hid (t + i ≤ s.size) ∧ Hid (Ps wq b s (t + i) d) ∧ Hid (unF s gk (t + i) n = X) ∧ Hid (Touch (fun k => k = b) w wq))
  case atStart => exact ⟨0, 0, by omega, rfl, rfl, by decide, hid ht, HP, HX, TW⟩
  case round =>
    obtain ⟨i, n, hi, rfl, rfl, hn, HT, HK, HD, TK⟩ := hrel
    clear HP TW HX
    by_cases hlt : i < 4
    · have hl : (i : Int) < 4 := by omega
      have hn2 : n < 4096 := Nat.lt_of_lt_of_le hn (pow16 i hlt)
      obtain ⟨g, rfl⟩ : ∃ g, gk = g + 1 := ⟨gk - 1, by omega⟩
      rw [unF] at HD
      have K := hid (fun w' (hp : Ps w' b s (t + i) d) => look_any b s (t + i) d w' hp hs HT.out)
      have KX := hid (fun w' => hex_any (lk s (t + i)) w' (lk_in s _).1 (lk_in s _).2)
      have HV := hid (hexV_in (lk s (t + i)))
      by_cases he : hexV (lk s (t + i)) < 0
      · rw [if_pos he] at HD
        have KW := hid (fun w' (hp : Ps w' b s (t + i) d) => wrong_any b s (t + i) d 20 w' hp)
        unfold thrown at KW
        generalize lk s (t + i) = x at *
        generalize hexV x = y at *
        go_wp2_with fail
        refine (K.out _ HK.out).mono ?_
        rintro e w1 ⟨rfl, tt⟩
        have H1 := hid (HK.out.new tt)
        have T1 := hid (TK.out.trans tt (fun _ _ e => e.elim))
        clear tt K HK TK
        go_wp2_with fail
        refine (KX.out _).mono ?_
        rintro e w1 ⟨rfl, rfl⟩
        clear KX
        go_wp2_with fail
        refine (KW.out _ H1.out).mono ?_
        rintro e w2 ⟨rfl, tt⟩
        have H2 := hid (H1.out.new tt)
        have T2 := hid (T1.out.trans tt (fun _ _ e => e.elim))
        clear tt KW H1 T1
        go_wp2
        refine ⟨rfl, ?_⟩
        rw [← HD.out]
        exact ⟨rfl, H2.out, T2.out⟩
      · rw [if_neg he] at HD
        have HE := hid (hexV_lt he)
        generalize lk s (t + i) = x at *
        obtain ⟨m, hm⟩ : ∃ m : Nat, hexV x = (m : Int) := ⟨(hexV x).toNat, by omega⟩
        rw [hm] at HV HD KX
        have hm15 : m ≤ 15 := by have := HV.out; omega
        rw [Int.toNat_natCast] at HD
        have hor : bits .or .i64 ((n : Int) * 16) (m : Int) = ((16 * n + m : Nat) : Int) := by
          rw [show (n : Int) * 16 = ((2 ^ 4 * n : Nat) : Int) by omega, or_high m n 4 (by omega) (by omega)]
        have hm0 : ¬ (m : Int) < 0 := by omega
        clear he hm
        go_wp2_with fail
        refine (K.out _ HK.out).mono ?_
        rintro e w1 ⟨rfl, tt⟩
        have H1 := hid (HK.out.new tt)
        have T1 := hid (TK.out.trans tt (fun _ _ e => e.elim))
        clear tt K HK TK
        go_wp2_with fail
        refine (KX.out _).mono ?_
        rintro e w1 ⟨rfl, rfl⟩
        clear KX
        have c1 := H1.out.c1
        have f1 := H1.out.fr (i := 1)
        go_wp2
        have e1 : ((t + (i + 1) : Nat) : Int) = (t : Int) + (i : Int) + 1 := by omega
        have H3 := hid (H1.out.set (t + (i + 1)))
        rw [e1] at H3
        have T3 := hid (Touch.setCell (S := fun k => k = b) T1.out (p := ⟨b, 1, none⟩) (fun _ => rfl) (.int .i64 ((t : Int) + (i : Int) + 1)))
        go_roundg g
        case measure => omega
        case rel => exact ⟨i + 1, 16 * n + m, by omega, by go_num, by go_num, by rw [Nat.pow_succ]; omega, hid (by have := HE.out; omega), H3, HD, T3⟩
    · have hl : ¬ (i : Int) < 4 := by omega
      obtain rfl : gk = 0 := by omega
      rw [unF] at HD
      go_wp2
      go_ret
      rw [← HD.out]
      exact ⟨rfl, HK.out, TK.out⟩
end Go.Proofs.YtjpmjcadnnglnaaDoor

/- A parser of JSON: a value that begins as a number does, with no blanks around it; condition: the text has at most 1048576 bytes. -/
namespace Go.Proofs.YtjpmjcadnnglnaaDoor
open Go.RowKit

def noBlank (x : Int) : Prop := x ≠ 32 ∧ x ≠ 9 ∧ x ≠ 10 ∧ x ≠ 13
theorem take_no (b : Nat) (s : ByteArray) (t d c : Nat) (w : World) (h : Ps w b s t d) (hs : s.size ≤ 1048576) (ht : t ≤ s.size) (hc : c < 256) (hn : lk s t ≠ (c : Int)) :
    Calls Tryd.prog 55 #[.pointer (some ⟨b, 0, none⟩), .int .u8 (c : Nat)] w fun e w' => e = .returned (.bool false) ∧ Ps w' b s t d ∧ Touch (fun k => k = b) w w' := by
  have k := take_any b s t d c w h hs ht hc
  rw [if_neg hn, decide_eq_false hn] at k
  exact k
set_option maxRecDepth 100000 in
set_option maxHeartbeats 4000000 in
theorem blanks_none (b : Nat) (s : ByteArray) (t d : Nat) (w : World) (h : Ps w b s t d) (hs : s.size ≤ 1048576) (ht : t ≤ s.size) (hn : noBlank (lk s t)) :
    Calls Tryd.prog 44 #[.pointer (some ⟨b, 0, none⟩)] w fun e w' => e = .returned (.tuple #[]) ∧ Ps w' b s t d ∧ Touch (fun k => k = b) w w' := by
  obtain ⟨n1, n2, n3, n4⟩ := hn
  have K := hid (fun (c : Nat) (hc : c < 256) (hx : lk s t ≠ (c : Int)) (w : World) (h : Ps w b s t d) => take_no b s t d c w h hs ht hc hx)
  have HP := hid h
  have TW := hid (Touch.refl (fun k => k = b) w)
  clear h
  go_enter Tryd.func44, Tryd.ntmps44
  go_wp2_with fail
  go_loopg [] 0 (fun _ wq => Hid (Ps wq b s t d) ∧ Hid (Touch (fun k => k = b) w wq))
  case atStart => exact ⟨HP, TW⟩
  case round =>
    obtain ⟨HK, TK⟩ := hrel
    clear HP TW
    go_wp2_with fail
    refine (K.out 32 (by decide) n1 _ HK.out).mono ?_
    rintro e w1 ⟨rfl, hp, tt⟩
    replace HK := hid hp
    replace TK := hid (TK.out.trans tt (fun _ _ e => e))
    clear hp tt
    go_wp2_with fail
    refine (K.out 9 (by decide) n2 _ HK.out).mono ?_
    rintro e w2 ⟨rfl, hp, tt⟩
    replace HK := hid hp
    replace TK := hid (TK.out.trans tt (fun _ _ e => e))
    clear hp tt
    go_wp2_with fail
    refine (K.out 10 (by decide) n3 _ HK.out).mono ?_
    rintro e w3 ⟨rfl, hp, tt⟩
    replace HK := hid hp
    replace TK := hid (TK.out.trans tt (fun _ _ e => e))
    clear hp tt
    go_wp2_with fail
    refine (K.out 13 (by decide) n4 _ HK.out).mono ?_
    rintro e w4 ⟨rfl, hp, tt⟩
    replace HK := hid hp
    replace TK := hid (TK.out.trans tt (fun _ _ e => e))
    clear hp tt
    go_wp2
    go_end0
    exact ⟨rfl, HK.out, TK.out⟩

/-- A value in memory: a struct of four cells. -/
theorem jfour_new {w : World} (a b c d : Value) (t : TypeId) : (w.alloc (.cells #[a, b, c, d] t)).heap[w.heap.size]? = some (.cells #[a, b, c, d] t (0, 0)) := by
  show (w.heap.push _)[_]? = _
  simp
theorem jfour_set {w : World} {q : Nat} {a b c d : Value} {ty : TypeId} (h : w.heap[q]? = some (.cells #[a, b, c, d] ty (0, 0))) (x y z u : Value) : ((((w.setCell ⟨q, 0, none⟩ x).setCell ⟨q, 1, none⟩ y).setCell ⟨q, 2, none⟩ z).setCell ⟨q, 3, none⟩ u).heap[q]? = some (.cells #[x, y, z, u] ty (0, 0)) :=
  block_set (block_set (block_set (block_set h 0 x) 1 y) 2 z) 3 u
theorem jfour_touch {S : Nat → Prop} {w w' : World} {q : Nat} (T : Touch S w w') (hq : w.heap.size ≤ q) (x y z u : Value) : Touch S w ((((w'.setCell ⟨q, 0, none⟩ x).setCell ⟨q, 1, none⟩ y).setCell ⟨q, 2, none⟩ z).setCell ⟨q, 3, none⟩ u) :=
  (((T.setCell (p := ⟨q, 0, none⟩) (fun h => absurd h (Nat.not_lt.2 hq)) x).setCell (p := ⟨q, 1, none⟩) (fun h => absurd h (Nat.not_lt.2 hq)) y).setCell (p := ⟨q, 2, none⟩) (fun h => absurd h (Nat.not_lt.2 hq)) z).setCell (p := ⟨q, 3, none⟩) (fun h => absurd h (Nat.not_lt.2 hq)) u
theorem Ps.four {w : World} {b q : Nat} {s : ByteArray} {t d : Nat} (h : Ps w b s t d) (hne : b ≠ q) (x y z u : Value) : Ps ((((w.setCell ⟨q, 0, none⟩ x).setCell ⟨q, 1, none⟩ y).setCell ⟨q, 2, none⟩ z).setCell ⟨q, 3, none⟩ u) b s t d := by
  unfold Ps
  rw [Below.heap_setCell _ _ _ _ hne, Below.heap_setCell _ _ _ _ hne, Below.heap_setCell _ _ _ _ hne, Below.heap_setCell _ _ _ _ hne]
  exact h
def noSign (x : Int) : Prop := x ≠ 110 ∧ x ≠ 102 ∧ x ≠ 116 ∧ x ≠ 34 ∧ x ≠ 91 ∧ x ≠ 123
def numV (s : ByteArray) (t u : Nat) : Value := .agg #[.int .i64 3, .string (s.extract t u), .slice none 0 0, .slice none 0 0]
/-- What is answered of a number. -/
def ValR (s : ByteArray) (b t d : Nat) (w : World) : Except Nat Nat → Ending → World → Prop
  | .ok u, e, w' => e = .returned (numV s t u) ∧ Ps w' b s u d ∧ Touch (fun k => k = b) w w'
  | .error k, e, w' => e = thrown 20 k ∧ Ps w' b s k d ∧ Touch (fun k => k = b) w w'
set_option maxRecDepth 100000 in
set_option maxHeartbeats 4000000 in
theorem bare_num (b : Nat) (s : ByteArray) (t d : Nat) (w : World) (h : Ps w b s t d) (hs : s.size ≤ 1048576) (ht : t ≤ s.size) (hn : noSign (lk s t)) :
    Calls Tryd.prog 45 #[.pointer (some ⟨b, 0, none⟩)] w fun e w' => ValR s b t d w (numE s t) e w' := by
  obtain ⟨n1, n2, n3, n4, n5, n6⟩ := hn
  have T0 := hid ((Touch.refl (fun _ => False) w).alloc (.cells #[.int .i64 0, .string ⟨#[]⟩, .slice none 0 0, .slice none 0 0] 36))
  have H0 := hid (h.new T0.out)
  have B0 := hid (jfour_new (w := w) (.int .i64 0) (.string ⟨#[]⟩) (.slice none 0 0) (.slice none 0 0) 36)
  have HBW := hid h.lt
  have KL := hid (look_any b s t d _ H0.out hs ht)
  have KN := hid (fun w' (hp : Ps w' b s t d) => number_any b s t d w' hp hs ht)
  clear h
  generalize lk s t = x at *
  have b1 : (x == 110) = false := beq_eq_false_iff_ne.2 n1
  have b2 : (x == 102) = false := beq_eq_false_iff_ne.2 n2
  have b3 : (x == 116) = false := beq_eq_false_iff_ne.2 n3
  have b4 : (x == 34) = false := beq_eq_false_iff_ne.2 n4
  have b5 : (x == 91) = false := beq_eq_false_iff_ne.2 n5
  have b6 : (x == 123) = false := beq_eq_false_iff_ne.2 n6
  go_enter Tryd.func45, Tryd.ntmps45
  go_wp2_with fail
  refine KL.out.mono ?_
  rintro e w1 ⟨rfl, t1⟩
  have H1 := hid (H0.out.new t1)
  have T1 := hid (T0.out.trans t1 (fun _ _ e => e))
  have B1 := hid ((t1.block w.heap.size (lt_of_block B0.out) id).trans B0.out)
  clear t1 KL H0 B0 T0
  obtain ⟨q, hq⟩ : ∃ q, q = w.heap.size := ⟨_, rfl⟩
  rw [← hq] at B1 ⊢
  have HQ := hid (show w.heap.size ≤ q ∧ b < q from ⟨by omega, by have := HBW.out; omega⟩)
  clear hq HBW
  have KN1 := hid (KN.out w1 H1.out)
  clear KN
  cases hX : numE s t with
  | error k =>
    rw [hX] at KN1
    unfold NumR thrown at KN1
    have HX := hid hX
    clear hX
    go_wp2_with fail
    refine KN1.out.mono ?_
    rintro e w2 ⟨rfl, hp, tt⟩
    have HE := hid hp
    have TE := hid (Touch.trans (S := fun k => k = b) (T1.out.mono (fun _ _ e => e.elim)) tt (fun _ _ e => e))
    clear hp tt KN1
    go_wp2
    refine ⟨rfl, ?_⟩
    rw [HX.out]
    exact ⟨rfl, HE.out, TE.out⟩
  | ok u =>
    rw [hX] at KN1
    unfold NumR at KN1
    have HX := hid hX
    clear hX
    go_wp2_with fail
    refine KN1.out.mono ?_
    rintro e w2 ⟨rfl, hp, tt⟩
    have HE := hid hp
    have TE := hid (Touch.trans (S := fun k => k = b) (T1.out.mono (fun _ _ e => e.elim)) tt (fun _ _ e => e))
    have B2 := hid ((tt.block q (lt_of_block B1.out) (fun e => by have := HQ.out; omega)).trans B1.out)
    clear hp tt KN1 B1 T1 H1
    have b2' := B2.out
    have k0 : w2.cell? ⟨q, 0, none⟩ = some (.int .i64 0) := by simp [World.cell?, b2']
    have k1 : w2.cell? ⟨q, 1, none⟩ = some (.string ⟨#[]⟩) := by simp [World.cell?, b2']
    have k2 : w2.cell? ⟨q, 2, none⟩ = some (.slice none 0 0) := by simp [World.cell?, b2']
    have k3 : w2.cell? ⟨q, 3, none⟩ = some (.slice none 0 0) := by simp [World.cell?, b2']
    have f0 : w2.frozen? ⟨q, 0, none⟩ = false := by simp [World.frozen?, b2']
    have f1 : w2.frozen? ⟨q, 1, none⟩ = false := by simp [World.frozen?, b2']
    have f2 : w2.frozen? ⟨q, 2, none⟩ = false := by simp [World.frozen?, b2']
    have f3 : w2.frozen? ⟨q, 3, none⟩ = false := by simp [World.frozen?, b2']
    clear b2'
    go_wp2
    refine bodyPost_ret (results_c rfl _ _ q 36 _ (0, 0) _ rfl (jfour_set B2.out _ _ _ _) Tryd.underlying36 rfl (by kernel_rfl)) rfl ?_
    rw [HX.out]
    exact ⟨rfl, HE.out.four (by have := HQ.out; omega) _ _ _ _, jfour_touch TE.out HQ.out.1 _ _ _ _⟩
end Go.Proofs.YtjpmjcadnnglnaaDoor

/- A parser of JSON: value, of a text in which no blank stands and none of the other values' first bytes; condition: the text has at most 1048576 bytes. -/
namespace Go.Proofs.YtjpmjcadnnglnaaDoor
open Go.RowKit

theorem part1_le {s : ByteArray} {t u : Nat} (ht : t ≤ s.size) (h : part1 s t = .ok u) : u ≤ s.size := by
  have h1 := stp_le s t 45 ht
  unfold part1 at h
  split at h
  · rename_i e
    have := lk_lt (c := 48) e
    cases h
    omega
  · unfold dgE at h
    split at h
    · cases h
    · have := dgn_at s (stp s t 45) h1.2
      cases h
      exact this
theorem dgE_le {s : ByteArray} {t u : Nat} (ht : t ≤ s.size) (h : dgE s t = .ok u) : u ≤ s.size := by
  unfold dgE at h
  split at h
  · cases h
  · have := dgn_at s t ht
    cases h
    exact this
theorem part2_le {s : ByteArray} {t u : Nat} (ht : t ≤ s.size) (h : part2 s t = .ok u) : u ≤ s.size := by
  unfold part2 at h
  split at h
  · rename_i e
    have := lk_lt (c := 46) e
    exact dgE_le (by omega) h
  · cases h
    exact ht
theorem sgn_le {s : ByteArray} {t : Nat} (ht : t ≤ s.size) : sgn s t ≤ s.size := by
  unfold sgn
  split
  · rename_i e
    have := lk_lt (c := 43) e
    omega
  · exact (stp_le s t 45 ht).2
theorem part3_le {s : ByteArray} {t u : Nat} (ht : t ≤ s.size) (h : part3 s t = .ok u) : u ≤ s.size := by
  unfold part3 at h
  split at h
  · rename_i e
    have := lk_lt (c := 101) e
    exact dgE_le (sgn_le (by omega)) h
  · split at h
    · rename_i e
      have := lk_lt (c := 69) e
      exact dgE_le (sgn_le (by omega)) h
    · cases h
      exact ht
theorem num_le {s : ByteArray} {t u : Nat} (ht : t ≤ s.size) (h : numE s t = .ok u) : u ≤ s.size := by
  unfold numE at h
  split at h
  · cases h
  · rename_i h1
    split at h
    · cases h
    · rename_i h2
      exact part3_le (part2_le (part1_le ht h1) h2) h
set_option maxRecDepth 100000 in
set_option maxHeartbeats 4000000 in
theorem value_num (b : Nat) (s : ByteArray) (t d : Nat) (w : World) (h : Ps w b s t d) (hs : s.size ≤ 1048576) (ht : t ≤ s.size) (hn : ∀ k, noBlank (lk s k) ∧ noSign (lk s k)) :
    Calls Tryd.prog 24 #[.pointer (some ⟨b, 0, none⟩)] w fun e w' => ValR s b t d w (numE s t) e w' := by
  have T0 := hid ((Touch.refl (fun _ => False) w).alloc (.cells #[.int .i64 0, .string ⟨#[]⟩, .slice none 0 0, .slice none 0 0] 36))
  have H0 := hid (h.new T0.out)
  have B0 := hid (jfour_new (w := w) (.int .i64 0) (.string ⟨#[]⟩) (.slice none 0 0) (.slice none 0 0) 36)
  have HBW := hid h.lt
  have KB := hid (fun w' k (hp : Ps w' b s k d) (hk : k ≤ s.size) => blanks_none b s k d w' hp hs hk (hn k).1)
  have KV := hid (fun w' (hp : Ps w' b s t d) => bare_num b s t d w' hp hs ht (hn t).2)
  clear h hn
  go_enter Tryd.func24, Tryd.ntmps24
  go_wp2_with fail
  generalize w.alloc (.cells #[.int .i64 0, .string ⟨#[]⟩, .slice none 0 0, .slice none 0 0] 36) = w0 at *
  obtain ⟨q, hq⟩ : ∃ q, q = w.heap.size := ⟨_, rfl⟩
  rw [← hq] at B0 ⊢
  have HQ := hid (show w.heap.size ≤ q ∧ b < q from ⟨by omega, by have := HBW.out; omega⟩)
  clear hq HBW
  refine (KB.out _ t H0.out ht).mono ?_
  rintro e w1 ⟨rfl, hp, tt⟩
  have H1 := hid hp
  have T1 := hid (Touch.trans (S := fun k => k = b) (T0.out.mono (fun _ _ e => e.elim)) tt (fun _ _ e => e))
  have B1 := hid ((tt.block q (lt_of_block B0.out) (fun e => by have := HQ.out; omega)).trans B0.out)
  clear hp tt H0 T0 B0
  have KV1 := hid (KV.out w1 H1.out)
  clear KV
  cases hX : numE s t with
  | error k =>
    rw [hX] at KV1
    unfold ValR thrown at KV1
    have HX := hid hX
    clear hX
    go_wp2_with fail
    refine KV1.out.mono ?_
    rintro e w2 ⟨rfl, hp, tt⟩
    have HE := hid hp
    have TE := hid (T1.out.trans tt (fun _ _ e => e))
    clear hp tt KV1 KB
    go_wp2
    refine ⟨rfl, ?_⟩
    rw [HX.out]
    exact ⟨rfl, HE.out, TE.out⟩
  | ok u =>
    rw [hX] at KV1
    change Hid (Calls Tryd.prog 45 #[.pointer (some ⟨b, 0, none⟩)] w1 fun e w' => e = .returned (.agg #[.int .i64 3, .string (s.extract t u), .slice none 0 0, .slice none 0 0]) ∧ Ps w' b s u d ∧ Touch (fun k => k = b) w1 w') at KV1
    have hu := num_le ht hX
    obtain ⟨S, hS⟩ : ∃ S, s.extract t u = S := ⟨_, rfl⟩
    rw [hS] at KV1
    have HS := hid hS
    clear hS
    have HX := hid hX
    clear hX
    go_wp2_with fail
    refine KV1.out.mono ?_
    rintro e w2 ⟨rfl, hp, tt⟩
    have H2 := hid hp
    have T2 := hid (T1.out.trans tt (fun _ _ e => e))
    have B2 := hid ((tt.block q (lt_of_block B1.out) (fun e => by have := HQ.out; omega)).trans B1.out)
    clear hp tt KV1 B1 T1 H1
    go_upto_region 3 with fail
    have tA := (Touch.refl (fun _ => False) w2).alloc (.cells #[.int .i64 3, .string S, .slice none 0 0, .slice none 0 0] 36)
    have H3 := hid (H2.out.new tA)
    have T3 := hid (T2.out.trans tA (fun _ _ e => e.elim))
    have B3 := hid ((tA.block q (lt_of_block B2.out) id).trans B2.out)
    have C3 := hid (jfour_new (w := w2) (.int .i64 3) (.string S) (.slice none 0 0) (.slice none 0 0) 36)
    have HQ3 := hid (show b < w2.heap.size ∧ q < w2.heap.size from ⟨H2.out.lt, lt_of_block B2.out⟩)
    clear tA H2 T2 B2
    generalize w2.alloc (.cells #[.int .i64 3, .string S, .slice none 0 0, .slice none 0 0] 36) = w3 at *
    generalize w2.heap.size = q3 at *
    go_wp2_with fail
    refine (KB.out _ u H3.out hu).mono ?_
    rintro e w4 ⟨rfl, hp, tt⟩
    have H4 := hid hp
    have T4 := hid (T3.out.trans tt (fun _ _ e => e))
    have B4 := hid ((tt.block q (lt_of_block B3.out) (fun e => by have := HQ.out; omega)).trans B3.out)
    have C4 := hid ((tt.block q3 (lt_of_block C3.out) (fun e => by have := HQ3.out; omega)).trans C3.out)
    clear hp tt H3 T3 B3 C3 KB
    have b4' := B4.out
    have c4' := C4.out
    have j0 : w4.cell? ⟨q3, 0, none⟩ = some (.int .i64 3) := by simp [World.cell?, c4']
    have j1 : w4.cell? ⟨q3, 1, none⟩ = some (.string S) := by simp [World.cell?, c4']
    have j2 : w4.cell? ⟨q3, 2, none⟩ = some (.slice none 0 0) := by simp [World.cell?, c4']
    have j3 : w4.cell? ⟨q3, 3, none⟩ = some (.slice none 0 0) := by simp [World.cell?, c4']
    have k0 : w4.cell? ⟨q, 0, none⟩ = some (.int .i64 0) := by simp [World.cell?, b4']
    have k1 : w4.cell? ⟨q, 1, none⟩ = some (.string ⟨#[]⟩) := by simp [World.cell?, b4']
    have k2 : w4.cell? ⟨q, 2, none⟩ = some (.slice none 0 0) := by simp [World.cell?, b4']
    have k3 : w4.cell? ⟨q, 3, none⟩ = some (.slice none 0 0) := by simp [World.cell?, b4']
    have f0 : w4.frozen? ⟨q, 0, none⟩ = false := by simp [World.frozen?, b4']
    have f1 : w4.frozen? ⟨q, 1, none⟩ = false := by simp [World.frozen?, b4']
    have f2 : w4.frozen? ⟨q, 2, none⟩ = false := by simp [World.frozen?, b4']
    have f3 : w4.frozen? ⟨q, 3, none⟩ = false := by simp [World.frozen?, b4']
    clear b4' c4'
    go_wp2
    refine bodyPost_ret (results_c rfl _ _ q 36 _ (0, 0) _ rfl (jfour_set B4.out _ _ _ _) Tryd.underlying36 rfl (by kernel_rfl)) rfl ?_
    rw [HX.out]
    refine ⟨?_, H4.out.four (by have := HQ.out; omega) _ _ _ _, jfour_touch T4.out HQ.out.1 _ _ _ _⟩
    unfold numV
    rw [HS.out]
end Go.Proofs.YtjpmjcadnnglnaaDoor
