/- Texts of this proof, one behind the other: what each says stands ahead of it. -/
import Derived.Test.YtohcngiiijokkaaDoorM27
import Derived.Test.YtohcngiiijokkaaDoorM23
import Derived.Test.YtohcngiiijokkaaDoorM5
/- The document's Sum, value and zero; conditions: those told. -/
namespace Go.Proofs.YtohcngiiijokkaaDoor
open Go.RowKit

theorem one_lt {c : Nat} (h : c < 2 ^ 32) : Gz.one c < 2 ^ 32 := by
  unfold Gz.one
  exact Nat.xor_lt_two_pow (by omega) (by split <;> decide)
theorem ones_lt : ∀ (k : Nat) {c : Nat}, c < 2 ^ 32 → Gz.ones k c < 2 ^ 32
  | 0, _, h => h
  | k + 1, _, h => by rw [Gz.ones]; exact ones_lt k (one_lt h)
theorem ones_last : ∀ (k c : Nat), Gz.ones (k + 1) c = Gz.one (Gz.ones k c)
  | 0, c => rfl
  | k + 1, c => by rw [Gz.ones, ones_last k, Gz.ones]
set_option maxRecDepth 100000 in
set_option maxHeartbeats 4000000 in
theorem rsum_any (s : ByteArray) (hs : s.size ≤ 140737488355328) (w : World) :
    Calls Tryd.prog 11 #[.string s] w fun e w' => e = .returned (.int .i64 ((Gz.sum s : Nat) : Int)) ∧ w = w' := by
  go_enter Tryd.func11, Tryd.ntmps11
  go_wp2_with fail
  go_loopg [3, 4, 5, 6] s.size (fun gk v3 v4 v5 v6 wq => ∃ i : Nat, i + gk = s.size ∧ v4 = .int .i64 (i : Nat) ∧ v3 = .int .u32 ((Gz.crcTo s i : Nat) : Int) ∧ w = wq)
  case atStart => exact ⟨0, by omega, rfl, rfl, rfl⟩
  case round =>
    obtain ⟨i, hi, rfl, rfl, rfl⟩ := hrel
    by_cases hlt : i < s.size
    · obtain ⟨gO, rfl⟩ : ∃ j, gk = j + 1 := ⟨gk - 1, by omega⟩
      have hltI : (i : Int) < (s.size : Int) := by omega
      have hbg := byte_get s i hlt
      have hb := Bt.byteN_lt s i
      have hc := Gz.crcTo_lt s i
      have HN := hid (show Gz.crcTo s (i + 1) = Gz.ones 8 (Gz.crcTo s i ^^^ Bt.byteN s i) from (by rw [← Gz.cbyte_ones]; rfl))
      generalize Gz.crcTo s i = c at *
      generalize Bt.byteN s i = b at *
      have hx0 := u32_xor c b hc (by omega)
      have hlt0 : c ^^^ b < 2 ^ 32 := Nat.xor_lt_two_pow hc (by omega)
      obtain ⟨d, hd⟩ : ∃ d, d = c ^^^ b := ⟨_, rfl⟩
      rw [← hd] at hx0 hlt0 HN
      clear hd
      go_wp2_with fail
      go_loopg [3, 5, 6] 8 (fun g2 v3 v5 v6 wq => ∃ k : Nat, k + g2 = 8 ∧ v5 = .int .i64 (k : Nat) ∧ v3 = .int .u32 ((Gz.ones k d : Nat) : Int) ∧ w = wq)
      case atStart => exact ⟨0, by omega, rfl, rfl, rfl⟩
      case round =>
        obtain ⟨k, hk, rfl, rfl, rfl⟩ := hrel
        by_cases hk8 : k < 8
        · obtain ⟨g2, rfl⟩ : ∃ j, gk = j + 1 := ⟨gk - 1, by omega⟩
          have hk8I : (k : Int) < 8 := by omega
          have hc2 := ones_lt k hlt0
          have HO := hid (ones_last k d)
          generalize Gz.ones k d = m at *
          by_cases hodd : m % 2 = 1
          · have hoI : ((m : Int) % 2 == 1) = true := by rw [beq_iff_eq]; omega
            have hx := u32_xor (m / 2) 3988292384 (by omega) (by decide)
            rw [show ((m / 2 : Nat) : Int) = (m : Int) / 2 by omega] at hx
            obtain ⟨n, hn⟩ : ∃ n, n = m / 2 ^^^ 3988292384 := ⟨_, rfl⟩
            rw [← hn] at hx
            replace hx : bits .xor .u32 ((m : Int) / 2) 3988292384 = (n : Int) := hx
            replace HO := hid (show Gz.ones (k + 1) d = n by rw [HO.out, hn]; unfold Gz.one; rw [if_pos hodd])
            clear hn hodd
            go_wp2
            go_roundg g2
            case measure => omega
            case rel => exact ⟨k + 1, by omega, by go_num, by rw [HO.out], rfl⟩
          · have hoI : ((m : Int) % 2 == 1) = false := by rw [beq_eq_false_iff_ne]; omega
            replace HO := hid (show ((Gz.ones (k + 1) d : Nat) : Int) = (m : Int) / 2 by rw [HO.out]; unfold Gz.one; rw [if_neg hodd, Nat.xor_zero]; omega)
            clear hodd
            go_wp2
            go_roundg g2
            case measure => omega
            case rel => exact ⟨k + 1, by omega, by go_num, by rw [HO.out], rfl⟩
        · have hk8I : ¬ ((k : Int) < 8) := by omega
          obtain rfl : k = 8 := by omega
          go_wp2
          go_roundg gO
          case measure => omega
          case rel => exact ⟨i + 1, by omega, by go_num, by rw [HN.out], rfl⟩
    · have hltI : ¬ ((i : Int) < (s.size : Int)) := by omega
      have hc := Gz.crcTo_lt s s.size
      obtain rfl : i = s.size := by omega
      have HE := hid (show Gz.sum s = 4294967295 - Gz.crcTo s s.size from rfl)
      generalize Gz.crcTo s s.size = c at *
      go_wp2
      go_ret
      refine ⟨?_, rfl⟩
      rw [HE.out]
      first
        | rfl
        | (show Ending.returned (.int .i64 _) = _; congr 2; omega)
set_option maxRecDepth 100000 in
set_option maxHeartbeats 4000000 in
theorem value_any (s : ByteArray) (hs : s.size ≤ 4) (w : World) : Calls Tryd.prog 20 #[.string s] w fun e w' => e = .returned (.int .i64 ((Gz.num s 0 s.size : Nat) : Int)) ∧ w = w' := by
  go_enter Tryd.func20, Tryd.ntmps20
  go_wp2_with fail
  go_loopg [3, 4] s.size (fun gk v3 v4 wq => v4 = .int .i64 (gk : Nat) ∧ gk ≤ s.size ∧ v3 = .int .i64 ((Gz.num s gk (s.size - gk) : Nat) : Int) ∧ w = wq)
  case atStart => exact ⟨rfl, Nat.le_refl _, by rw [Nat.sub_self]; rfl, rfl⟩
  case round =>
    obtain ⟨rfl, hle, rfl, rfl⟩ := hrel
    by_cases h0 : 0 < gk
    · obtain ⟨g, rfl⟩ : ∃ j, gk = j + 1 := ⟨gk - 1, by omega⟩
      have h0I : (0 : Int) < ((g + 1 : Nat) : Int) := by omega
      have hgs : g < s.size := by omega
      have hbg := byte_get s g hgs
      have hb := Bt.byteN_lt s g
      have HN := hid (show Gz.num s g (s.size - g) = Bt.byteN s g + 256 * Gz.num s (g + 1) (s.size - (g + 1)) by rw [show s.size - g = (s.size - (g + 1)) + 1 by omega, Gz.num])
      have hn := Gz.num_lt s (s.size - (g + 1)) (g + 1)
      have hp : 256 ^ (s.size - (g + 1)) ≤ 256 ^ 3 := Nat.pow_le_pow_right (by decide) (by omega)
      generalize Gz.num s (g + 1) (s.size - (g + 1)) = n at *
      generalize Bt.byteN s g = b at *
      have hn3 : n < 16777216 := by omega
      have hsub : IntKind.i64.wrap (((g + 1 : Nat) : Int) - 1) = (g : Int) := by rw [IntKind.wrap_i64]; omega
      have hgI : (g : Int) < (s.size : Int) := by omega
      clear hn hp
      go_wp2
      go_roundg g
      case measure => omega
      case rel => exact ⟨by first | rfl | go_num, by omega, by rw [HN.out]; first | go_num | (congr 1; omega), rfl⟩
    · have h0I : ¬ ((0 : Int) < ((gk : Nat) : Int)) := by omega
      obtain rfl : gk = 0 := by omega
      go_wp2
      go_ret
      exact ⟨rfl, rfl⟩
theorem value_cut (s : ByteArray) (t n : Nat) (h : t + n ≤ s.size) (hn : n ≤ 4) (w : World) : Calls Tryd.prog 20 #[.string (s.extract t (t + n))] w fun e w' => e = .returned (.int .i64 ((Gz.num s t n : Nat) : Int)) ∧ w = w' := by
  obtain ⟨h1, h2⟩ := num_cut s t n h
  have := value_any (s.extract t (t + n)) (by omega) w
  rw [h1, h2] at this
  exact this
/-- The place of the next byte 00, as a number. -/
def zeroI (s : ByteArray) (t : Nat) : Int := match Gz.zeroAt s t with
  | none => -1
  | some z => ((z : Nat) : Int)
set_option maxRecDepth 100000 in
set_option maxHeartbeats 4000000 in
theorem zero_any (s : ByteArray) (t : Nat) (hs : s.size ≤ 140737488355328) (ht : t ≤ s.size) (w : World) : Calls Tryd.prog 21 #[.string s, .int .i64 (t : Nat)] w fun e w' => e = .returned (.int .i64 (zeroI s t)) ∧ w = w' := by
  go_enter Tryd.func21, Tryd.ntmps21
  go_wp2_with fail
  go_loopg [5] (s.size - t) (fun gk v5 wq => ∃ i : Nat, v5 = .int .i64 (i : Nat) ∧ i + gk = s.size ∧ Gz.zeroAt s t = Gz.zf s gk i ∧ w = wq)
  case atStart => exact ⟨t, rfl, by omega, rfl, rfl⟩
  case round =>
    obtain ⟨i, rfl, hi, hz, rfl⟩ := hrel
    by_cases hlt : i < s.size
    · obtain ⟨gk, rfl⟩ : ∃ j, gk = j + 1 := ⟨gk - 1, by omega⟩
      have hltI : (i : Int) < (s.size : Int) := by omega
      have hbg := byte_get s i hlt
      have HZ := hid hz
      have HST := hid (show Gz.zf s (gk + 1) i = if Bt.byteN s i = 0 then some i else Gz.zf s gk (i + 1) from rfl)
      generalize Bt.byteN s i = b at *
      clear hz
      by_cases h0 : b = 0
      · have h0I : ((b : Int) == 0) = true := by rw [beq_iff_eq]; omega
        have HE := hid (show zeroI s t = (i : Int) by unfold zeroI; rw [HZ.out, HST.out, if_pos h0])
        clear h0
        go_wp2
        go_ret
        exact ⟨by rw [HE.out]; rfl, rfl⟩
      · have h0I : ((b : Int) == 0) = false := by rw [beq_eq_false_iff_ne]; omega
        have HE := hid (show Gz.zeroAt s t = Gz.zf s gk (i + 1) by rw [HZ.out, HST.out, if_neg h0])
        clear h0
        go_wp2
        go_roundg gk
        case measure => omega
        case rel => exact ⟨i + 1, by go_num, by omega, HE.out, rfl⟩
    · have hltI : ¬ ((i : Int) < (s.size : Int)) := by omega
      obtain rfl : gk = 0 := by omega
      have HE := hid (show zeroI s t = -1 by unfold zeroI; rw [hz]; rfl)
      clear hz
      go_wp2
      go_ret
      exact ⟨by rw [HE.out]; rfl, rfl⟩
end Go.Proofs.YtohcngiiijokkaaDoor

/- The document's unpacker in memory, and its small calls; conditions: the bytes fit into memory. -/
namespace Go.Proofs.YtohcngiiijokkaaDoor
open Go.RowKit Go.Lib

set_option maxHeartbeats 400000 in
theorem rvalue_any (s : ByteArray) (k n : Nat) (w : World) (hn : n ≤ 32) (hk : k + n ≤ 1125899906842624) (hs : s.size ≤ 140737488355328) :
    Calls Tryd.prog 39 #[.string s, .int .i64 k, .int .i64 n] w fun e w' => e = .returned (.int .i64 (Bt.rval s k n : Nat)) ∧ w' = w := by
  go_enter Tryd.func39, Tryd.ntmps39
  go_wp2
  go_loop [7, 8] (fun v i => ∃ j : Nat, j ≤ n ∧ i = .int .i64 (j - 1) ∧ v = .int .i64 (Bt.rval s (k + j) (n - j) : Nat)) (fun _ i => (Go.RowKit.intOf i + 1).toNat)
  case atStart => exact ⟨n, Nat.le_refl _, rfl, by rw [Nat.sub_self]; rfl⟩
  case round =>
    obtain ⟨j, hj, rfl, rfl⟩ := hrel
    by_cases h0 : j = 0
    · subst h0
      go_wp2
      go_ret
      exact ⟨rfl, rfl⟩
    · obtain ⟨i, rfl⟩ : ∃ i, j = i + 1 := ⟨j - 1, by omega⟩
      have hge : (0 : Int) ≤ ((i + 1 : Nat) : Int) - 1 := by omega
      have hr := Bt.rval_lt s (k + (i + 1)) (n - (i + 1))
      have hp : 2 ^ (n - (i + 1)) ≤ 2 ^ 32 := Nat.pow_le_pow_right (by decide) (by omega)
      have hrb : Bt.rval s (k + (i + 1)) (n - (i + 1)) ≤ 4294967296 := by omega
      have hc := Bt.rval_cons s (k + i) (n - (i + 1))
      rw [show n - (i + 1) + 1 = n - i by omega, show k + i + 1 = k + (i + 1) by omega] at hc
      have HC : Hid _ := hc
      generalize Bt.rval s (k + (i + 1)) (n - (i + 1)) = r at *
      have hbb := Bool.toNat_le (Bt.bitAt s (k + i))
      clear hr hp hc h0
      go_wp2_with fail
      rw [show (k : Int) + (i : Int) = ((k + i : Nat) : Int) by omega]
      refine (rbit_any s (k + i) _ (by omega) hs).mono ?_
      rintro e w1 ⟨rfl, rfl⟩
      go_wp2
      go_round
      case rel => exact ⟨i, by omega, by go_num, by rw [HC.out]; go_num⟩
      case measure => simp [Go.RowKit.intOf]

/-- The document's state at sb: its bytes, the bits that are taken, what came, the bound, the error. -/
def Sv (w : World) (sb : Nat) (v : Value) (out : List Nat) (S : ByteArray) (t most er : Nat) : Prop :=
  w.heap[sb]? = some (.cells #[.string S, .int .i64 (t : Nat), v, .int .i64 (most : Nat), .int .i64 (er : Nat)] 69 (0, 0)) ∧ w.ownsRow 0 5 1 v out.length (bytesV out)

theorem sv_cells {w : World} {sb : Nat} {v : Value} {out : List Nat} {S : ByteArray} {t most er : Nat} (h : Sv w sb v out S t most er) :
    w.cell? ⟨sb, 0, none⟩ = some (.string S) ∧ w.cell? ⟨sb, 1, none⟩ = some (.int .i64 (t : Nat)) ∧ w.cell? ⟨sb, 2, none⟩ = some v ∧ w.cell? ⟨sb, 3, none⟩ = some (.int .i64 (most : Nat)) ∧ w.cell? ⟨sb, 4, none⟩ = some (.int .i64 (er : Nat)) := by
  simp [World.cell?, h.1]
theorem sv_free {w : World} {sb : Nat} {v : Value} {out : List Nat} {S : ByteArray} {t most er : Nat} (h : Sv w sb v out S t most er) (i : Nat) : w.frozen? ⟨sb, i, none⟩ = false := by simp [World.frozen?, h.1]
theorem sv_own {w : World} {sb : Nat} {v : Value} {out : List Nat} {S : ByteArray} {t most er : Nat} (h : Sv w sb v out S t most er) : v.ownBlock ≠ some sb := by
  intro e
  rcases h.2.2 with ⟨rfl, _⟩ | ⟨g, cap, cur, rfl, _, hh, _⟩
  · simp [Value.ownBlock] at e
  · simp [Value.ownBlock] at e
    subst e
    rw [h.1] at hh
    simp at hh
theorem Sv.at {w : World} {sb : Nat} {v : Value} {out : List Nat} {S : ByteArray} {t most er : Nat} (h : Sv w sb v out S t most er) (t' : Nat) : Sv (w.setCell ⟨sb, 1, none⟩ (.int .i64 (t' : Nat))) sb v out S t' most er :=
  ⟨block_set h.1 1 (.int .i64 (t' : Nat)), ownsRow_setCell_other h.2 (sv_own h) _⟩
theorem Sv.err {w : World} {sb : Nat} {v : Value} {out : List Nat} {S : ByteArray} {t most er : Nat} (h : Sv w sb v out S t most er) (e' : Nat) : Sv (w.setCell ⟨sb, 4, none⟩ (.int .i64 (e' : Nat))) sb v out S t most e' :=
  ⟨block_set h.1 4 (.int .i64 (e' : Nat)), ownsRow_setCell_other h.2 (sv_own h) _⟩
theorem Sv.still {w w' : World} {sb : Nat} {v : Value} {out : List Nat} {S : ByteArray} {t most er : Nat} (h : Sv w sb v out S t most er) (tc : Touch (fun _ => False) w w') : Sv w' sb v out S t most er := by
  refine ⟨(tc.block sb (lt_of_block h.1) id).trans h.1, h.2.1, ?_⟩
  rcases h.2.2 with h0 | ⟨g, cap, cur, hv, hg, hh, rest⟩
  · exact .inl h0
  · exact .inr ⟨g, cap, cur, hv, hg, (tc.block g (lt_of_block hh) id).trans hh, rest⟩

/-- What a call leaves of the state. -/
def SvDone (w w' : World) (sb : Nat) (v : Value) (out : List Nat) (S : ByteArray) (t most er : Nat) : Prop :=
  ∃ v', Sv w' sb v' out S t most er ∧ Touch (fun k => k = sb ∨ v.ownBlock = some k) w w' ∧ (v'.ownBlock = v.ownBlock ∨ ∃ g, v'.ownBlock = some g ∧ w.heap.size ≤ g)

/-- The same list of bytes, and only the state's own block turned. -/
def SvStep (w w' : World) (sb : Nat) (v : Value) (out : List Nat) (S : ByteArray) (t most er : Nat) : Prop := Sv w' sb v out S t most er ∧ Touch (fun k => k = sb) w w'
theorem SvStep.done {w w' : World} {sb : Nat} {v : Value} {out : List Nat} {S : ByteArray} {t most er : Nat} (h : SvStep w w' sb v out S t most er) : SvDone w w' sb v out S t most er := ⟨v, h.1, h.2.mono (fun _ _ e => .inl e), .inl rfl⟩
theorem SvStep.trans {w w1 w2 : World} {sb : Nat} {v : Value} {out out' : List Nat} {S : ByteArray} {t t' most er er' : Nat} (h : SvStep w w1 sb v out S t most er) (k : SvStep w1 w2 sb v out' S t' most er') : SvStep w w2 sb v out' S t' most er' := ⟨k.1, h.2.trans k.2 (fun _ _ e => e)⟩
theorem SvStep.refl {w : World} {sb : Nat} {v : Value} {out : List Nat} {S : ByteArray} {t most er : Nat} (h : Sv w sb v out S t most er) : SvStep w w sb v out S t most er := ⟨h, Touch.refl _ _⟩

theorem rtake_err (sb : Nat) (v : Value) (out : List Nat) (S : ByteArray) (t most er : Nat) (n : Int) (w : World) (h : Sv w sb v out S t most er) (he : er ≠ 0) :
    Calls Tryd.prog 30 #[.pointer (some ⟨sb, 0, none⟩), .int .i64 n] w fun e w' => e = .returned (.int .i64 0) ∧ w' = w := by
  obtain ⟨_, _, _, _, c4⟩ := sv_cells h
  have hne : ((er : Int) != 0) = true := by simp; omega
  clear h he
  go_enter Tryd.func30, Tryd.ntmps30
  go_wp2
  go_ret
  exact ⟨rfl, rfl⟩

set_option maxHeartbeats 4000000 in
theorem rtake_end (sb : Nat) (v : Value) (out : List Nat) (S : ByteArray) (t most n : Nat) (w : World) (h : Sv w sb v out S t most 0) (hs : S.size ≤ 140737488355328) (ht : t ≤ 8 * S.size) (hn : 8 * S.size < t + n) (hb : n ≤ 64) :
    Calls Tryd.prog 30 #[.pointer (some ⟨sb, 0, none⟩), .int .i64 (n : Nat)] w fun e w' => e = .returned (.int .i64 0) ∧ SvStep w w' sb v out S t most 3 := by
  obtain ⟨c0, c1, _, _, c4⟩ := sv_cells h
  have f4 := sv_free h 4
  have HS := hid h
  have hgt : ((8 * S.size : Nat) : Int) - (t : Int) < (n : Int) := by omega
  clear h
  go_enter Tryd.func30, Tryd.ntmps30
  go_wp2_with fail
  go_quiet (fail)
  go_wp2
  go_ret
  exact ⟨rfl, HS.out.err 3, ((Touch.refl (fun k => k = sb) w).drewN _).setCell (p := ⟨sb, 4, none⟩) (fun _ => rfl) _⟩

set_option maxHeartbeats 4000000 in
theorem rtake_yes (sb : Nat) (v : Value) (out : List Nat) (S : ByteArray) (t most n : Nat) (w : World) (h : Sv w sb v out S t most 0) (hs : S.size ≤ 140737488351232) (hn : t + n ≤ 8 * S.size) (hb : n ≤ 32) :
    Calls Tryd.prog 30 #[.pointer (some ⟨sb, 0, none⟩), .int .i64 (n : Nat)] w fun e w' => e = .returned (.int .i64 (Bt.rval S t n : Nat)) ∧ SvStep w w' sb v out S (t + n) most 0 := by
  obtain ⟨c0, c1, _, _, c4⟩ := sv_cells h
  have f1 := sv_free h 1
  have HS := hid h
  have hgt : ¬ ((8 * S.size : Nat) : Int) - (t : Int) < (n : Int) := by omega
  have hgt2 : (n : Int) ≤ 8 * (S.size : Int) - (t : Int) := by omega
  clear h
  have RV := hid (fun wq => rvalue_any S t n wq hb (by omega) (by omega))
  obtain ⟨x, hx⟩ : ∃ x, x = Bt.rval S t n := ⟨_, rfl⟩
  rw [← hx] at RV ⊢
  clear hx
  go_enter Tryd.func30, Tryd.ntmps30
  go_wp2_with fail
  go_quiet (fail)
  go_wp2_with fail
  go_region_with (go_at_call 39; refine (RV.out _).mono ?_; rintro e wq ⟨rfl, rfl⟩)
  all_goals
    go_wp2
    go_ret
    exact ⟨rfl, HS.out.at (t + n), ((Touch.refl (fun k => k = sb) w).drewN _).drew.setCell (p := ⟨sb, 1, none⟩) (fun _ => rfl) _⟩

theorem code_small (f : Nat → Nat) (hf : ∀ i, f i ≤ 15) (len : Nat) (h0 : ∀ i, len ≤ i → f i = 0) (hr : rm f len ≤ 2 ^ 15) (i : Nat) : codeOf (cOf f len) f i ≤ 65536 := by
  by_cases h : f i = 0
  · unfold codeOf
    rw [if_pos h]
    omega
  · have hi : i < len := by
      rcases Nat.lt_or_ge i len with g | g
      · exact g
      · exact absurd (h0 i g) h
    have := code_lt f hf len i hi h hr
    have h2 : 2 ^ f i ≤ 2 ^ 15 := Nat.pow_le_pow_right (by decide) (hf i)
    omega

theorem refnext_nx (a a' : Option Addr) (len cap cap' : Nat) (f : Nat → Nat) (s : ByteArray) (k : Nat) (w : World) (hT : Inf.Tbl f len) (hz : ∀ i, len ≤ i → f i = 0) (hi : Ints w a len (fun i => (f i : Nat))) (hi' : Ints w a' len (fun i => (codeOf (cOf f len) f i : Nat))) (hs : s.size ≤ 140737488355328) (hk : k ≤ 8 * s.size) :
    Calls Tryd.prog 49 #[.slice a len cap, .slice a' len cap', .string s, .int .i64 (k : Nat)] w fun e w' => e = .returned (.tuple #[.int .i64 ((Inf.nx f len s k).2.1 : Nat), .int .i64 ((Inf.nx f len s k).2.2 - k : Nat), .int .i64 ((Inf.nx f len s k).1 : Nat)]) ∧ Still w w' := by
  have hc : ∀ i, codeOf (cOf f len) f i ≤ 65536 := code_small f hT.le len hz (err_ok hT.ok).1
  refine (refnext_any a a' len cap cap' f (codeOf (cOf f len) f) s k w hT.few hT.le hc hi hi' hs hk).mono ?_
  rintro e w' ⟨hr, hst⟩
  refine ⟨?_, hst⟩
  rcases hr with ⟨i, hi1, hfu, rfl⟩ | ⟨h1, h2, rfl⟩ | ⟨h1, h2, rfl⟩
  · rw [Inf.nx_sym hT hi1 hfu]
    show _ = Ending.returned (.tuple #[.int .i64 (i : Nat), .int .i64 (k + f i - k : Nat), .int .i64 (0 : Nat)])
    rw [show k + f i - k = f i by omega]
    rfl
  · rw [Inf.nx_fin h1 h2]
    show _ = Ending.returned (.tuple #[.int .i64 (0 : Nat), .int .i64 (k - k : Nat), .int .i64 (3 : Nat)])
    rw [Nat.sub_self]
    rfl
  · rw [Inf.nx_bad h1 h2]
    show _ = Ending.returned (.tuple #[.int .i64 (0 : Nat), .int .i64 (k - k : Nat), .int .i64 (5 : Nat)])
    rw [Nat.sub_self]
    rfl

theorem rnext_err (sb : Nat) (v : Value) (out : List Nat) (S : ByteArray) (t most er : Nat) (a a' : Option Addr) (len cap len' cap' : Nat) (w : World) (h : Sv w sb v out S t most er) (he : er ≠ 0) :
    Calls Tryd.prog 42 #[.pointer (some ⟨sb, 0, none⟩), .slice a len cap, .slice a' len' cap'] w fun e w' => e = .returned (.int .i64 0) ∧ w' = w := by
  obtain ⟨_, _, _, _, c4⟩ := sv_cells h
  have hne : ((er : Int) != 0) = true := by simp; omega
  clear h he
  go_enter Tryd.func42, Tryd.ntmps42
  go_wp2
  go_ret
  exact ⟨rfl, rfl⟩

set_option maxHeartbeats 4000000 in
theorem rnext_any (sb : Nat) (v : Value) (out : List Nat) (S : ByteArray) (t most : Nat) (a a' : Option Addr) (len cap cap' : Nat) (f : Nat → Nat) (w : World) (h : Sv w sb v out S t most 0) (hs : S.size ≤ 140737488351232) (ht : t ≤ 8 * S.size) (hT : Inf.Tbl f len) (hz : ∀ i, len ≤ i → f i = 0)
    (hi : Ints w a len (fun i => (f i : Nat))) (hi' : Ints w a' len (fun i => (codeOf (cOf f len) f i : Nat))) (er i t1 : Nat) (hn : Inf.nx f len S t = (er, i, t1)) :
    Calls Tryd.prog 42 #[.pointer (some ⟨sb, 0, none⟩), .slice a len cap, .slice a' len cap'] w fun e w' => e = .returned (.int .i64 (i : Nat)) ∧ SvStep w w' sb v out S t1 most er := by
  obtain ⟨c0, c1, _, _, c4⟩ := sv_cells h
  have HS := hid h
  have hf := Inf.nx_fits hn ht
  have RN := hid (refnext_nx a a' len cap cap' f S t w.drew hT hz hi hi' (by omega) ht)
  rw [hn] at RN
  obtain ⟨d, hd⟩ : ∃ d, d = t1 - t := ⟨_, rfl⟩
  have RN2 := hid (show Calls Tryd.prog 49 #[.slice a len cap, .slice a' len cap', .string S, .int .i64 (t : Nat)] w.drew fun e w' => e = .returned (.tuple #[.int .i64 (i : Nat), .int .i64 (d : Nat), .int .i64 (er : Nat)]) ∧ Still w.drew w' from by
    rw [hd]
    exact RN.out)
  have hd1 : t + d = t1 := by omega
  have hdb : d ≤ 1125899906842624 := by omega
  have HD := hid hd1
  have htb : t ≤ 1125899906842624 := by omega
  clear h hn RN hd hd1 hi hi' hf
  go_enter Tryd.func42, Tryd.ntmps42
  go_wp2_with fail
  go_region_with (go_at_call 49; refine RN2.out.mono ?_; rintro e w2 ⟨rfl, hst⟩; have S2 := hid (HS.out.still ((hst.touch (fun _ => False)) |> fun tc => ⟨tc.os, tc.tape, tc.output, tc.size, tc.block⟩)); have T2 := hid (hst.touch (fun k => k = sb)); clear hst)
  all_goals
    have d1 := (sv_cells S2.out).2.1
    have d4 := (sv_cells S2.out).2.2.2.2
    have g1 := sv_free S2.out 1
    have g4 := sv_free S2.out 4
    go_wp2
    go_ret
    have e1 : ((t : Int) + (d : Int)) = ((t1 : Nat) : Int) := by have := HD.out; omega
    rw [e1]
    exact ⟨rfl, (S2.out.at t1).err er, ((((Touch.refl (fun k => k = sb) w).drew).trans T2.out (fun _ _ e => e)).setCell (p := ⟨sb, 1, none⟩) (fun _ => rfl) _).setCell (p := ⟨sb, 4, none⟩) (fun _ => rfl) _⟩

set_option maxHeartbeats 4000000 in
theorem rbytes2_end (sb : Nat) (v : Value) (out : List Nat) (S : ByteArray) (t most er n : Nat) (w : World) (h : Sv w sb v out S t most er) (hs : S.size ≤ 140737488351232) (ht : t ≤ 8 * S.size) (hn : S.size < (t + 7) / 8 + n) :
    Calls Tryd.prog 40 #[.pointer (some ⟨sb, 0, none⟩), .int .i64 (n : Nat)] w fun e w' => e = .returned (.int .i64 (-1)) ∧ SvStep w w' sb v out S t most 3 := by
  obtain ⟨c0, c1, _, _, c4⟩ := sv_cells h
  have f4 := sv_free h 4
  have HS := hid h
  clear h
  go_enter Tryd.func40, Tryd.ntmps40
  go_wp2
  go_ret
  exact ⟨rfl, HS.out.err 3, (Touch.refl (fun k => k = sb) w).setCell (p := ⟨sb, 4, none⟩) (fun _ => rfl) _⟩

set_option maxHeartbeats 4000000 in
theorem rbytes2_yes (sb : Nat) (v : Value) (out : List Nat) (S : ByteArray) (t most er n p : Nat) (w : World) (h : Sv w sb v out S t most er) (hs : S.size ≤ 140737488351232) (ht : t ≤ 8 * S.size) (hp : (t + 7) / 8 = p) (hn : p + n ≤ S.size) (hb : n ≤ 65536) :
    Calls Tryd.prog 40 #[.pointer (some ⟨sb, 0, none⟩), .int .i64 (n : Nat)] w fun e w' => e = .returned (.int .i64 (p : Nat)) ∧ SvStep w w' sb v out S (8 * (p + n)) most er := by
  obtain ⟨c0, c1, _, _, c4⟩ := sv_cells h
  have f1 := sv_free h 1
  have HS := hid h
  have hpi : ((t : Int) + 7) / 8 = (p : Int) := by omega
  clear h
  go_enter Tryd.func40, Tryd.ntmps40
  go_wp2
  go_ret
  refine ⟨ret_int (by omega), ?_, ?_⟩
  · have := HS.out.at (8 * (p + n))
    rw [show ((8 * (p + n) : Nat) : Int) = 8 * ((p : Int) + (n : Int)) by omega] at this
    exact this
  · exact (Touch.refl (fun k => k = sb) w).setCell (p := ⟨sb, 1, none⟩) (fun _ => rfl) _
end Go.Proofs.YtohcngiiijokkaaDoor
