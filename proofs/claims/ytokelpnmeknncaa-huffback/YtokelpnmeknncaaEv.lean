/- Even, the program's and the document's: lengths for symbols that are used; condition: at most 1048576 symbols. -/
import Derived.Test.YtokelpnmeknncaaCl
import Derived.Test.YtokelpnmeknncaaHm
import Derived.BigQuiet
namespace Go.Proofs.Ytokelpnmeknncaa
open Go.RowKit

def Bools (w : World) (a : Option Addr) (len : Nat) (u : Nat → Bool) : Prop :=
  len = 0 ∨ ∃ b o, a = some ⟨b, o, none⟩ ∧ b < w.heap.size ∧ ∀ i, i < len → w.cell? ⟨b, o + i, none⟩ = some (.bool (u i))

theorem Bools.new {w w' : World} {a : Option Addr} {len : Nat} {f : Nat → Bool} (h : Bools w a len f) (t : Touch (fun _ => False) w w') : Bools w' a len f := by
  rcases h with h | ⟨b, o, rfl, hb, hc⟩
  · exact .inl h
  · exact .inr ⟨b, o, rfl, Nat.lt_of_lt_of_le hb t.size, fun i hi => by rw [t.cell (p := ⟨b, o + i, none⟩) hb id]; exact hc i hi⟩

/-- How many of the first k are used. -/
def cntb (u : Nat → Bool) : Nat → Nat
  | 0 => 0
  | k + 1 => cntb u k + (u k).toNat
theorem cntb_le (u : Nat → Bool) : ∀ k, cntb u k ≤ k
  | 0 => Nat.le_refl _
  | k + 1 => by have := cntb_le u k; have := Bool.toNat_le (u k); simp only [cntb]; omega
theorem cntb_mono (u : Nat → Bool) (i : Nat) : ∀ d, cntb u i ≤ cntb u (i + d)
  | 0 => Nat.le_refl _
  | d + 1 => by have := cntb_mono u i d; rw [← Nat.add_assoc, cntb]; omega

/-- The length of symbol i, of m that are used, k the greatest with 2^k at most m. -/
def evenLen (u : Nat → Bool) (m k i : Nat) : Nat := if u i = false then 0 else if cntb u i < 2 ^ (k + 1) - m then max k 1 else k + 1
def evenTo (u : Nat → Bool) (len m k n : Nat) : List Nat := (List.range len).map fun i => if i < n then evenLen u m k i else 0

theorem evenTo_zero (u : Nat → Bool) (len m k : Nat) : natsV (evenTo u len m k 0) = List.replicate len (.int .i64 0) := by
  apply List.ext_getElem
  · simp [natsV, evenTo]
  · intro i h1 h2
    simp [natsV, evenTo]
theorem evenTo_all (u : Nat → Bool) (len m k : Nat) : evenTo u len m k len = (List.range len).map (evenLen u m k) := by
  apply List.map_congr_left
  intro i hi
  rw [if_pos (by simpa using hi)]
theorem evenTo_skip (u : Nat → Bool) (len m k n : Nat) (h : u n = false) : evenTo u len m k (n + 1) = evenTo u len m k n := by
  apply List.map_congr_left
  intro i _
  by_cases e : i = n
  · subst e; rw [if_pos (by omega), if_neg (by omega), evenLen, if_pos h]
  · by_cases e2 : i < n
    · rw [if_pos e2, if_pos (by omega)]
    · rw [if_neg e2, if_neg (by omega)]
theorem evenTo_set (u : Nat → Bool) (len m k n : Nat) : evenTo u len m k (n + 1) = (evenTo u len m k n).set n (evenLen u m k n) := by
  apply List.ext_getElem
  · simp [evenTo]
  · intro i h1 h2
    simp only [evenTo, List.getElem_map, List.getElem_range, List.getElem_set]
    by_cases e : n = i
    · subst e; simp
    · rw [if_neg e]
      by_cases e2 : i < n
      · rw [if_pos e2, if_pos (by omega)]
      · rw [if_neg e2, if_neg (by omega)]

theorem row_zero {w : World} {base g n s : Nat} {l : List Nat} (h : w.ownsRow base 3 1 (.slice (some ⟨g, 0, none⟩) n n) n (natsV l)) (hs : l[s]? = some 0) : w.cell? ⟨g, s, none⟩ = some (.int .i64 0) ∧ w.frozen? ⟨g, s, none⟩ = false := by
  constructor
  · have := h.cells (g := g) rfl s (.int .i64 0) (by simp [natsV, hs])
    rwa [add_zero] at this
  · rcases h.2 with ⟨h, _⟩ | ⟨g', cap', cur, h, _, hh, _⟩
    · simp at h
    · simp at h
      obtain ⟨rfl, rfl⟩ := h
      simp [World.frozen?, hh]

theorem shl_two (j : Nat) (h : j ≤ 16) : wrap64 (2 * 2 ^ j) = ((2 ^ (j + 1) : Nat) : Int) := by
  have hp : 2 ^ j ≤ 2 ^ 16 := Nat.pow_le_pow_right (by decide) h
  have e : (2 : Int) ^ j = ((2 ^ j : Nat) : Int) := by simp
  rw [e, Nat.pow_succ]
  generalize 2 ^ j = p at *
  unfold wrap64
  omega

theorem max_cast (t : Nat) : ((max t 1 : Nat) : Int) = (if (t : Int) < 1 then 1 else (t : Int)) := by
  split <;> omega

set_option maxRecDepth 100000 in
set_option maxHeartbeats 4000000 in
theorem even_any (a : Option Addr) (len cap m k : Nat) (u : Nat → Bool) (w : World) (hl : len ≤ 1048576) (hi : Bools w a len u) (hm : cntb u len = m) (h1 : 1 ≤ m) (h2 : m ≤ 32768) (hk : 2 ^ k ≤ m) (hk2 : m < 2 ^ (k + 1)) :
    Calls Try.prog 19 #[.slice a len cap] w fun e w' => ∃ v, e = .returned v ∧ w'.ownsRow w.heap.size 3 1 v len (natsV ((List.range len).map (evenLen u m k))) ∧ Touch (fun _ => False) w w' := by
  obtain ⟨i0, hin, hz0, hz1, hz2⟩ := info_parts info3
  have hk15 : k ≤ 15 := by
    rcases Nat.lt_or_ge 15 k with h | h
    · have : 2 ^ 16 ≤ 2 ^ k := Nat.pow_le_pow_right (by decide) h
      omega
    · exact h
  have HI := hid hi
  have HM := hid hm
  have HK := hid hk
  have HK2 := hid hk2
  clear hi hm hk hk2
  go_enter Try.func19, Try.ntmps19
  go_wp2_with (first
    | (at_make; refine wpList_make_full _ rfl _ _ 22 rfl w.heap.size 3 i0 (.int .i64 0) 1 Try.underlying22 hin hz0 hz1 .i64 .i64 _ _ len rfl rfl rfl rfl (by rw [hz2]; omega) (by unfold maxLen; omega) (Nat.le_refl _) ?_))
  intro w2 hown hgrow
  rw [toList_madeCells_one] at hown
  have T2 : Hid (Touch (fun _ => False) w w2) := (Touch.refl _ w).grown hgrow (fun k e => by simp at e)
  have O2 := hid hown
  have I2 := hid (HI.out.new T2.out)
  have HI0 := hid HI.out
  clear hown hgrow HI
  go_wp2_with fail
  go_loop [4, 16] (fun c i => ∃ j : Nat, j ≤ len ∧ i = .int .i64 j ∧ c = .int .i64 (cntb u j : Nat)) (fun _ i => len - (intOf i).toNat)
  case atStart => exact ⟨0, Nat.zero_le _, rfl, rfl⟩
  case round =>
    obtain ⟨j, hj, rfl, rfl⟩ := hrel
    have hcl := cntb_le u j
    by_cases hlt : j < len
    · rcases I2.out with h | ⟨b, o, ha, hb, hcell⟩
      · omega
      · subst ha
        have d0 := hcell j hlt
        clear hcell
        cases hu : u j
        · rw [hu] at d0
          have HU := hid hu
          clear hu
          go_wp2
          go_round
          case rel => exact ⟨j + 1, by omega, by go_num, by rw [cntb, HU.out]; rfl⟩
          case measure => simp [intOf]; omega
        · rw [hu] at d0
          have HU := hid hu
          clear hu
          go_wp2
          go_round
          case rel => exact ⟨j + 1, by omega, by go_num, by rw [cntb, HU.out]; go_num⟩
          case measure => simp [intOf]; omega
    · obtain rfl : j = len := by omega
      rw [HM.out]
      have q1 : ((m : Int) == 0) = false := by simp; omega
      have q2 : ¬ (32768 : Int) < (m : Int) := by omega
      go_wp2_with fail
      go_loop [7] (fun i => ∃ t : Nat, t ≤ k ∧ i = .int .i64 t) (fun i => k - (intOf i).toNat)
      case atStart => exact ⟨0, Nat.zero_le _, rfl⟩
      case round =>
        obtain ⟨t, ht, rfl⟩ := hrel
        have hsh := shl_two t (by omega)
        obtain ⟨P, hP⟩ : ∃ P, 2 ^ (t + 1) = P := ⟨_, rfl⟩
        rw [hP] at hsh
        by_cases htk : t < k
        · have hle : (P : Int) ≤ (m : Int) := by
            have : 2 ^ (t + 1) ≤ 2 ^ k := Nat.pow_le_pow_right (by decide) (by omega)
            have := HK.out
            omega
          clear hP
          go_wp2
          go_round
          case rel => exact ⟨t + 1, by omega, by go_num⟩
          case measure => simp [intOf]; omega
        · obtain rfl : t = k := by omega
          have hgt : ¬ (P : Int) ≤ (m : Int) := by have := HK2.out; omega
          have HP := hid hP
          have hPm : m < P := by omega
          clear hP
          go_wp2_with fail
          rw [show wrap64 ((P : Int) - (m : Int)) = ((P - m : Nat) : Int) by unfold wrap64; have : P ≤ 65536 := by { have := HP.out; have h : 2 ^ (t + 1) ≤ 2 ^ 16 := Nat.pow_le_pow_right (by decide) (by omega); omega }; omega]
          go_loopw [8, 43] (fun sh i wr => ∃ n : Nat, n ≤ j ∧ i = .int .i64 n ∧ sh = .int .i64 (P - m - cntb u n : Nat) ∧ wr.ownsRow w.heap.size 3 1 (.slice (some ⟨w.heap.size, 0, none⟩) j j) j (natsV (evenTo u j m t n)) ∧ Touch (fun _ => False) w wr) (fun _ i _ => j - (intOf i).toNat)
          case atStart => exact ⟨0, Nat.zero_le _, rfl, by simp [cntb], by rw [evenTo_zero]; exact O2.out, T2.out⟩
          case round =>
            obtain ⟨n, hn, rfl, rfl, ho, htt⟩ := hrel
            have O3 := hid ho
            have T3 := hid htt
            have I3 := hid (HI0.out.new htt)
            clear ho htt O2 T2 I2
            by_cases hnl : n < j
            · rcases I3.out with h | ⟨b, o, ha, hb, hcell⟩
              · omega
              · subst ha
                have d0 := hcell n hnl
                clear hcell
                obtain ⟨z1, z2⟩ := row_zero O3.out (s := n) (by simp [evenTo, hnl])
                cases hu : u n
                · rw [hu] at d0
                  have HU := hid hu
                  clear hu
                  go_wp2
                  go_roundw
                  case rel => exact ⟨n + 1, by omega, by go_num, by rw [cntb, HU.out]; rfl, by rw [evenTo_skip u j m t n HU.out]; exact O3.out, T3.out⟩
                  case measure => simp [intOf]; omega
                · rw [hu] at d0
                  have HU := hid hu
                  clear hu
                  obtain ⟨c, hc⟩ : ∃ c, cntb u n = c := ⟨_, rfl⟩
                  rw [hc]
                  by_cases hs : c < P - m
                  · have hpos : (0 : Int) < ((P - m - c : Nat) : Int) := by omega
                    have hev : evenLen u m t n = max t 1 := by rw [evenLen, if_neg (by rw [HU.out]; decide), HP.out, hc, if_pos hs]
                    have HEV := hid hev
                    have HCC := hid hc
                    have hsb : P - m - c ≤ 65536 := by have := HP.out; have h : 2 ^ (t + 1) ≤ 2 ^ 16 := Nat.pow_le_pow_right (by decide) (by omega); omega
                    obtain ⟨y, hy⟩ : ∃ y, P - m - c = y + 1 := ⟨P - m - c - 1, by omega⟩
                    rw [hy] at hpos hsb ⊢
                    have HY := hid hy
                    clear hev hc hy hs
                    go_wp2
                    go_roundw
                    case rel =>
                      refine ⟨n + 1, by omega, by go_num, ?_, ?_, T3.out.setCell (fun h => by simp at h) _⟩
                      · rw [cntb, HU.out, HCC.out]; have := HY.out; go_num
                      · rw [evenTo_set, HEV.out]
                        have h := own3_set' O3.out n (.int .i64 (max t 1 : Nat))
                        rw [max_cast t] at h
                        simp only [natsV, List.map_set] at h ⊢
                        rw [max_cast t]
                        exact h
                    case measure => simp [intOf]; omega
                  · have hz : P - m - c = 0 := by omega
                    have hev : evenLen u m t n = t + 1 := by rw [evenLen, if_neg (by rw [HU.out]; decide), HP.out, hc, if_neg hs]
                    have HEV := hid hev
                    have HCC := hid hc
                    have HZ := hid hz
                    rw [hz]
                    clear hev hc hz hs
                    go_wp2
                    go_roundw
                    case rel =>
                      refine ⟨n + 1, by omega, by go_num, ?_, ?_, T3.out.setCell (fun h => by simp at h) _⟩
                      · rw [cntb, HU.out, HCC.out]; have := HZ.out; go_num
                      · rw [evenTo_set, HEV.out]
                        have h := own3_set' O3.out n (.int .i64 (t + 1 : Nat))
                        simpa [natsV, List.map_set] using h
                    case measure => simp [intOf]; omega
            · obtain rfl : n = j := by omega
              go_wp2
              go_ret
              exact ⟨_, rfl, by rw [← evenTo_all]; exact O3.out, T3.out⟩
set_option maxRecDepth 100000 in
set_option maxHeartbeats 4000000 in
theorem even_none (a : Option Addr) (len cap m : Nat) (u : Nat → Bool) (w : World) (hl : len ≤ 1048576) (hi : Bools w a len u) (hm : cntb u len = m) (h1 : m = 0 ∨ 32768 < m) :
    Calls Try.prog 19 #[.slice a len cap] w fun e w' => ∃ v, e = .returned v ∧ w'.ownsRow w.heap.size 3 1 v len (List.replicate len (.int .i64 0)) ∧ Touch (fun _ => False) w w' := by
  obtain ⟨i0, hin, hz0, hz1, hz2⟩ := info_parts info3
  have HI := hid hi
  have HM := hid hm
  clear hi hm
  go_enter Try.func19, Try.ntmps19
  go_wp2_with (first
    | (at_make; refine wpList_make_full _ rfl _ _ 22 rfl w.heap.size 3 i0 (.int .i64 0) 1 Try.underlying22 hin hz0 hz1 .i64 .i64 _ _ len rfl rfl rfl rfl (by rw [hz2]; omega) (by unfold maxLen; omega) (Nat.le_refl _) ?_))
  intro w2 hown hgrow
  rw [toList_madeCells_one] at hown
  have T2 : Hid (Touch (fun _ => False) w w2) := (Touch.refl _ w).grown hgrow (fun k e => by simp at e)
  have O2 := hid hown
  have I2 := hid (HI.out.new T2.out)
  clear hown hgrow HI
  go_wp2_with fail
  go_loop [4, 16] (fun c i => ∃ j : Nat, j ≤ len ∧ i = .int .i64 j ∧ c = .int .i64 (cntb u j : Nat)) (fun _ i => len - (intOf i).toNat)
  case atStart => exact ⟨0, Nat.zero_le _, rfl, rfl⟩
  case round =>
    obtain ⟨j, hj, rfl, rfl⟩ := hrel
    have hcl := cntb_le u j
    by_cases hlt : j < len
    · rcases I2.out with h | ⟨b, o, ha, hb, hcell⟩
      · omega
      · subst ha
        have d0 := hcell j hlt
        clear hcell
        cases hu : u j
        · rw [hu] at d0
          have HU := hid hu
          clear hu
          go_wp2
          go_round
          case rel => exact ⟨j + 1, by omega, by go_num, by rw [cntb, HU.out]; rfl⟩
          case measure => simp [intOf]; omega
        · rw [hu] at d0
          have HU := hid hu
          clear hu
          go_wp2
          go_round
          case rel => exact ⟨j + 1, by omega, by go_num, by rw [cntb, HU.out]; go_num⟩
          case measure => simp [intOf]; omega
    · obtain rfl : j = len := by omega
      rw [HM.out]
      rcases h1 with h | h
      · have q1 : ((m : Int) == 0) = true := by simp; omega
        clear h
        go_wp2
        go_ret
        exact ⟨_, rfl, O2.out, T2.out⟩
      · have q1 : ((m : Int) == 0) = false := by simp; omega
        have q2 : (32768 : Int) < (m : Int) := by omega
        go_wp2
        go_ret
        exact ⟨_, rfl, O2.out, T2.out⟩

end Go.Proofs.Ytokelpnmeknncaa
