/- The document's Even. -/
import Derived.Test.YtokelpnmeknncaaEv
namespace Go.Proofs.Ytokelpnmeknncaa
open Go.RowKit

theorem lt_used (u : Nat → Bool) (n j : Nat) (h : n < j) (hu : u n = true) : cntb u n + 1 ≤ cntb u j := by
  have := cntb_mono u (n + 1) (j - (n + 1))
  rw [show n + 1 + (j - (n + 1)) = j by omega, cntb, hu] at this
  exact this

set_option maxRecDepth 100000 in
set_option maxHeartbeats 4000000 in
theorem refeven_any (a : Option Addr) (len cap m k : Nat) (u : Nat → Bool) (w : World) (hl : len ≤ 1048576) (hi : Bools w a len u) (hm : cntb u len = m) (h1 : 1 ≤ m) (h2 : m ≤ 32768) (hk : 2 ^ k ≤ m) (hk2 : m < 2 ^ (k + 1)) :
    Calls Try.prog 20 #[.slice a len cap] w fun e w' => ∃ v, e = .returned v ∧ w'.ownsRow w.heap.size 3 1 v len (natsV ((List.range len).map (evenLen u m k))) ∧ Touch (fun _ => False) w w' := by
  obtain ⟨i0, hin, hz0, hz1, hz2⟩ := info_parts info3
  have hk15 : k ≤ 15 := by
    rcases Nat.lt_or_ge 15 k with h | h
    · have : 2 ^ 16 ≤ 2 ^ k := Nat.pow_le_pow_right (by decide) h
      omega
    · exact h
  have hk0 : k = 0 ↔ m = 1 := by
    constructor
    · intro h; rw [h] at hk2; omega
    · intro h
      rcases Nat.eq_zero_or_pos k with h' | h'
      · exact h'
      · have : 2 ^ 1 ≤ 2 ^ k := Nat.pow_le_pow_right (by decide) h'
        omega
  have HI := hid hi
  have HM := hid hm
  have HK := hid hk
  have HK2 := hid hk2
  have HK0 := hid hk0
  clear hi hm hk hk2 hk0
  go_enter Try.func20, Try.ntmps20
  go_wp2_with fail
  go_loop [3, 4] (fun c i => ∃ j : Nat, j ≤ len ∧ i = .int .i64 j ∧ c = .int .i64 (cntb u j : Nat)) (fun _ i => len - (intOf i).toNat)
  case atStart => exact ⟨0, Nat.zero_le _, rfl, rfl⟩
  case round =>
    obtain ⟨j, hj, rfl, rfl⟩ := hrel
    have hcl := cntb_le u j
    by_cases hlt : j < len
    · rcases HI.out with h | ⟨b, o, ha, hb, hcell⟩
      · omega
      · subst ha
        have d0 := hcell j hlt
        clear hcell
        cases hu : u j
        · rw [hu] at d0
          have HU := hid hu
          clear hu
          go_wp2
          go_round
          case rel => exact ⟨j + 1, by omega, by go_num, by rw [cntb, HU.out]; rfl⟩
          case measure => simp [intOf]; omega
        · rw [hu] at d0
          have HU := hid hu
          clear hu
          go_wp2
          go_round
          case rel => exact ⟨j + 1, by omega, by go_num, by rw [cntb, HU.out]; go_num⟩
          case measure => simp [intOf]; omega
    · obtain rfl : j = len := by omega
      rw [HM.out]
      have q1 : ((m : Int) == 0) = false := by simp; omega
      have q2 : ¬ (32768 : Int) < (m : Int) := by omega
      clear hcl
      go_wp2_with (first
        | (at_make; refine wpList_make_full _ rfl _ _ 22 rfl w.heap.size 3 i0 (.int .i64 0) 1 Try.underlying22 hin hz0 hz1 .i64 .i64 _ _ j rfl rfl rfl rfl (by rw [hz2]; omega) (by unfold maxLen; omega) (Nat.le_refl _) ?_))
      intro w2 hown hgrow
      rw [toList_madeCells_one] at hown
      have T2 : Hid (Touch (fun _ => False) w w2) := (Touch.refl _ w).grown hgrow (fun k e => by simp at e)
      have O2 := hid hown
      clear hown hgrow
      go_wp2_with fail
      go_loopw [6] (fun i wr => ∃ t : Nat, t ≤ k ∧ i = .int .i64 t ∧ wr = w2) (fun i _ => k - (intOf i).toNat)
      case atStart => exact ⟨0, Nat.zero_le _, rfl, rfl⟩
      case round =>
        obtain ⟨t, ht, rfl, rfl⟩ := hrel
        have hsh := shl_two t (by omega)
        obtain ⟨P, hP⟩ : ∃ P, 2 ^ (t + 1) = P := ⟨_, rfl⟩
        rw [hP] at hsh
        by_cases htk : t < k
        · have hle : (P : Int) ≤ (m : Int) := by
            have : 2 ^ (t + 1) ≤ 2 ^ k := Nat.pow_le_pow_right (by decide) (by omega)
            have := HK.out
            omega
          clear hP
          go_wp2
          go_roundw
          case rel => exact ⟨t + 1, by omega, by go_num, by first | rfl | trivial⟩
          case measure => simp [intOf]; omega
        · obtain rfl : t = k := by omega
          have hgt : ¬ (P : Int) ≤ (m : Int) := by have := HK2.out; omega
          have HP := hid hP
          have hPm : m < P := by omega
          have hPb : P ≤ 65536 := by have h : 2 ^ (t + 1) ≤ 2 ^ 16 := Nat.pow_le_pow_right (by decide) (by omega); omega
          clear hP
          by_cases hm1 : m = 1
          · have ht0 := HK0.out.2 hm1
            subst hm1 ht0
            obtain rfl : P = 2 := HP.out.symm
            clear hsh hgt hPm hPb HK HK2 HK0 q1 q2 h1 h2
            go_wp2_with fail
            go_loopw [8, 9] (fun se i wr => ∃ n : Nat, n ≤ j ∧ i = .int .i64 n ∧ se = .int .i64 (cntb u n : Nat) ∧ wr.ownsRow w.heap.size 3 1 (.slice (some ⟨w.heap.size, 0, none⟩) j j) j (natsV (evenTo u j 1 0 n)) ∧ Touch (fun _ => False) w wr) (fun _ i _ => j - (intOf i).toNat)
            case atStart => exact ⟨0, Nat.zero_le _, rfl, rfl, by rw [evenTo_zero]; exact O2.out, T2.out⟩
            case round =>
              obtain ⟨n, hn, rfl, rfl, ho, htt⟩ := hrel
              have O3 := hid ho
              have T3 := hid htt
              have I3 := hid (HI.out.new htt)
              clear ho htt O2 T2
              by_cases hnl : n < j
              · rcases I3.out with h | ⟨b, o, ha, hb, hcell⟩
                · omega
                · subst ha
                  have d0 := hcell n hnl
                  clear hcell
                  obtain ⟨z1, z2⟩ := row_zero O3.out (s := n) (by simp [evenTo, hnl])
                  have hcn := cntb_le u n
                  cases hu : u n
                  · rw [hu] at d0
                    have HU := hid hu
                    clear hu
                    go_wp2
                    go_roundw
                    case rel => exact ⟨n + 1, by omega, by go_num, by rw [cntb, HU.out]; rfl, by rw [evenTo_skip u j _ _ n HU.out]; exact O3.out, T3.out⟩
                    case measure => simp [intOf]; omega
                  · rw [hu] at d0
                    have HU := hid hu
                    clear hu
                    obtain ⟨c, hc⟩ : ∃ c, cntb u n = c := ⟨_, rfl⟩
                    rw [hc] at hcn ⊢
                    have HCC := hid hc
                    have HLT := hid (lt_used u n j hnl HU.out)
                    by_cases hs : c < 1
                    · have hev : evenLen u 1 0 n = 1 := by rw [evenLen, if_neg (by rw [HU.out]; decide), hc, if_pos (by omega)]; rfl
                      have HEV := hid hev
                      have hs' : (c : Int) < 1 := by omega
                      clear hev hc hs
                      go_wp2
                      go_roundw
                      case rel =>
                        refine ⟨n + 1, by omega, by go_num, by rw [cntb, HU.out, HCC.out]; go_num, ?_, (T3.out.setCell (fun h => by simp at h) _).setCell (fun h => by simp at h) _⟩
                        rw [evenTo_set, HEV.out]
                        have h := own3_set' (own3_set' O3.out n (.int .i64 (1 + 1))) n (.int .i64 (1 : Nat))
                        simpa [natsV, List.map_set] using h
                      case measure => simp [intOf]; omega

                    · exfalso
                      have h1 := HLT.out
                      have h2 := HM.out
                      have h3 := HCC.out
                      omega
              · obtain rfl : n = j := by omega
                go_wp2
                go_ret
                exact ⟨_, rfl, by rw [← evenTo_all]; exact O3.out, T3.out⟩
          · have q3 : ((m : Int) == 1) = false := by simp; omega
            have ht0 : t ≠ 0 := fun h => hm1 (HK0.out.1 h)
            clear hm1
            go_wp2_with fail
            go_loopw [8, 9] (fun se i wr => ∃ n : Nat, n ≤ j ∧ i = .int .i64 n ∧ se = .int .i64 (cntb u n : Nat) ∧ wr.ownsRow w.heap.size 3 1 (.slice (some ⟨w.heap.size, 0, none⟩) j j) j (natsV (evenTo u j m t n)) ∧ Touch (fun _ => False) w wr) (fun _ i _ => j - (intOf i).toNat)
            case atStart => exact ⟨0, Nat.zero_le _, rfl, rfl, by rw [evenTo_zero]; exact O2.out, T2.out⟩
            case round =>
              obtain ⟨n, hn, rfl, rfl, ho, htt⟩ := hrel
              have O3 := hid ho
              have T3 := hid htt
              have I3 := hid (HI.out.new htt)
              clear ho htt O2 T2
              by_cases hnl : n < j
              · rcases I3.out with h | ⟨b, o, ha, hb, hcell⟩
                · omega
                · subst ha
                  have d0 := hcell n hnl
                  clear hcell
                  obtain ⟨z1, z2⟩ := row_zero O3.out (s := n) (by simp [evenTo, hnl])
                  have hcn := cntb_le u n
                  cases hu : u n
                  · rw [hu] at d0
                    have HU := hid hu
                    clear hu
                    go_wp2
                    go_roundw
                    case rel => exact ⟨n + 1, by omega, by go_num, by rw [cntb, HU.out]; rfl, by rw [evenTo_skip u j _ _ n HU.out]; exact O3.out, T3.out⟩
                    case measure => simp [intOf]; omega
                  · rw [hu] at d0
                    have HU := hid hu
                    clear hu
                    obtain ⟨c, hc⟩ : ∃ c, cntb u n = c := ⟨_, rfl⟩
                    rw [hc] at hcn ⊢
                    have HCC := hid hc
                    have HLT := hid (lt_used u n j hnl HU.out)
                    by_cases hs : c < P - m
                    · have hev : evenLen u m t n = t := by rw [evenLen, if_neg (by rw [HU.out]; decide), hc, HP.out, if_pos hs]; omega
                      have HEV := hid hev
                      have hs' : (c : Int) < (P : Int) - (m : Int) := by omega
                      clear hev hc hs
                      go_wp2
                      go_roundw
                      case rel =>
                        refine ⟨n + 1, by omega, by go_num, by rw [cntb, HU.out, HCC.out]; go_num, ?_, (T3.out.setCell (fun h => by simp at h) _).setCell (fun h => by simp at h) _⟩
                        rw [evenTo_set, HEV.out]
                        have h := own3_set' (own3_set' O3.out n (.int .i64 ((t : Int) + 1))) n (.int .i64 (t : Nat))
                        simpa [natsV, List.map_set] using h
                      case measure => simp [intOf]; omega

                    · have hev : evenLen u m t n = t + 1 := by rw [evenLen, if_neg (by rw [HU.out]; decide), hc, HP.out, if_neg hs]
                      have HEV := hid hev
                      have hs' : ¬ (c : Int) < (P : Int) - (m : Int) := by omega
                      clear hev hc hs
                      go_wp2
                      go_roundw
                      case rel =>
                        refine ⟨n + 1, by omega, by go_num, by rw [cntb, HU.out, HCC.out]; go_num, ?_, T3.out.setCell (fun h => by simp at h) _⟩
                        rw [evenTo_set, HEV.out]
                        have h := own3_set' O3.out n (.int .i64 (t + 1 : Nat))
                        simpa [natsV, List.map_set] using h
                      case measure => simp [intOf]; omega
              · obtain rfl : n = j := by omega
                go_wp2
                go_ret
                exact ⟨_, rfl, by rw [← evenTo_all]; exact O3.out, T3.out⟩
end Go.Proofs.Ytokelpnmeknncaa
