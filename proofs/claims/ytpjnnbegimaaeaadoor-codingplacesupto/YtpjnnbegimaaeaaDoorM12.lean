/- Texts of this proof, one behind the other: what each says stands ahead of it. -/
import Derived.Test.YtpjnnbegimaaeaaDoorM9
/- The document's unit and utf8; conditions: those told. -/
namespace Go.Proofs.YtpjnnbegimaaeaaDoor
open Go.RowKit

theorem unit_val (x y : Nat) (hx : x < 256) (hy : y < 256) : wrap64 (wrap64 (x : Int) + wrap64 (256 * wrap64 (y : Int))) = ((x + 256 * y : Nat) : Int) := by
  rw [IntWalk.wrap64_in (x : Int) (by omega), IntWalk.wrap64_in (y : Int) (by omega), IntWalk.wrap64_in (256 * (y : Int)) (by omega), IntWalk.wrap64_in _ (by omega)]
  omega
set_option maxRecDepth 100000 in
theorem docUnit_two (s : ByteArray) (i : Nat) (w : World) (hi : i + 1 < s.size) (hs : s.size ≤ 1099511627776) : Calls Tryd.prog 41 #[.string s, .int .i64 i, .int .i64 2] w fun e w' => e = .returned (.int .i64 ((byN s i + 256 * byN s (i + 1) : Nat) : Int)) ∧ Touch (fun _ => False) w w' := by
  obtain ⟨j, hj⟩ : ∃ j, j = i + 1 := ⟨_, rfl⟩
  rw [← hj] at hi ⊢
  have z1 : IntKind.i64.wrap ((i : Int) + 1) = (j : Int) := by rw [IntKind.wrap_i64]; omega
  have q1 : (i : Int) < (s.size : Int) := by omega
  have q2 : (j : Int) < (s.size : Int) := by omega
  have q3 : i < s.size := by omega
  have HB1 := hid (by_get s i q3)
  have HB2 := hid (by_get s j hi)
  have HV := hid (unit_val (byN s i) (byN s j) (by_lt s i) (by_lt s j))
  clear hj
  go_enter Tryd.func41, Tryd.ntmps41
  go_wp2_with fail
  go_quiet (fail)
  go_wp2
  go_ret
  exact ⟨by rw [HB1.out, HB2.out, HV.out]; rfl, (Touch.refl _ w).drewN _⟩
set_option maxRecDepth 100000 in
theorem docUnit_three (s : ByteArray) (i : Nat) (w : World) (hi : i + 1 < s.size) (hs : s.size ≤ 1099511627776) : Calls Tryd.prog 41 #[.string s, .int .i64 i, .int .i64 3] w fun e w' => e = .returned (.int .i64 ((byN s (i + 1) + 256 * byN s i : Nat) : Int)) ∧ Touch (fun _ => False) w w' := by
  obtain ⟨j, hj⟩ : ∃ j, j = i + 1 := ⟨_, rfl⟩
  rw [← hj] at hi ⊢
  have z1 : IntKind.i64.wrap ((i : Int) + 1) = (j : Int) := by rw [IntKind.wrap_i64]; omega
  have q1 : (i : Int) < (s.size : Int) := by omega
  have q2 : (j : Int) < (s.size : Int) := by omega
  have q3 : i < s.size := by omega
  have HB1 := hid (by_get s i q3)
  have HB2 := hid (by_get s j hi)
  have HV := hid (unit_val (byN s j) (byN s i) (by_lt s j) (by_lt s i))
  clear hj
  go_enter Tryd.func41, Tryd.ntmps41
  go_wp2_with fail
  go_quiet (fail)
  go_wp2
  go_ret
  exact ⟨by rw [HB1.out, HB2.out, HV.out]; rfl, (Touch.refl _ w).drewN _⟩

set_option maxRecDepth 100000 in
set_option maxHeartbeats 8000000 in
theorem docUtf8_any (s : ByteArray) (a : Nat) (w : World) (ha : a < s.size) (hs : s.size ≤ 1099511627776) : Calls Tryd.prog 40 #[.string s, .int .i64 a] w fun e w' => e = .returned (.tuple #[.int .i64 (dk8 s a).1, .int .i64 ((dk8 s a).2 : Nat)]) ∧ w = w' := by
  have haI : (a : Int) < (s.size : Int) := by omega
  have hb := by_get s a ha
  have hbl := by_lt s a
  have HB := hid hb
  have hw : wrap64 ((s[a].toNat : Nat) : Int) = (byN s a : Nat) := by rw [hb, IntWalk.wrap64_in _ (by omega)]
  obtain ⟨R, hR⟩ : ∃ R, dk8 s a = R := ⟨_, rfl⟩
  have HR := hid hR
  unfold dk8 at HR
  rw [hR]
  clear hR hb
  go_enter Tryd.func40, Tryd.ntmps40
  go_upto_region 1 with fail
  go_cut [6] (fun v wd => v = .int .i64 (byN s a : Nat) ∧ w = wd)
  case first =>
    go_wp2
    go_meet
    case rel => exact ⟨by rw [hw], rfl⟩
  obtain ⟨rfl, rfl⟩ := hcut
  clear hw HB
  generalize byN s a = b at *
  by_cases h1 : b < 128
  · have HE := hid (show ((b : Int), 1) = R by rw [← HR.out, if_pos h1])
    have h1I : (b : Int) < 128 := by omega
    go_wp2
    go_ret2
    exact ⟨by rw [← HE.out]; rfl, rfl⟩
  have h1I : ¬ ((b : Int) < 128) := by omega
  rw [if_neg h1] at HR
  by_cases h2 : 194 ≤ b ∧ b ≤ 223
  · have HL := hid (show dkLead b = (1, b - 192) by unfold dkLead; rw [if_pos h2])
    rw [HL.out] at HR
    have HE := hid (show dkGo s a 1 1 1 (b - 192) = R from HR.out)
    obtain ⟨h5, h6⟩ := h2
    have h5I : (194 : Int) ≤ (b : Int) := by omega
    have h6I : (b : Int) ≤ 223 := by omega
    have hvb : b - 192 < 32 := by omega
    clear HR HL
    go_wp2_with fail
    go_loopg [8, 9] 1 (fun gk v8 v9 wq => ∃ k v : Nat, k + gk = 1 + 1 ∧ 1 ≤ k ∧ v8 = .int .i64 (v : Nat) ∧ v9 = .int .i64 (k : Nat) ∧ ((k = 1 → v < 32) ∧ (k = 2 → v < 2048) ∧ (k = 3 → v < 131072)) ∧ dkGo s a 1 gk k v = R ∧ w = wq)
    case atStart => exact ⟨1, b - 192, by omega, Nat.le_refl _, by congr 1; omega, rfl, ⟨fun _ => hvb, by omega, by omega⟩, HE.out, rfl⟩
    case round =>
      obtain ⟨k, v, hk, hk1, rfl, rfl, hvk, hdk, rfl⟩ := hrel
      have HK := hid hdk
      clear hdk HE
      by_cases hle : k ≤ 1
      · obtain ⟨gk, rfl⟩ : ∃ f, gk = f + 1 := ⟨gk - 1, by omega⟩
        have HS := hid HK.out
        unfold dkGo at HS
        have hleI : (k : Int) ≤ 1 := by omega
        clear HK
        by_cases hend : s.size ≤ a + k
        · have HE := hid (show (-1, k) = R by rw [← HS.out, if_pos hend])
          have hendI : (s.size : Int) ≤ (a : Int) + (k : Int) := by omega
          go_wp2
          go_ret2
          exact ⟨by rw [← HE.out]; rfl, rfl⟩
        rw [if_neg hend] at HS
        have hendI : (a : Int) + (k : Int) < (s.size : Int) := by omega
        have HB := hid (by_get s (a + k) (by omega))
        have hyl := by_lt s (a + k)
        have HGK := hid hk
        go_upto_region 19 with fail
        go_cut [10] (fun v wd => v = .int .i64 (byN s (a + k) : Nat) ∧ w = wd)
        case first =>
          go_wp2
          go_meet
          case rel => exact ⟨by rw [HB.out, IntWalk.wrap64_in _ (by omega)], rfl⟩
        obtain ⟨rfl, rfl⟩ := hcut
        clear HB hend hendI
        generalize byN s (a + k) = y at *
        by_cases hy1 : y < 128
        · have HE := hid (show (-1, k) = R by rw [← HS.out, if_pos (.inl hy1)])
          have hyI : (y : Int) < 128 := by omega
          go_wp2
          go_ret2
          exact ⟨by rw [← HE.out]; rfl, rfl⟩
        by_cases hy2 : 191 < y
        · have HE := hid (show (-1, k) = R by rw [← HS.out, if_pos (.inr hy2)])
          have hyI : ¬ ((y : Int) < 128) := by omega
          have hyJ : 191 < (y : Int) := by omega
          go_wp2
          go_ret2
          exact ⟨by rw [← HE.out]; rfl, rfl⟩
        rw [if_neg (by omega)] at HS
        have hyI : ¬ ((y : Int) < 128) := by omega
        have hyJ : ¬ (191 < (y : Int)) := by omega
        obtain ⟨u, hu⟩ : ∃ u, u = 64 * v + y - 128 := ⟨_, rfl⟩
        rw [← hu] at HS
        have hub : (k = 1 → u < 2048) ∧ (k = 2 → u < 131072) ∧ u < 8388608 := by omega
        go_upto_region 22 with fail
        go_cut [8] (fun v wd => v = .int .i64 (u : Nat) ∧ w = wd)
        case first =>
          go_wp2
          go_meet
          case rel => exact ⟨by congr 1; omega, rfl⟩
        obtain ⟨rfl, rfl⟩ := hcut
        clear hu hyI hyJ hyl hy1 hy2 hvk
        by_cases hk2 : k = 1
        · subst hk2
          have hu2 : u < 2048 := hub.1 rfl
          clear hub
          obtain rfl : gk = 0 := by have := HGK.out; omega
          go_wp2_with fail
          go_loopg [11, 12, 13] 0 (fun g2 v11 v12 v13 wq => ∃ i : Nat, i + g2 = 1 ∧ 1 ≤ i ∧ v13 = .int .i64 (i : Nat) ∧ ((i = 1 ∧ v11 = .int .i64 (u : Nat) ∧ v12 = .int .i64 (u : Nat)) ∨ (i = 2 ∧ v11 = .int .i64 ((64 * u : Nat) : Int) ∧ v12 = .int .i64 ((64 * u + 63 : Nat) : Int)) ∨ (i = 3 ∧ v11 = .int .i64 ((4096 * u : Nat) : Int) ∧ v12 = .int .i64 ((4096 * u + 4095 : Nat) : Int))) ∧ w = wq)
          case atStart => exact ⟨1, by omega, Nat.le_refl _, rfl, .inl ⟨rfl, rfl, rfl⟩, rfl⟩
          case round =>
            obtain ⟨i, hig, hi1, rfl, hcs, rfl⟩ := hrel
            rcases hcs with ⟨rfl, rfl, rfl⟩ | ⟨rfl, rfl, rfl⟩ | ⟨rfl, rfl, rfl⟩
            · have HN := hid (show dkGo s a 1 0 2 u = R by rw [← HS.out, if_neg (fun q => by simp [dkBad] at q)])
              have e1 : ¬ (55296 ≤ (u : Int)) := by omega
              go_wp2
              go_roundg 0
              case measure => omega
              case rel => exact ⟨2, u, by omega, by omega, rfl, rfl, ⟨by omega, by omega, by omega⟩, HN.out, rfl⟩
            · exact absurd hig (by omega)
            · exact absurd hig (by omega)
        · rw [if_neg (fun q => hk2 q.1)] at HS
          have hkd : decide ((k : Int) = 1) = false := decide_eq_false (by omega)
          have hkd2 : ((k : Int) == 1) = false := by rw [beq_eq_false_iff_ne]; omega
          go_wp2
          go_roundg gk
          case measure => omega
          case rel => exact ⟨k + 1, u, by have := HGK.out; omega, by omega, rfl, by go_num, ⟨by omega, by omega, by omega⟩, HS.out, rfl⟩
      · obtain rfl : gk = 0 := by omega
        have HE := hid (show ((v : Int), 1 + 1) = R from HK.out)
        have hleI : ¬ ((k : Int) ≤ 1) := by omega
        go_wp2
        go_ret2
        exact ⟨by rw [← HE.out]; rfl, rfl⟩
  by_cases h3 : 224 ≤ b ∧ b ≤ 239
  · have HL := hid (show dkLead b = (2, b - 224) by unfold dkLead; rw [if_neg h2, if_pos h3])
    rw [HL.out] at HR
    have HE := hid (show dkGo s a 2 2 1 (b - 224) = R from HR.out)
    obtain ⟨h5, h6⟩ := h3
    have h5I : (224 : Int) ≤ (b : Int) := by omega
    have h6I : (b : Int) ≤ 239 := by omega
    have hvb : b - 224 < 32 := by omega
    clear HR HL
    go_wp2_with fail
    go_loopg [8, 9] 2 (fun gk v8 v9 wq => ∃ k v : Nat, k + gk = 2 + 1 ∧ 1 ≤ k ∧ v8 = .int .i64 (v : Nat) ∧ v9 = .int .i64 (k : Nat) ∧ ((k = 1 → v < 32) ∧ (k = 2 → v < 2048) ∧ (k = 3 → v < 131072)) ∧ dkGo s a 2 gk k v = R ∧ w = wq)
    case atStart => exact ⟨1, b - 224, by omega, Nat.le_refl _, by congr 1; omega, rfl, ⟨fun _ => hvb, by omega, by omega⟩, HE.out, rfl⟩
    case round =>
      obtain ⟨k, v, hk, hk1, rfl, rfl, hvk, hdk, rfl⟩ := hrel
      have HK := hid hdk
      clear hdk HE
      by_cases hle : k ≤ 2
      · obtain ⟨gk, rfl⟩ : ∃ f, gk = f + 1 := ⟨gk - 1, by omega⟩
        have HS := hid HK.out
        unfold dkGo at HS
        have hleI : (k : Int) ≤ 2 := by omega
        clear HK
        by_cases hend : s.size ≤ a + k
        · have HE := hid (show (-1, k) = R by rw [← HS.out, if_pos hend])
          have hendI : (s.size : Int) ≤ (a : Int) + (k : Int) := by omega
          go_wp2
          go_ret2
          exact ⟨by rw [← HE.out]; rfl, rfl⟩
        rw [if_neg hend] at HS
        have hendI : (a : Int) + (k : Int) < (s.size : Int) := by omega
        have HB := hid (by_get s (a + k) (by omega))
        have hyl := by_lt s (a + k)
        have HGK := hid hk
        go_upto_region 19 with fail
        go_cut [10] (fun v wd => v = .int .i64 (byN s (a + k) : Nat) ∧ w = wd)
        case first =>
          go_wp2
          go_meet
          case rel => exact ⟨by rw [HB.out, IntWalk.wrap64_in _ (by omega)], rfl⟩
        obtain ⟨rfl, rfl⟩ := hcut
        clear HB hend hendI
        generalize byN s (a + k) = y at *
        by_cases hy1 : y < 128
        · have HE := hid (show (-1, k) = R by rw [← HS.out, if_pos (.inl hy1)])
          have hyI : (y : Int) < 128 := by omega
          go_wp2
          go_ret2
          exact ⟨by rw [← HE.out]; rfl, rfl⟩
        by_cases hy2 : 191 < y
        · have HE := hid (show (-1, k) = R by rw [← HS.out, if_pos (.inr hy2)])
          have hyI : ¬ ((y : Int) < 128) := by omega
          have hyJ : 191 < (y : Int) := by omega
          go_wp2
          go_ret2
          exact ⟨by rw [← HE.out]; rfl, rfl⟩
        rw [if_neg (by omega)] at HS
        have hyI : ¬ ((y : Int) < 128) := by omega
        have hyJ : ¬ (191 < (y : Int)) := by omega
        obtain ⟨u, hu⟩ : ∃ u, u = 64 * v + y - 128 := ⟨_, rfl⟩
        rw [← hu] at HS
        have hub : (k = 1 → u < 2048) ∧ (k = 2 → u < 131072) ∧ u < 8388608 := by omega
        go_upto_region 22 with fail
        go_cut [8] (fun v wd => v = .int .i64 (u : Nat) ∧ w = wd)
        case first =>
          go_wp2
          go_meet
          case rel => exact ⟨by congr 1; omega, rfl⟩
        obtain ⟨rfl, rfl⟩ := hcut
        clear hu hyI hyJ hyl hy1 hy2 hvk
        by_cases hk2 : k = 1
        · subst hk2
          have hu2 : u < 2048 := hub.1 rfl
          clear hub
          obtain rfl : gk = 1 := by have := HGK.out; omega
          go_wp2_with fail
          go_loopg [11, 12, 13] 1 (fun g2 v11 v12 v13 wq => ∃ i : Nat, i + g2 = 2 ∧ 1 ≤ i ∧ v13 = .int .i64 (i : Nat) ∧ ((i = 1 ∧ v11 = .int .i64 (u : Nat) ∧ v12 = .int .i64 (u : Nat)) ∨ (i = 2 ∧ v11 = .int .i64 ((64 * u : Nat) : Int) ∧ v12 = .int .i64 ((64 * u + 63 : Nat) : Int)) ∨ (i = 3 ∧ v11 = .int .i64 ((4096 * u : Nat) : Int) ∧ v12 = .int .i64 ((4096 * u + 4095 : Nat) : Int))) ∧ w = wq)
          case atStart => exact ⟨1, by omega, Nat.le_refl _, rfl, .inl ⟨rfl, rfl, rfl⟩, rfl⟩
          case round =>
            obtain ⟨i, hig, hi1, rfl, hcs, rfl⟩ := hrel
            rcases hcs with ⟨rfl, rfl, rfl⟩ | ⟨rfl, rfl, rfl⟩ | ⟨rfl, rfl, rfl⟩
            · go_wp2
              go_roundg (gk - 1)
              case measure => omega
              case rel => exact ⟨2, by omega, by omega, rfl, .inr (.inl ⟨rfl, by first | rfl | (congr 1; omega), by first | rfl | (congr 1; omega)⟩), rfl⟩
            · by_cases e1 : 64 * u + 63 < 2048
              · have HN := hid (show (-1, 1) = R by rw [← HS.out, if_pos ⟨by first | trivial | rfl, by simp [dkBad]; omega⟩])
                have f1 : 64 * (u : Int) + 63 < 2048 := by omega
                go_wp2
                go_ret2
                exact ⟨by rw [← HN.out]; rfl, rfl⟩
              · have f1 : ¬ (64 * (u : Int) + 63 < 2048) := by omega
                by_cases e2 : 55296 ≤ 64 * u
                · have f2 : 55296 ≤ 64 * (u : Int) := by omega
                  by_cases e3 : 64 * u + 63 ≤ 57343
                  · have HN := hid (show (-1, 1) = R by rw [← HS.out, if_pos ⟨by first | trivial | rfl, by simp [dkBad]; omega⟩])
                    have f3 : 64 * (u : Int) + 63 ≤ 57343 := by omega
                    go_wp2
                    go_ret2
                    exact ⟨by rw [← HN.out]; rfl, rfl⟩
                  · have HN := hid (show dkGo s a 2 1 2 u = R by rw [← HS.out, if_neg (fun q => by simp [dkBad] at q; omega)])
                    have f3 : ¬ (64 * (u : Int) + 63 ≤ 57343) := by omega
                    go_wp2
                    go_roundg 1
                    case measure => omega
                    case rel => exact ⟨2, u, by omega, by omega, rfl, rfl, ⟨by omega, by omega, by omega⟩, HN.out, rfl⟩
                · have HN := hid (show dkGo s a 2 1 2 u = R by rw [← HS.out, if_neg (fun q => by simp [dkBad] at q; omega)])
                  have f2 : ¬ (55296 ≤ 64 * (u : Int)) := by omega
                  go_wp2
                  go_roundg 1
                  case measure => omega
                  case rel => exact ⟨2, u, by omega, by omega, rfl, rfl, ⟨by omega, by omega, by omega⟩, HN.out, rfl⟩
            · exact absurd hig (by omega)
        · rw [if_neg (fun q => hk2 q.1)] at HS
          have hkd : decide ((k : Int) = 1) = false := decide_eq_false (by omega)
          have hkd2 : ((k : Int) == 1) = false := by rw [beq_eq_false_iff_ne]; omega
          go_wp2
          go_roundg gk
          case measure => omega
          case rel => exact ⟨k + 1, u, by have := HGK.out; omega, by omega, rfl, by go_num, ⟨by omega, by omega, by omega⟩, HS.out, rfl⟩
      · obtain rfl : gk = 0 := by omega
        have HE := hid (show ((v : Int), 2 + 1) = R from HK.out)
        have hleI : ¬ ((k : Int) ≤ 2) := by omega
        go_wp2
        go_ret2
        exact ⟨by rw [← HE.out]; rfl, rfl⟩
  by_cases h4 : 240 ≤ b ∧ b ≤ 244
  · have HL := hid (show dkLead b = (3, b - 240) by unfold dkLead; rw [if_neg h2, if_neg h3, if_pos h4])
    rw [HL.out] at HR
    have HE := hid (show dkGo s a 3 3 1 (b - 240) = R from HR.out)
    obtain ⟨h5, h6⟩ := h4
    have h5I : (240 : Int) ≤ (b : Int) := by omega
    have h6I : (b : Int) ≤ 244 := by omega
    have hvb : b - 240 < 32 := by omega
    clear HR HL
    go_wp2_with fail
    go_loopg [8, 9] 3 (fun gk v8 v9 wq => ∃ k v : Nat, k + gk = 3 + 1 ∧ 1 ≤ k ∧ v8 = .int .i64 (v : Nat) ∧ v9 = .int .i64 (k : Nat) ∧ ((k = 1 → v < 32) ∧ (k = 2 → v < 2048) ∧ (k = 3 → v < 131072)) ∧ dkGo s a 3 gk k v = R ∧ w = wq)
    case atStart => exact ⟨1, b - 240, by omega, Nat.le_refl _, by congr 1; omega, rfl, ⟨fun _ => hvb, by omega, by omega⟩, HE.out, rfl⟩
    case round =>
      obtain ⟨k, v, hk, hk1, rfl, rfl, hvk, hdk, rfl⟩ := hrel
      have HK := hid hdk
      clear hdk HE
      by_cases hle : k ≤ 3
      · obtain ⟨gk, rfl⟩ : ∃ f, gk = f + 1 := ⟨gk - 1, by omega⟩
        have HS := hid HK.out
        unfold dkGo at HS
        have hleI : (k : Int) ≤ 3 := by omega
        clear HK
        by_cases hend : s.size ≤ a + k
        · have HE := hid (show (-1, k) = R by rw [← HS.out, if_pos hend])
          have hendI : (s.size : Int) ≤ (a : Int) + (k : Int) := by omega
          go_wp2
          go_ret2
          exact ⟨by rw [← HE.out]; rfl, rfl⟩
        rw [if_neg hend] at HS
        have hendI : (a : Int) + (k : Int) < (s.size : Int) := by omega
        have HB := hid (by_get s (a + k) (by omega))
        have hyl := by_lt s (a + k)
        have HGK := hid hk
        go_upto_region 19 with fail
        go_cut [10] (fun v wd => v = .int .i64 (byN s (a + k) : Nat) ∧ w = wd)
        case first =>
          go_wp2
          go_meet
          case rel => exact ⟨by rw [HB.out, IntWalk.wrap64_in _ (by omega)], rfl⟩
        obtain ⟨rfl, rfl⟩ := hcut
        clear HB hend hendI
        generalize byN s (a + k) = y at *
        by_cases hy1 : y < 128
        · have HE := hid (show (-1, k) = R by rw [← HS.out, if_pos (.inl hy1)])
          have hyI : (y : Int) < 128 := by omega
          go_wp2
          go_ret2
          exact ⟨by rw [← HE.out]; rfl, rfl⟩
        by_cases hy2 : 191 < y
        · have HE := hid (show (-1, k) = R by rw [← HS.out, if_pos (.inr hy2)])
          have hyI : ¬ ((y : Int) < 128) := by omega
          have hyJ : 191 < (y : Int) := by omega
          go_wp2
          go_ret2
          exact ⟨by rw [← HE.out]; rfl, rfl⟩
        rw [if_neg (by omega)] at HS
        have hyI : ¬ ((y : Int) < 128) := by omega
        have hyJ : ¬ (191 < (y : Int)) := by omega
        obtain ⟨u, hu⟩ : ∃ u, u = 64 * v + y - 128 := ⟨_, rfl⟩
        rw [← hu] at HS
        have hub : (k = 1 → u < 2048) ∧ (k = 2 → u < 131072) ∧ u < 8388608 := by omega
        go_upto_region 22 with fail
        go_cut [8] (fun v wd => v = .int .i64 (u : Nat) ∧ w = wd)
        case first =>
          go_wp2
          go_meet
          case rel => exact ⟨by congr 1; omega, rfl⟩
        obtain ⟨rfl, rfl⟩ := hcut
        clear hu hyI hyJ hyl hy1 hy2 hvk
        by_cases hk2 : k = 1
        · subst hk2
          have hu2 : u < 2048 := hub.1 rfl
          clear hub
          obtain rfl : gk = 2 := by have := HGK.out; omega
          go_wp2_with fail
          go_loopg [11, 12, 13] 2 (fun g2 v11 v12 v13 wq => ∃ i : Nat, i + g2 = 3 ∧ 1 ≤ i ∧ v13 = .int .i64 (i : Nat) ∧ ((i = 1 ∧ v11 = .int .i64 (u : Nat) ∧ v12 = .int .i64 (u : Nat)) ∨ (i = 2 ∧ v11 = .int .i64 ((64 * u : Nat) : Int) ∧ v12 = .int .i64 ((64 * u + 63 : Nat) : Int)) ∨ (i = 3 ∧ v11 = .int .i64 ((4096 * u : Nat) : Int) ∧ v12 = .int .i64 ((4096 * u + 4095 : Nat) : Int))) ∧ w = wq)
          case atStart => exact ⟨1, by omega, Nat.le_refl _, rfl, .inl ⟨rfl, rfl, rfl⟩, rfl⟩
          case round =>
            obtain ⟨i, hig, hi1, rfl, hcs, rfl⟩ := hrel
            rcases hcs with ⟨rfl, rfl, rfl⟩ | ⟨rfl, rfl, rfl⟩ | ⟨rfl, rfl, rfl⟩
            · go_wp2
              go_roundg (gk - 1)
              case measure => omega
              case rel => exact ⟨2, by omega, by omega, rfl, .inr (.inl ⟨rfl, by first | rfl | (congr 1; omega), by first | rfl | (congr 1; omega)⟩), rfl⟩
            · go_wp2
              go_roundg (gk - 1)
              case measure => omega
              case rel => exact ⟨3, by omega, by omega, rfl, .inr (.inr ⟨rfl, by first | rfl | (congr 1; omega), by first | rfl | (congr 1; omega)⟩), rfl⟩
            · by_cases e1 : 4096 * u + 4095 < 65536
              · have HN := hid (show (-1, 1) = R by rw [← HS.out, if_pos ⟨by first | trivial | rfl, by simp [dkBad]; omega⟩])
                have f1 : 4096 * (u : Int) + 4095 < 65536 := by omega
                go_wp2
                go_ret2
                exact ⟨by rw [← HN.out]; rfl, rfl⟩
              · have f1 : ¬ (4096 * (u : Int) + 4095 < 65536) := by omega
                by_cases e2 : 1114111 < 4096 * u
                · have HN := hid (show (-1, 1) = R by rw [← HS.out, if_pos ⟨by first | trivial | rfl, by simp [dkBad]; omega⟩])
                  have f2 : 1114111 < 4096 * (u : Int) := by omega
                  go_wp2
                  go_ret2
                  exact ⟨by rw [← HN.out]; rfl, rfl⟩
                · have HN := hid (show dkGo s a 3 2 2 u = R by rw [← HS.out, if_neg (fun q => by simp [dkBad] at q; omega)])
                  have f2 : ¬ (1114111 < 4096 * (u : Int)) := by omega
                  have f3 : 55296 ≤ 4096 * (u : Int) := by omega
                  have f4 : ¬ (4096 * (u : Int) + 4095 ≤ 57343) := by omega
                  go_wp2
                  go_roundg 2
                  case measure => omega
                  case rel => exact ⟨2, u, by omega, by omega, rfl, rfl, ⟨by omega, by omega, by omega⟩, HN.out, rfl⟩
        · rw [if_neg (fun q => hk2 q.1)] at HS
          have hkd : decide ((k : Int) = 1) = false := decide_eq_false (by omega)
          have hkd2 : ((k : Int) == 1) = false := by rw [beq_eq_false_iff_ne]; omega
          go_wp2
          go_roundg gk
          case measure => omega
          case rel => exact ⟨k + 1, u, by have := HGK.out; omega, by omega, rfl, by go_num, ⟨by omega, by omega, by omega⟩, HS.out, rfl⟩
      · obtain rfl : gk = 0 := by omega
        have HE := hid (show ((v : Int), 3 + 1) = R from HK.out)
        have hleI : ¬ ((k : Int) ≤ 3) := by omega
        go_wp2
        go_ret2
        exact ⟨by rw [← HE.out]; rfl, rfl⟩
  have HE := hid (show (-1, 1) = R by rw [← HR.out, show dkLead b = (0, 0) by unfold dkLead; rw [if_neg h2, if_neg h3, if_neg h4]]; rfl)
  rcases (show b < 194 ∨ 244 < b by omega) with h5 | h5
  all_goals
    go_wp2
    go_ret2
    exact ⟨by rw [← HE.out]; rfl, rfl⟩
end Go.Proofs.YtpjnnbegimaaeaaDoor
