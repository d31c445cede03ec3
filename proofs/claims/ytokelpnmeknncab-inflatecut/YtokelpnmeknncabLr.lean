/- The document's Length and Distance of any number. -/
import Derived.Test.YtokelpnmeknncabLd
import Derived.Test.YtokelpnmeknncabRd
import Derived.BigQuiet
namespace Go.Proofs.Ytokelpnmeknncab
open Go.RowKit

set_option maxRecDepth 10000 in
theorem more_any (x : Nat) (w : World) (h1 : 257 ≤ x) (h : x < 285) : Calls Try.prog 30 #[.int .i64 (x : Nat)] w fun e w' => e = .returned (.int .i64 (lb x : Nat)) ∧ w' = w := by
  by_cases hx : x < 265
  · have e : lb x = 0 := by unfold lb; rw [if_pos (.inl hx)]
    rw [e]
    go_enter Try.func30, Try.ntmps30
    go_wp2
    go_ret
    exact ⟨rfl, rfl⟩
  · have e : ((lb x : Nat) : Int) = ((x : Int) - 261) / 4 := by unfold lb; rw [if_neg (by omega)]; omega
    have HE := hid e
    clear e
    go_enter Try.func30, Try.ntmps30
    go_wp2
    go_ret
    refine ⟨?_, rfl⟩
    rw [HE.out]
    rfl

set_option maxRecDepth 10000 in
theorem wide_any (x : Nat) (w : World) (h : x < 30) : Calls Try.prog 31 #[.int .i64 (x : Nat)] w fun e w' => e = .returned (.int .i64 (db x : Nat)) ∧ w' = w := by
  by_cases hx : x < 4
  · have e : db x = 0 := by unfold db; rw [if_pos hx]
    rw [e]
    go_enter Try.func31, Try.ntmps31
    go_wp2
    go_ret
    exact ⟨rfl, rfl⟩
  · have e : ((db x : Nat) : Int) = (x : Int) / 2 - 1 := by unfold db; rw [if_neg (by omega)]; omega
    have HE := hid e
    clear e
    go_enter Try.func31, Try.ntmps31
    go_wp2
    go_ret
    refine ⟨?_, rfl⟩
    rw [HE.out]
    rfl

theorem rlen_out (x : Int) (w : World) (h : x < 257 ∨ 285 < x) : Calls Try.prog 17 #[.int .i64 x] w fun e w' => e = .returned (.tuple #[.int .i64 0, .int .i64 0, .bool false]) ∧ w' = w := by
  rcases h with h | h
  · go_enter Try.func17, Try.ntmps17
    go_wp2
    go_ret3
    exact ⟨rfl, rfl⟩
  · have h' : ¬ x < 257 := by omega
    go_enter Try.func17, Try.ntmps17
    go_wp2
    go_ret3
    exact ⟨rfl, rfl⟩

theorem rlen_last (w : World) : Calls Try.prog 17 #[.int .i64 285] w fun e w' => e = .returned (.tuple #[.int .i64 258, .int .i64 0, .bool true]) ∧ w' = w := by
  go_enter Try.func17, Try.ntmps17
  go_wp2
  go_ret3
  exact ⟨rfl, rfl⟩

theorem ll_le : ∀ s, s ≤ 28 → ll s ≤ 300 := by decide
theorem dl_le : ∀ s, s ≤ 30 → dl s ≤ 40000 := by decide
theorem lb_le (s : Nat) (h : s < 285) : lb s ≤ 5 := by unfold lb; split <;> omega
theorem db_le (s : Nat) (h : s < 30) : db s ≤ 13 := by unfold db; split <;> omega

theorem sum_val (a e m : Nat) (ha : a ≤ 40000) (he : e ≤ 13) (hm : a + 2 ^ e = m) : wrap64 ((a : Int) + wrap64 (2 ^ e)) = (m : Int) := by
  have h1 : (2 : Int) ^ e = ((2 ^ e : Nat) : Int) := by simp
  have h2 : 2 ^ e ≤ 2 ^ 13 := Nat.pow_le_pow_right (by decide) he
  rw [h1]
  generalize 2 ^ e = y at *
  unfold wrap64
  omega

set_option maxRecDepth 10000 in
set_option maxHeartbeats 1000000 in
theorem rlen_in (x : Nat) (w : World) (h : 257 ≤ x) (h2 : x < 285) : Calls Try.prog 17 #[.int .i64 (x : Nat)] w fun e w' => e = .returned (.tuple #[.int .i64 (lenN x : Nat), .int .i64 (lb x : Nat), .bool true]) ∧ w' = w := by
  have e : lenN x = ll (x - 257) := by unfold lenN; rw [if_neg (by omega)]
  rw [e]
  clear e
  have hne : ((x : Int) == 285) = false := by simp; omega
  go_enter Try.func17, Try.ntmps17
  go_wp2_with fail
  go_loop [5, 6] (fun l i => ∃ k : Nat, 257 ≤ k ∧ k ≤ x ∧ i = .int .i64 (k : Nat) ∧ l = .int .i64 (ll (k - 257) : Nat)) (fun _ i => x - (intOf i).toNat)
  case atStart => exact ⟨257, by omega, h, rfl, rfl⟩
  case round =>
    obtain ⟨k, hk1, hk2, rfl, rfl⟩ := hrel
    by_cases hlt : k < x
    · have hl := ll_le (k - 257) (by omega)
      have hb := lb_le k (by omega)
      have hst : ll (k - 257) + 2 ^ lb k = ll (k + 1 - 257) := by
        rw [show k + 1 - 257 = (k - 257) + 1 by omega, ll, show 257 + (k - 257) = k by omega]
      have hsv := sum_val (ll (k - 257)) (lb k) _ (by omega) (by omega) hst
      have HSV := hid hsv
      clear hst hsv
      go_wp2_with fail
      refine (more_any k w hk1 (by omega)).mono ?_
      rintro e w1 ⟨rfl, rfl⟩
      generalize lb k = b at *
      generalize ll (k - 257) = a at *
      go_wp2_with fail
      exact ⟨⟨k + 1, by omega, by omega, by go_num, by rw [HSV.out]⟩, by simp [intOf]; omega⟩
    · obtain rfl : k = x := by omega
      go_wp2_with fail
      refine (more_any k w hk1 h2).mono ?_
      rintro e w1 ⟨rfl, rfl⟩
      go_wp2
      go_ret3
      exact ⟨rfl, rfl⟩

theorem rdist_out (x : Int) (w : World) (h : x < 0 ∨ 29 < x) : Calls Try.prog 19 #[.int .i64 x] w fun e w' => e = .returned (.tuple #[.int .i64 0, .int .i64 0, .bool false]) ∧ w' = w := by
  rcases h with h | h
  · go_enter Try.func19, Try.ntmps19
    go_wp2
    go_ret3
    exact ⟨rfl, rfl⟩
  · have h' : ¬ x < 0 := by omega
    go_enter Try.func19, Try.ntmps19
    go_wp2
    go_ret3
    exact ⟨rfl, rfl⟩

set_option maxRecDepth 10000 in
set_option maxHeartbeats 1000000 in
theorem rdist_in (x : Nat) (w : World) (h2 : x ≤ 29) : Calls Try.prog 19 #[.int .i64 (x : Nat)] w fun e w' => e = .returned (.tuple #[.int .i64 (dl x : Nat), .int .i64 (db x : Nat), .bool true]) ∧ w' = w := by
  go_enter Try.func19, Try.ntmps19
  go_wp2_with fail
  go_loop [5, 6] (fun l i => ∃ k : Nat, k ≤ x ∧ i = .int .i64 (k : Nat) ∧ l = .int .i64 (dl k : Nat)) (fun _ i => x - (intOf i).toNat)
  case atStart => exact ⟨0, by omega, rfl, rfl⟩
  case round =>
    obtain ⟨k, hk2, rfl, rfl⟩ := hrel
    by_cases hlt : k < x
    · have hl := dl_le k (by omega)
      have hb := db_le k (by omega)
      have hst : dl k + 2 ^ db k = dl (k + 1) := rfl
      have hsv := sum_val (dl k) (db k) _ (by omega) (by omega) hst
      have HSV := hid hsv
      clear hst hsv
      go_wp2_with fail
      refine (wide_any k w (by omega)).mono ?_
      rintro e w1 ⟨rfl, rfl⟩
      generalize db k = b at *
      generalize dl k = a at *
      go_wp2_with fail
      exact ⟨⟨k + 1, by omega, by go_num, by rw [HSV.out]⟩, by simp [intOf]; omega⟩
    · obtain rfl : k = x := by omega
      go_wp2_with fail
      refine (wide_any k w (by omega)).mono ?_
      rintro e w1 ⟨rfl, rfl⟩
      go_wp2
      go_ret3
      exact ⟨rfl, rfl⟩

/-- What both say of any number. -/
def LenSays (x : Int) (e : Ending) : Prop := ∃ a b : Int, ∃ ok : Bool, e = .returned (.tuple #[.int .i64 a, .int .i64 b, .bool ok]) ∧ ((¬ (257 ≤ x ∧ x ≤ 285) ∧ a = 0 ∧ b = 0 ∧ ok = false) ∨ (257 ≤ x ∧ x ≤ 285 ∧ a = (lenN x.toNat : Nat) ∧ b = (lb x.toNat : Nat) ∧ ok = true))
def DistSays (x : Int) (e : Ending) : Prop := ∃ a b : Int, ∃ ok : Bool, e = .returned (.tuple #[.int .i64 a, .int .i64 b, .bool ok]) ∧ ((¬ (0 ≤ x ∧ x ≤ 29) ∧ a = 0 ∧ b = 0 ∧ ok = false) ∨ (0 ≤ x ∧ x ≤ 29 ∧ a = (dl x.toNat : Nat) ∧ b = (db x.toNat : Nat) ∧ ok = true))

theorem len_any (x : Int) (w : World) : Calls Try.prog 16 #[.int .i64 x] w fun e w' => LenSays x e ∧ w' = w := by
  by_cases h : 257 ≤ x ∧ x ≤ 285
  · obtain ⟨n, rfl⟩ := Int.eq_ofNat_of_zero_le (show 0 ≤ x by omega)
    refine (len_in n w (by omega) (by omega)).mono ?_
    rintro e w' ⟨rfl, rfl⟩
    exact ⟨⟨_, _, _, rfl, .inr ⟨h.1, h.2, rfl, rfl, rfl⟩⟩, rfl⟩
  · refine (len_out x w (by omega)).mono ?_
    rintro e w' ⟨rfl, rfl⟩
    exact ⟨⟨_, _, _, rfl, .inl ⟨h, rfl, rfl, rfl⟩⟩, rfl⟩

theorem rlen_any (x : Int) (w : World) : Calls Try.prog 17 #[.int .i64 x] w fun e w' => LenSays x e ∧ w' = w := by
  by_cases h : 257 ≤ x ∧ x ≤ 285
  · obtain ⟨n, rfl⟩ := Int.eq_ofNat_of_zero_le (show 0 ≤ x by omega)
    by_cases h5 : n = 285
    · subst h5
      refine (rlen_last w).mono ?_
      rintro e w' ⟨rfl, rfl⟩
      exact ⟨⟨_, _, _, rfl, .inr ⟨h.1, h.2, rfl, rfl, rfl⟩⟩, rfl⟩
    · refine (rlen_in n w (by omega) (by omega)).mono ?_
      rintro e w' ⟨rfl, rfl⟩
      exact ⟨⟨_, _, _, rfl, .inr ⟨h.1, h.2, rfl, rfl, rfl⟩⟩, rfl⟩
  · refine (rlen_out x w (by omega)).mono ?_
    rintro e w' ⟨rfl, rfl⟩
    exact ⟨⟨_, _, _, rfl, .inl ⟨h, rfl, rfl, rfl⟩⟩, rfl⟩

theorem dist_any (x : Int) (w : World) : Calls Try.prog 18 #[.int .i64 x] w fun e w' => DistSays x e ∧ w' = w := by
  by_cases h : 0 ≤ x ∧ x ≤ 29
  · obtain ⟨n, rfl⟩ := Int.eq_ofNat_of_zero_le (show 0 ≤ x by omega)
    refine (dist_in n w (by omega)).mono ?_
    rintro e w' ⟨rfl, rfl⟩
    exact ⟨⟨_, _, _, rfl, .inr ⟨h.1, h.2, rfl, rfl, rfl⟩⟩, rfl⟩
  · refine (dist_out x w (by omega)).mono ?_
    rintro e w' ⟨rfl, rfl⟩
    exact ⟨⟨_, _, _, rfl, .inl ⟨h, rfl, rfl, rfl⟩⟩, rfl⟩

theorem rdist_any (x : Int) (w : World) : Calls Try.prog 19 #[.int .i64 x] w fun e w' => DistSays x e ∧ w' = w := by
  by_cases h : 0 ≤ x ∧ x ≤ 29
  · obtain ⟨n, rfl⟩ := Int.eq_ofNat_of_zero_le (show 0 ≤ x by omega)
    refine (rdist_in n w (by omega)).mono ?_
    rintro e w' ⟨rfl, rfl⟩
    exact ⟨⟨_, _, _, rfl, .inr ⟨h.1, h.2, rfl, rfl, rfl⟩⟩, rfl⟩
  · refine (rdist_out x w (by omega)).mono ?_
    rintro e w' ⟨rfl, rfl⟩
    exact ⟨⟨_, _, _, rfl, .inl ⟨h, rfl, rfl, rfl⟩⟩, rfl⟩
end Go.Proofs.Ytokelpnmeknncab
