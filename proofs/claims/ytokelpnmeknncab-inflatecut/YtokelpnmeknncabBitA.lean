/- The writer's inner function: one bit more; condition: fewer than two to the fiftieth bits were put. -/
import Derived.Test.YtokelpnmeknncabChecked
import Derived.WalkSpells
import Derived.WalkLawsBesides
import Derived.BigRegion
import Derived.Maps.AppendAt
import Derived.Test.YtokelpnmeknncabWo
namespace Go.Proofs.Ytokelpnmeknncab
open Go.RowKit
theorem Try.info5 : (Try.prog.info? 5).map (fun i => (i.zero, i.size, i.bytes)) = some (some (.int .u8 0), 1, 1) := by kernel_rfl

theorem add_zero (g j : Nat) : (⟨g, 0, none⟩ : Addr).add j = ⟨g, j, none⟩ := by
  unfold Addr.add
  split <;> simp_all

/-! ### What the model reckons -/
theorem or_bit (x m : Nat) (c : Int) (hm : m < 8) (hx : x < 2 ^ m) (hc0 : 0 ≤ c) (hc1 : c ≤ 1) :
    bits .or .u8 (x : Int) (wrap64 (c * 2 ^ m) % 256) = ((x + (c == 1).toNat * 2 ^ m : Nat) : Int) := by
  have hp : (2 : Int) ^ m ≤ 128 := by
    rcases (show m = 0 ∨ m = 1 ∨ m = 2 ∨ m = 3 ∨ m = 4 ∨ m = 5 ∨ m = 6 ∨ m = 7 by omega) with rfl | rfl | rfl | rfl | rfl | rfl | rfl | rfl <;> decide
  have hpn : 2 ^ m ≤ 128 := by
    rcases (show m = 0 ∨ m = 1 ∨ m = 2 ∨ m = 3 ∨ m = 4 ∨ m = 5 ∨ m = 6 ∨ m = 7 by omega) with rfl | rfl | rfl | rfl | rfl | rfl | rfl | rfl <;> decide
  rcases (show c = 0 ∨ c = 1 by omega) with rfl | rfl
  · have e : (wrap64 (0 * 2 ^ m) % 256 : Int) = ((0 : Nat) : Int) := by simp [wrap64]
    rw [e, u8_or_nat x 0 (by omega) (by decide)]
    simp
  · have e : (wrap64 (1 * 2 ^ m) % 256 : Int) = ((2 ^ m : Nat) : Int) := by
      have : ((2 ^ m : Nat) : Int) = (2 : Int) ^ m := by simp
      rw [Int.one_mul, this]
      unfold wrap64
      have : (0 : Int) < 2 ^ m := by rw [← this]; exact_mod_cast Nat.pow_pos (by decide)
      omega
    rw [e, u8_or_nat x (2 ^ m) (by omega) (by omega), Nat.or_comm, nat_join m (2 ^ m) x (by simp) hx]
    simp [Nat.add_comm]

set_option maxHeartbeats 400000 in
theorem bit_mid (b g n len cap : Nat) (x : Nat) (c : Int) (w : World)
    (h0 : w.cell? ⟨b, 0, none⟩ = some (.slice (some ⟨g, 0, none⟩) len cap))
    (h1 : w.cell? ⟨b, 1, none⟩ = some (.int .i64 n)) (hf1 : w.frozen? ⟨b, 1, none⟩ = false)
    (hx : w.cell? ⟨g, n / 8, none⟩ = some (.int .u8 x)) (hfx : w.frozen? ⟨g, n / 8, none⟩ = false)
    (hbg : b ≠ g) (hn : n / 8 < len) (hlen : n < 1125899906842624) (hmod : ((n : Int) % 8 == 0) = false) :
    Calls Try.prog 27 #[.pointer (some ⟨b, 0, none⟩), .int .i64 c] w fun e w' => e = .returned (.tuple #[]) ∧
      w' = ((w.setCell ⟨g, n / 8, none⟩ (.int .u8 (bits .or .u8 (x : Int) (wrap64 (c * 2 ^ (n % 8)) % 256)))).setCell ⟨b, 1, none⟩ (.int .i64 (n + 1))).drew := by
  go_enter Try.func27, Try.ntmps27
  go_wp2
  go_region
  all_goals go_wp2
  all_goals go_end0
  all_goals exact ⟨rfl, rfl⟩

set_option maxHeartbeats 400000 in
theorem bit_new (b n : Nat) (v : Value) (xs : List Value) (c : Int) (w : World) (hv : (∃ g cap, v = .slice (some ⟨g, 0, none⟩) (n / 8) cap) ∨ v = .slice none 0 0)
    (hown : w.ownsRow 0 5 1 v (n / 8) xs)
    (hb : w.heap[b]? = some (.cells #[v, .int .i64 n] 30 (0, 0)))
    (hlen : n < 1125899906842624) (hmod : ((n : Int) % 8 == 0) = true) :
    Calls Try.prog 27 #[.pointer (some ⟨b, 0, none⟩), .int .i64 c] w fun e w' => e = .returned (.tuple #[]) ∧
      ∃ w1 g cap, w1.ownsRow 0 5 1 (.slice (some ⟨g, 0, none⟩) (n / 8 + 1) cap) (n / 8 + 1) (xs ++ [.int .u8 0]) ∧ (w.alloc (.cells #[.int .u8 0] 5)).grownBy w1 v.ownBlock ∧ (v.ownBlock = some g ∨ g = w.heap.size + 1) ∧
      w' = (((w1.setCell ⟨b, 0, none⟩ (.slice (some ⟨g, 0, none⟩) (n / 8 + 1) cap)).setCell ⟨g, n / 8, none⟩ (.int .u8 (bits .or .u8 0 (wrap64 (c * 2 ^ (n % 8)) % 256)))).setCell ⟨b, 1, none⟩ (.int .i64 (n + 1))).drew := by
  obtain ⟨i0, hi, hz0, hz1, hz2⟩ := info_parts Try.info5
  have hblt : b < w.heap.size := lt_of_block hb
  have hbv : v.ownBlock ≠ some b := by
    intro e
    rcases hown.2 with ⟨rfl, _⟩ | ⟨g, cap, cur, rfl, _, hh, _⟩
    · simp [Value.ownBlock] at e
    · simp [Value.ownBlock] at e
      subst e
      rw [hb] at hh
      simp at hh
  have h0 := cell_two0 hb
  have h1 := cell_two1 hb
  have key : ∀ (v' : Value) (w1 : World), w1.ownsRow 0 5 1 v' (n / 8 + 1) (xs ++ [.int .u8 0]) → (w.alloc (.cells #[.int .u8 0] 5)).grownBy w1 v.ownBlock →
      ∃ g cap, v' = .slice (some ⟨g, 0, none⟩) (n / 8 + 1) cap ∧ g ≠ b ∧ w1.heap[b]? = some (.cells #[v, .int .i64 n] 30 (0, 0)) ∧ w1.cell? ⟨g, n / 8, none⟩ = some (.int .u8 0) ∧ w1.frozen? ⟨g, n / 8, none⟩ = false := by
    intro v' w1 hown' hgrow
    have hb1 : w1.heap[b]? = some (.cells #[v, .int .i64 n] 30 (0, 0)) := by
      rw [hgrow.block b (by simp; omega) (fun e => hbv e.symm), Below.heap_alloc _ _ _ hblt]; exact hb
    have hxl : xs.length = n / 8 := by have := hown.1; omega
    rcases hown'.2 with ⟨_, h⟩ | ⟨g, cap, cur, rfl, _, hh, hle, _, hcs, htk⟩
    · omega
    · refine ⟨g, cap, rfl, ?_, hb1, ?_, by simp [World.frozen?, hh]⟩
      · rintro rfl
        rw [hb1] at hh
        simp at hh
      · have := hown'.cells (g := g) rfl (n / 8) (.int .u8 0) (by rw [List.getElem?_append_right (by omega)]; simp [hxl])
        rwa [add_zero] at this
  clear hb hbv hblt
  have c1 : ∀ (j : Nat) (u : Value), [Value.int IntKind.u8 0][j]? = some u → (w.alloc (Obj.cells #[Value.int IntKind.u8 0] 5)).cell? ((⟨w.heap.size, 0, none⟩ : Addr).add j) = some u := by
    intro j u hj
    match j, hj with
    | 0, hj => simp at hj; subst hj; simp [Addr.add]
  rcases hv with ⟨g, cap, rfl⟩ | rfl
  all_goals
    have KEY : Hid _ := key
    clear key
    go_enter Try.func27, Try.ntmps27
    go_wp2_with (first
      | (at_builtin; refine wpList_append_own_at _ rfl _ _ 28 rfl 0 5 i0 (.int .u8 0) 1 1 Try.underlying28 hi hz0 hz1 hz2 rfl (by decide) _ _ _ rfl (hown.alloc _) ⟨w.heap.size, 0, none⟩ 1 1 [.int .u8 0] rfl rfl c1 (by intro u hu; simp at hu; subst hu; rfl) (by unfold maxLen; omega) (by omega) (Nat.zero_le _) ?_)
      | go_in)
    intro v' w1 hown' hgrow _ hwhere
    obtain ⟨g1, cap1, hv', hg1, hb1, hx1, hfx1⟩ := KEY.out v' w1 hown' hgrow
    rw [hv'] at hown' hwhere ⊢
    have H3 : Hid _ := hwhere
    clear hwhere
    clear KEY c1 hown h0 h1
    have k0 := cell_two0 hb1
    have k1 := cell_two1 hb1
    have kf0 := free_two (i := 0) hb1
    have kf1 := free_two (i := 1) hb1
    have hn : n / 8 < n / 8 + 1 := by omega
    have H1 : Hid _ := hown'
    have H2 : Hid _ := hgrow
    clear hown' hgrow hv'
    go_wp2
    go_region
    all_goals go_wp2
    all_goals go_end0
    all_goals exact ⟨rfl, w1, g1, cap1, H1.out, H2.out, by have := H3.out; simp [Value.ownBlock] at this ⊢; omega, rfl⟩

end Go.Proofs.Ytokelpnmeknncab
