/- BitsWrites, its walk: any numbers put in any order; condition: all steps together come to at most eight million bits. -/
import Derived.Test.YtcpjbagljpohnaaWs
import Derived.Test.YtcpjbagljpohnaaWbytes
import Derived.Test.YtcpjbagljpohnaaVal
import Derived.WalkSpells
import Derived.WalkLawsBesides
namespace Go.Proofs.Ytcpjbagljpohnaa
open Go.RowKit

theorem what_eq (a : Int) : (wrap64 (a.tmod 4 + 4)).tmod 4 = a % 4 := by
  have h := Int.tmod_eq_emod (a := a) (b := 4)
  have h0 : -4 < a.tmod 4 ∧ a.tmod 4 < 4 := by rw [h]; split <;> omega
  rw [show wrap64 (a.tmod 4 + 4) = a.tmod 4 + 4 by unfold wrap64; omega, Int.tmod_eq_emod_of_nonneg (by omega), h]
  split <;> omega

set_option maxHeartbeats 400000 in
theorem what_any (a n v : Int) (t : ByteArray) (w : World) :
    Calls Try.prog 11 #[.agg #[.int .i64 a, .int .i64 n, .int .i64 v, .string t]] w fun e w' => e = .returned (.int .i64 (a % 4)) ∧ Touch (fun _ => False) w w' := by
  go_enter Try.func11, Try.ntmps11
  go_wp2
  go_ret
  exact ⟨ret_int (what_eq a), (Touch.refl _ _).alloc _⟩

theorem lb_c1 {w : World} {K : Nat} {a n v : Int} {tx : ByteArray} (h : Lb w K a n v tx) : w.cell? ⟨K, 1, none⟩ = some (.int .i64 n) := by unfold Lb at h; simp [World.cell?, h]
theorem lb_c2 {w : World} {K : Nat} {a n v : Int} {tx : ByteArray} (h : Lb w K a n v tx) : w.cell? ⟨K, 2, none⟩ = some (.int .i64 v) := by unfold Lb at h; simp [World.cell?, h]
theorem lb_c3 {w : World} {K : Nat} {a n v : Int} {tx : ByteArray} (h : Lb w K a n v tx) : w.cell? ⟨K, 3, none⟩ = some (.string tx) := by unfold Lb at h; simp [World.cell?, h]

theorem lb_new {w w' : World} {a n v : Int} {tx : ByteArray} (ht : Touch (fun _ => False) (w.alloc (.cells #[.int .i64 a, .int .i64 n, .int .i64 v, .string tx] 27)) w') : Lb w' w.heap.size a n v tx := by
  unfold Lb
  rw [ht.block w.heap.size (by simp) id]
  show (w.heap.push _)[_]? = _
  simp

theorem ws_at {w0 w w' : World} {b : Nat} {vb : Value} {L M : List Bool} {o : Obj} (h : Ws w0 w b vb L M) (ht : Touch (fun _ => False) (w.alloc o) w') : Ws w0 w' b vb L M :=
  (h.new ((Touch.refl _ w).alloc o)).new ht

theorem bit_val (v : Int) (k : Nat) : Value.int .i64 (bits .and .i64 (v / 2 ^ k) 1) = .int .i64 (((ibit v k).toNat : Nat) : Int) := by
  rw [i64_and1]
  unfold ibit
  rcases Int.emod_two_eq (v / 2 ^ k) with h | h <;> simp [h]

theorem info3 : (Try.prog.info? 3).map (fun i => (i.zero, i.size, i.bytes)) = some (some (.int .i64 0), 1, 8) := by kernel_rfl

def lenOf : Value → Nat
  | .slice _ n _ => n
  | _ => 0

theorem own_len {w : World} {base n : Nat} {e : TypeId} {v : Value} {xs : List Value} (h : w.ownsRow base e 1 v n xs) : lenOf v = n := by
  rcases h.2 with ⟨rfl, rfl⟩ | ⟨g, cap, cur, rfl, _⟩ <;> rfl

theorem pad_less {a : Option Addr} {q c l p : Nat} {v : Value} (h : q = l + p) (hv : lenOf v = q + 1) (hp : p < (8 - l % 8) % 8) : (8 - lenOf v % 8) % 8 < (8 - lenOf (.slice a q c) % 8) % 8 := by
  rw [hv]
  show _ < (8 - q % 8) % 8
  omega

theorem own_form {w : World} {base n : Nat} {e : TypeId} {v : Value} {xs : List Value} (h : w.ownsRow base e 1 v n xs) : ∃ a c, v = .slice a n c ∧ (a = none → n = 0 ∧ c = 0) := by
  rcases h.2 with ⟨rfl, rfl⟩ | ⟨g, cap, cur, rfl, _⟩
  · exact ⟨none, 0, rfl, fun _ => ⟨rfl, rfl⟩⟩
  · exact ⟨some ⟨g, 0, none⟩, cap, rfl, fun h => by simp at h⟩

/-- How many bits the first steps come to at most. -/
def cost (T : Nat → ByteArray) : Nat → Nat
  | 0 => 0
  | i + 1 => cost T i + 40 + 8 * (T i).size

theorem cost_mono (T : Nat → ByteArray) (i : Nat) : ∀ d, cost T i ≤ cost T (i + d)
  | 0 => Nat.le_refl _
  | d + 1 => by have := cost_mono T i d; rw [← Nat.add_assoc, cost]; omega

theorem cost_lt (T : Nat → ByteArray) {i n : Nat} (h : i < n) : cost T i + 40 + 8 * (T i).size ≤ cost T n := by
  have := cost_mono T (i + 1) (n - (i + 1))
  rw [show i + 1 + (n - (i + 1)) = n by omega, cost] at this
  exact this

theorem own_zero {w : World} {base n : Nat} {e : TypeId} {v : Value} {xs : List Value} (h : w.ownsRow base e 1 v n xs) : w.ownsRow 0 e 1 v n xs := by
  refine ⟨h.1, ?_⟩
  rcases h.2 with h2 | ⟨g, cap, cur, hv, _, r⟩
  · exact .inl h2
  · exact .inr ⟨g, cap, cur, hv, Nat.zero_le _, r⟩

set_option maxRecDepth 100000 in
set_option maxHeartbeats 8000000 in
theorem writes_core (b o len cap : Nat) (w : World) (A N V : Nat → Int) (T : Nat → ByteArray) (hb : b < w.heap.size) (hl : len ≤ 140737488351232) (hcost : cost T len ≤ 8388608)
    (hc : ∀ i, i < len → w.cell? ⟨b, o + i * 4, none⟩ = some (.int .i64 (A i)) ∧ w.cell? ⟨b, o + i * 4 + 1, none⟩ = some (.int .i64 (N i)) ∧ w.cell? ⟨b, o + i * 4 + 2, none⟩ = some (.int .i64 (V i)) ∧ w.cell? ⟨b, o + i * 4 + 3, none⟩ = some (.string (T i))) :
    Calls Try.prog 4 #[.slice (some ⟨b, o, none⟩) len cap] w fun e w' => e = .returned (.bool true) ∧ Below w.heap.size w w' := by
  obtain ⟨i0, hi, hz0, hz1, hz2⟩ := info_parts info3
  have HC := hid hc
  clear hc
  go_enter Try.func4, Try.ntmps4
  go_wp2_with fail
  refine (speaks_any _).mono ?_
  rintro e w1 ⟨rfl, hb0⟩
  have HB := hid hb0
  clear hb0
  go_wp2_with fail
  go_loopw [5, 6] (fun vb i wr => ∃ (k : Nat) (L : List Bool), k ≤ len ∧ L.length ≤ cost T k ∧ i = .int .i64 k ∧ Ws w wr w1.heap.size vb L L) (fun _ i _ => len - (intOf i).toNat)
  case atStart => exact ⟨0, [], Nat.zero_le _, Nat.zero_le _, rfl, ws_new HB.out⟩
  case round =>
    obtain ⟨k, L, hk, hL, rfl, hws⟩ := hrel
    have X := hid hws
    clear hws
    by_cases hlt : k < len
    · obtain ⟨c0, c1, c2, c3⟩ := HC.out k hlt
      rw [← X.out.bel.cell (p := ⟨b, _, none⟩) hb] at c0 c1 c2 c3
      have hck := cost_lt T hlt
      have hcs : cost T (k + 1) = cost T k + 40 + 8 * (T k).size := rfl
      have HCS := hid hcs
      clear hcs
      generalize A k = a at *
      generalize N k = n at *
      generalize V k = v at *
      generalize T k = tx at *
      by_cases hp2 : a % 4 = 2
      · have q2 : (a % 4 == 2) = true := by simp [hp2]
        clear hp2
        by_cases hf : 0 ≤ n ∧ n ≤ 32
        · obtain ⟨m, rfl⟩ := Int.eq_ofNat_of_zero_le hf.1
          have hm : m ≤ 32 := by omega
          have hd0 : ¬ (m : Int) < 0 := by omega
          have hd1 : ¬ (32 : Int) < (m : Int) := by omega
          clear hf
          go_wp2_with fail
          refine (what_any a _ v tx _).mono ?_
          rintro e w3 ⟨rfl, hto⟩
          have Y := hid (ws_at X.out hto)
          have K := hid (lb_new hto)
          have d1 := lb_c1 K.out
          have d2 := lb_c2 K.out
          have d3 := lb_c3 K.out
          clear X hto c0 c1 c2 c3
          generalize wr.heap.size = KB at K d1 d2 d3 ⊢
          go_wp2_with fail
          refine (code_yes _ _ v m _ Y.out.wr (by omega) (by omega)).mono ?_
          rintro e w4 ⟨rfl, s⟩
          have Y2 := hid (Y.out.step s)
          have K2 := hid (K.out.step Y.out.wr s)
          clear Y K s d1 d2 d3
          have d1 := lb_c1 K2.out
          have d2 := lb_c2 K2.out
          go_wp2_with fail
          refine (code_nil v _ _).mono ?_
          rintro e w5 ⟨rfl, rfl⟩
          clear d1 d2
          go_wp2_with fail
          go_loopw [5, 9] (fun vb i u => ∃ j : Nat, j ≤ m ∧ i = .int .i64 (m - 1 - j) ∧ Ws w u w1.heap.size vb (L ++ (List.range m).map (fun i => ibit v (m - 1 - i))) (L ++ (List.range j).map (fun i => ibit v (m - 1 - i))) ∧ Lb u KB a m v tx) (fun _ i _ => (intOf i + 1).toNat)
          case atStart => exact ⟨0, Nat.zero_le _, by go_num, by simpa using Y2.out, K2.out⟩
          case round =>
            obtain ⟨j, hj, rfl, hy, hkk⟩ := hrel
            have Y3 := hid hy
            have K3 := hid hkk
            have d2 := lb_c2 hkk
            clear hy hkk Y2 K2
            by_cases hjm : j < m
            · have hpos : (0 : Int) ≤ (m : Int) - 1 - j := by omega
              have hML : (L ++ (List.range j).map (fun i => ibit v (m - 1 - i))).length ≤ 8388608 := by simp; omega
              go_wp2_with (first
                | (at_builtin; refine wpList_append_own _ rfl _ _ 43 rfl w.heap.size 3 i0 (.int .i64 0) 1 8 Try.underlying43 hi hz0 hz1 hz2 rfl (by decide) _ _ _ rfl (Y3.out.own.alloc _) ⟨wr.heap.size, 0, none⟩ 1 1 [_] rfl rfl (cell_one_new _ _ _) (by intro u hu; simp at hu; subst hu; rfl) (by unfold maxLen; omega) (by omega) (by have := Y3.out.bel.size; simp; omega) ?_)
                | go_in)
              intro v' w9 hown' hgrow _
              have Y4 := hid (Y3.out.app _ (bit_val v (m - 1 - j)) (by simpa using hown') hgrow)
              have K4 := hid (K3.out.app Y3.out _ hgrow)
              clear Y3 K3 d2 hown' hgrow
              go_wp2
              go_roundw
              case rel => exact ⟨j + 1, by omega, by go_num, by rw [List.range_succ, List.map_append, ← List.append_assoc]; exact Y4.out, K4.out⟩
              case measure => simp [intOf]; omega
            · obtain rfl : j = m := by omega
              go_wp2
              go_roundw
              case rel => exact ⟨k + 1, _, by omega, by rw [HCS.out]; simp; omega, by go_num, Y3.out⟩
              case measure => simp [intOf]; omega
        · by_cases h0 : n < 0
          · go_wp2_with fail
            refine (what_any a _ v tx _).mono ?_
            rintro e w3 ⟨rfl, hto⟩
            have Y := hid (ws_at X.out hto)
            have K := hid (lb_new hto)
            have d1 := lb_c1 K.out
            have d2 := lb_c2 K.out
            have d3 := lb_c3 K.out
            clear X hto c0 c1 c2 c3
            generalize wr.heap.size = KB at K d1 d2 d3 ⊢
            go_wp2_with fail
            refine (code_no _ v n _ (by omega)).mono ?_
            rintro e w4 ⟨rfl, rfl⟩
            have Y2 := hid Y.out
            have K2 := hid K.out
            clear Y K d1 d2 d3
            have d1 := lb_c1 K2.out
            have d2 := lb_c2 K2.out
            go_wp2_with fail
            refine (code_nil v _ _).mono ?_
            rintro e w5 ⟨rfl, rfl⟩
            clear d1 d2
            go_wp2_with fail
            go_loopw [5, 9] (fun vb i u => i = .int .i64 (-1) ∧ Ws w u w1.heap.size vb L L) (fun _ i _ => 0)
            case atStart => exact ⟨rfl, Y2.out⟩
            case round =>
              obtain ⟨rfl, hy⟩ := hrel
              have Y3 := hid hy
              clear hy Y2 K2
              go_wp2
              go_roundw
              case rel => exact ⟨k + 1, L, by omega, by rw [HCS.out]; omega, by go_num, Y3.out⟩
              case measure => simp [intOf]; omega
          · have h1 : 32 < n := by omega
            go_wp2_with fail
            refine (what_any a _ v tx _).mono ?_
            rintro e w3 ⟨rfl, hto⟩
            have Y := hid (ws_at X.out hto)
            have K := hid (lb_new hto)
            have d1 := lb_c1 K.out
            have d2 := lb_c2 K.out
            have d3 := lb_c3 K.out
            clear X hto c0 c1 c2 c3
            generalize wr.heap.size = KB at K d1 d2 d3 ⊢
            go_wp2_with fail
            refine (code_no _ v n _ (by omega)).mono ?_
            rintro e w4 ⟨rfl, rfl⟩
            have Y2 := hid Y.out
            have K2 := hid K.out
            clear Y K d1 d2 d3
            have d1 := lb_c1 K2.out
            have d2 := lb_c2 K2.out
            go_wp2_with fail
            refine (code_nil v _ _).mono ?_
            rintro e w5 ⟨rfl, rfl⟩
            clear d1 d2
            go_wp2_with fail
            go_loopw [5, 9] (fun vb i u => i = .int .i64 (-1) ∧ Ws w u w1.heap.size vb L L) (fun _ i _ => 0)
            case atStart => exact ⟨rfl, Y2.out⟩
            case round =>
              obtain ⟨rfl, hy⟩ := hrel
              have Y3 := hid hy
              clear hy Y2 K2
              go_wp2
              go_roundw
              case rel => exact ⟨k + 1, L, by omega, by rw [HCS.out]; omega, by go_num, Y3.out⟩
              case measure => simp [intOf]; omega
      · have q2 : (a % 4 == 2) = false := by simp [hp2]
        clear hp2
        by_cases hp3 : a % 4 = 3
        · have q3 : (a % 4 == 3) = true := by simp [hp3]
          clear hp3
          rcases (show n < 0 ∨ (0 ≤ n ∧ 32 < n) ∨ (0 ≤ n ∧ n ≤ 32) by omega) with hn0 | ⟨hn0, hn1⟩ | ⟨hn0, hn1⟩
          all_goals
            go_wp2_with fail
            refine (what_any a _ v tx _).mono ?_
            rintro e w3 ⟨rfl, hto⟩
            have Y := hid (ws_at X.out hto)
            have K := hid (lb_new hto)
            have d1 := lb_c1 K.out
            have d2 := lb_c2 K.out
            have d3 := lb_c3 K.out
            clear X hto c0 c1 c2 c3
            generalize wr.heap.size = KB at K d1 d2 d3 ⊢
            go_wp2_with fail
            refine (wbytes_any _ _ tx _ Y.out.wr (by omega)).mono ?_
            rintro e w4 ⟨rfl, s⟩
            have Y2 := hid (Y.out.step s)
            have K2 := hid (K.out.step Y.out.wr s)
            clear Y K s d1 d2 d3
            have d3 := lb_c3 K2.out
            go_wp2_with fail
            refine (wbytes_nil tx _).mono ?_
            rintro e w5 ⟨rfl, rfl⟩
            clear d3
            go_wp2_with fail
            go_loopw [5] (fun vb u => ∃ p : Nat, p ≤ (8 - L.length % 8) % 8 ∧ Ws w u w1.heap.size vb (Bt.behind L tx) (L ++ List.replicate p false) ∧ Lb u KB a n v tx) (fun vb _ => (8 - lenOf vb % 8) % 8)
            case atStart => exact ⟨0, Nat.zero_le _, by simpa using Y2.out, K2.out⟩
            case round =>
              obtain ⟨p, hp, hy, hkk⟩ := hrel
              obtain ⟨q, hq⟩ : ∃ q, (L ++ List.replicate p false).length = q := ⟨_, rfl⟩
              have hql : q = L.length + p := by rw [← hq]; simp
              have hyo := hy.own
              rw [hq] at hyo
              obtain ⟨av, cv, hform, _⟩ := own_form hyo
              subst hform
              have Y3 := hid hy
              have K3 := hid hkk
              have OQ := hid hyo
              have HQ := hid hq
              have HQL := hid hql
              have hqb : q ≤ 8388608 := by omega
              clear hy hkk Y2 K2 hyo hq hql
              by_cases hpl : p < (8 - L.length % 8) % 8
              · have ht : ((q : Int) % 8 != 0) = true := by have := HQL.out; simp; omega
                go_wp2_with (first
                  | (at_builtin; refine wpList_append_own _ rfl _ _ 43 rfl w.heap.size 3 i0 (.int .i64 0) 1 8 Try.underlying43 hi hz0 hz1 hz2 rfl (by decide) _ _ _ rfl (OQ.out.alloc _) ⟨wr.heap.size, 0, none⟩ 1 1 [_] rfl rfl (cell_one_new _ _ _) (by intro u hu; simp at hu; subst hu; rfl) (by unfold maxLen; omega) (by omega) (by have := Y3.out.bel.size; simp; omega) ?_)
                  | go_in)
                intro v' w9 hown' hgrow _
                have Y4 := hid (Y3.out.app (c := false) _ rfl (by rw [HQ.out]; exact hown') hgrow)
                have K4 := hid (K3.out.app Y3.out _ hgrow)
                have hln2 := hid (own_len hown')
                clear Y3 K3 hown' hgrow
                go_wp2
                go_roundw
                case rel => exact ⟨p + 1, by omega, by rw [List.replicate_succ', ← List.append_assoc]; exact Y4.out, K4.out⟩
                case measure => exact pad_less (HQL.out) hln2.out hpl
              · have ht : ((q : Int) % 8 != 0) = false := by have := HQL.out; simp; omega
                obtain rfl : p = (8 - L.length % 8) % 8 := by omega
                have Y4 := hid (show Ws w wr w1.heap.size _ (Bt.behind L tx) (L ++ Bt.pad L) from Y3.out)
                clear Y3 OQ
                go_wp2_with fail
                go_loopw [5, 10] (fun vb i u => ∃ j : Nat, j ≤ 8 * tx.size ∧ i = .int .i64 j ∧ Ws w u w1.heap.size vb (Bt.behind L tx) (L ++ Bt.pad L ++ (List.range j).map (Bt.bitAt tx)) ∧ Lb u KB a n v tx) (fun _ i _ => 8 * tx.size - (intOf i).toNat)
                case atStart => exact ⟨0, Nat.zero_le _, rfl, by simpa using Y4.out, K3.out⟩
                case round =>
                  obtain ⟨j, hj, rfl, hy, hkk⟩ := hrel
                  have Y5 := hid hy
                  have K5 := hid hkk
                  have d3 := lb_c3 hkk
                  clear hy hkk Y4 K3
                  by_cases hjm : j < 8 * tx.size
                  · have hpos : (j : Int) < 8 * (tx.size : Int) := by omega
                    have hML : (L ++ Bt.pad L ++ (List.range j).map (Bt.bitAt tx)).length ≤ 8388608 := by have := (Bt.length_padded L).2; rw [List.length_append, this]; simp; omega
                    go_wp2_with fail
                    refine (rbit_any tx j _ (by omega) (by omega)).mono ?_
                    rintro e w6 ⟨rfl, rfl⟩
                    go_wp2_with (first
                      | (at_builtin; refine wpList_append_own _ rfl _ _ 43 rfl w.heap.size 3 i0 (.int .i64 0) 1 8 Try.underlying43 hi hz0 hz1 hz2 rfl (by decide) _ _ _ rfl (Y5.out.own.alloc _) ⟨w6.heap.size, 0, none⟩ 1 1 [_] rfl rfl (cell_one_new _ _ _) (by intro u hu; simp at hu; subst hu; rfl) (by unfold maxLen; omega) (by omega) (by have := Y5.out.bel.size; simp; omega) ?_)
                      | go_in)
                    intro v' w9 hown' hgrow _
                    have Y6 := hid (Y5.out.app (c := Bt.bitAt tx j) _ rfl (by simpa using hown') hgrow)
                    have K6 := hid (K5.out.app Y5.out _ hgrow)
                    clear Y5 K5 d3 hown' hgrow
                    go_wp2
                    go_roundw
                    case rel => exact ⟨j + 1, by omega, by go_num, by rw [List.range_succ, List.map_append, ← List.append_assoc]; exact Y6.out, K6.out⟩
                    case measure => simp [intOf]; omega
                  · obtain rfl : j = 8 * tx.size := by omega
                    have hpos : ¬ (8 * tx.size : Int) < 8 * (tx.size : Int) := by omega
                    go_wp2
                    go_roundw
                    case rel => exact ⟨k + 1, Bt.behind L tx, by omega, by rw [HCS.out, Bt.length_behind]; omega, by go_num, Y5.out⟩
                    case measure => simp [intOf]; omega
        · have q3 : (a % 4 == 3) = false := by simp [hp3]
          clear hp3
          by_cases hf : 0 ≤ n ∧ n ≤ 32
          · obtain ⟨m, rfl⟩ := Int.eq_ofNat_of_zero_le hf.1
            have hm : m ≤ 32 := by omega
            have hd0 : ¬ (m : Int) < 0 := by omega
            have hd1 : ¬ (32 : Int) < (m : Int) := by omega
            clear hf
            go_wp2_with fail
            refine (what_any a _ v tx _).mono ?_
            rintro e w3 ⟨rfl, hto⟩
            have Y := hid (ws_at X.out hto)
            have K := hid (lb_new hto)
            have d1 := lb_c1 K.out
            have d2 := lb_c2 K.out
            have d3 := lb_c3 K.out
            clear X hto c0 c1 c2 c3
            generalize wr.heap.size = KB at K d1 d2 d3 ⊢
            go_wp2_with fail
            refine (put_yes _ _ v m _ Y.out.wr (by omega) (by omega)).mono ?_
            rintro e w4 ⟨rfl, s⟩
            have Y2 := hid (Y.out.step s)
            have K2 := hid (K.out.step Y.out.wr s)
            clear Y K s d1 d2 d3
            have d1 := lb_c1 K2.out
            have d2 := lb_c2 K2.out
            go_wp2_with fail
            refine (put_nil v _ _).mono ?_
            rintro e w5 ⟨rfl, rfl⟩
            clear d1 d2
            go_wp2_with fail
            go_loopw [5, 11] (fun vb i u => ∃ j : Nat, j ≤ m ∧ i = .int .i64 j ∧ Ws w u w1.heap.size vb (L ++ (List.range m).map (ibit v)) (L ++ (List.range j).map (ibit v)) ∧ Lb u KB a m v tx) (fun _ i _ => m - (intOf i).toNat)
            case atStart => exact ⟨0, Nat.zero_le _, rfl, by simpa using Y2.out, K2.out⟩
            case round =>
              obtain ⟨j, hj, rfl, hy, hkk⟩ := hrel
              have Y3 := hid hy
              have K3 := hid hkk
              have d2 := lb_c2 hkk
              clear hy hkk Y2 K2
              by_cases hjm : j < m
              · have hpos : (j : Int) < (m : Int) := by omega
                have hML : (L ++ (List.range j).map (ibit v)).length ≤ 8388608 := by simp; omega
                go_wp2_with (first
                  | (at_builtin; refine wpList_append_own _ rfl _ _ 43 rfl w.heap.size 3 i0 (.int .i64 0) 1 8 Try.underlying43 hi hz0 hz1 hz2 rfl (by decide) _ _ _ rfl (Y3.out.own.alloc _) ⟨wr.heap.size, 0, none⟩ 1 1 [_] rfl rfl (cell_one_new _ _ _) (by intro u hu; simp at hu; subst hu; rfl) (by unfold maxLen; omega) (by omega) (by have := Y3.out.bel.size; simp; omega) ?_)
                  | go_in)
                intro v' w9 hown' hgrow _
                have Y4 := hid (Y3.out.app _ (bit_val v j) (by simpa using hown') hgrow)
                have K4 := hid (K3.out.app Y3.out _ hgrow)
                clear Y3 K3 d2 hown' hgrow
                go_wp2
                go_roundw
                case rel => exact ⟨j + 1, by omega, by go_num, by rw [List.range_succ, List.map_append, ← List.append_assoc]; exact Y4.out, K4.out⟩
                case measure => simp [intOf]; omega
              · obtain rfl : j = m := by omega
                go_wp2
                go_roundw
                case rel => exact ⟨k + 1, _, by omega, by rw [HCS.out]; simp; omega, by go_num, Y3.out⟩
                case measure => simp [intOf]; omega
          · by_cases h0 : n < 0
            · go_wp2_with fail
              refine (what_any a _ v tx _).mono ?_
              rintro e w3 ⟨rfl, hto⟩
              have Y := hid (ws_at X.out hto)
              have K := hid (lb_new hto)
              have d1 := lb_c1 K.out
              have d2 := lb_c2 K.out
              have d3 := lb_c3 K.out
              clear X hto c0 c1 c2 c3
              generalize wr.heap.size = KB at K d1 d2 d3 ⊢
              go_wp2_with fail
              refine (put_no _ v n _ (by omega)).mono ?_
              rintro e w4 ⟨rfl, rfl⟩
              have Y2 := hid Y.out
              have K2 := hid K.out
              clear Y K d1 d2 d3
              have d1 := lb_c1 K2.out
              have d2 := lb_c2 K2.out
              go_wp2_with fail
              refine (put_nil v _ _).mono ?_
              rintro e w5 ⟨rfl, rfl⟩
              clear d1 d2
              go_wp2_with fail
              go_loopw [5, 11] (fun vb i u => i = .int .i64 0 ∧ Ws w u w1.heap.size vb L L) (fun _ i _ => 0)
              case atStart => exact ⟨rfl, Y2.out⟩
              case round =>
                obtain ⟨rfl, hy⟩ := hrel
                have Y3 := hid hy
                clear hy Y2 K2
                go_wp2
                go_roundw
                case rel => exact ⟨k + 1, L, by omega, by rw [HCS.out]; omega, by go_num, Y3.out⟩
                case measure => simp [intOf]; omega
            · have h1 : 32 < n := by omega
              go_wp2_with fail
              refine (what_any a _ v tx _).mono ?_
              rintro e w3 ⟨rfl, hto⟩
              have Y := hid (ws_at X.out hto)
              have K := hid (lb_new hto)
              have d1 := lb_c1 K.out
              have d2 := lb_c2 K.out
              have d3 := lb_c3 K.out
              clear X hto c0 c1 c2 c3
              generalize wr.heap.size = KB at K d1 d2 d3 ⊢
              go_wp2_with fail
              refine (put_no _ v n _ (by omega)).mono ?_
              rintro e w4 ⟨rfl, rfl⟩
              have Y2 := hid Y.out
              have K2 := hid K.out
              clear Y K d1 d2 d3
              have d1 := lb_c1 K2.out
              have d2 := lb_c2 K2.out
              go_wp2_with fail
              refine (put_nil v _ _).mono ?_
              rintro e w5 ⟨rfl, rfl⟩
              clear d1 d2
              go_wp2_with fail
              go_loopw [5, 11] (fun vb i u => i = .int .i64 0 ∧ Ws w u w1.heap.size vb L L) (fun _ i _ => 0)
              case atStart => exact ⟨rfl, Y2.out⟩
              case round =>
                obtain ⟨rfl, hy⟩ := hrel
                have Y3 := hid hy
                clear hy Y2 K2
                go_wp2
                go_roundw
                case rel => exact ⟨k + 1, L, by omega, by rw [HCS.out]; omega, by go_num, Y3.out⟩
                case measure => simp [intOf]; omega
    · go_wp2_with fail
      refine (all_any _ _ _ X.out.wr).mono ?_
      rintro e w3 ⟨rfl, rfl⟩
      have hLb : L.length ≤ 8388608 := by have := cost_mono T k (len - k); rw [show k + (len - k) = len by omega] at this; omega
      rcases X.out.own.2 with ⟨hv, hz⟩ | ⟨g, cg, cur, hv, _⟩
      · obtain rfl : L = [] := List.eq_nil_of_length_eq_zero hz
        subst hv
        go_wp2_with fail
        refine (pack_none _).mono ?_
        rintro e w4 ⟨rfl, ht⟩
        have X2 := hid (X.out.new ht)
        clear X ht
        go_wp2_with fail
        refine (all_nil _).mono ?_
        rintro e w5 ⟨rfl, rfl⟩
        go_wp2
        go_ret
        exact ⟨rfl, X2.out.bel⟩
      · subst hv
        have O := hid (own_zero X.out.own)
        go_wp2_with fail
        refine (pack_any g L cg _ (by omega) O.out).mono ?_
        rintro e w4 ⟨rfl, ht⟩
        have X2 := hid (X.out.new ht)
        clear X ht O
        go_wp2_with fail
        refine (all_nil _).mono ?_
        rintro e w5 ⟨rfl, rfl⟩
        go_wp2
        go_ret
        exact ⟨rfl, X2.out.bel⟩
end Go.Proofs.Ytcpjbagljpohnaa
