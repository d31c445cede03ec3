/- Texts of this proof, one behind the other: what each says stands ahead of it. -/
import Derived.Test.YtmokfheckngfiaaDoorM1
import Derived.Deep.RegionWith
/- The putters of two bytes; conditions: those told. -/
namespace Go.Proofs.YtmokfheckngfiaaDoor
open Go.RowKit
attribute [local go_sem] run_store_func

theorem and_low (r : Int) (k : Nat) (h0 : 0 ≤ r) (h1 : r < 4611686018427387904) (hk : k ≤ 20) : bits .and .i64 r ((2 ^ k - 1 : Nat) : Int) = r % ((2 ^ k : Nat) : Int) := by
  obtain ⟨n, rfl⟩ := Int.eq_ofNat_of_zero_le h0
  have hp : 2 ^ k ≤ 2 ^ 20 := Nat.pow_le_pow_right (by decide) hk
  rw [(bits_nat .i64 62 (by decide) wraps_i64 n (2 ^ k - 1) (by omega) (by omega)).1, Nat.and_two_pow_sub_one_eq_mod]
  rfl
theorem and255 (r : Int) (h0 : 0 ≤ r) (h1 : r < 4611686018427387904) : bits .and .i64 r 255 = r % 256 := and_low r 8 h0 h1 (by decide)
theorem and1023 (r : Int) (h0 : 0 ≤ r) (h1 : r < 4611686018427387904) : bits .and .i64 r 1023 = r % 1024 := and_low r 10 h0 h1 (by decide)

set_option maxRecDepth 100000 in
set_option maxHeartbeats 4000000 in
theorem unit_any (f : Nat) (hf : f = 105 ∨ f = 106) {lo : Nat} {w : World} {bo b5 q : Nat} (h1 : Own1 lo w bo (.pointer (some ⟨q, 0, none⟩))) (h2 : Own1 lo w b5 (.func (.func 103) #[] #[.pointer (some ⟨bo, 0, none⟩)])) : PutOk lo w f b5 q (fun r => 0 ≤ r ∧ r ≤ 65535) (fun r => if f = 105 then [r % 256, r / 256] else [r / 256, r % 256]) 549755813896 := by
  intro wq v o r hk hs hv hq hob hr ho
  have c5 : wq.cell? ⟨b5, 0, none⟩ = some (.func (.func 103) #[] #[.pointer (some ⟨bo, 0, none⟩)]) := (cell_heap (hk b5 h2.ge h2.lt)).trans h2.cell
  have hne : ∀ g, lo ≤ g → g < w.heap.size → v.ownBlock ≠ some g := fun g h3 h4 e => by
    rcases hv g e with p | p <;> omega
  have b1 := h1.ge
  have b2 := h1.lt
  have hbl := lt_of_block hob.blk
  have key : ∀ x y : Int, 0 ≤ x ∧ x ≤ 255 → 0 ≤ y ∧ y ≤ 255 → Calls Tryd.prog 103 #[.slice (some ⟨wq.heap.size, 0, none⟩) 2 2, .pointer (some ⟨bo, 0, none⟩)] (wq.alloc (.cells #[.int .i64 x, .int .i64 y] 3)) fun e w' => e = .returned (.tuple #[]) ∧ ∃ v', Ob (fun k => k = q ∨ v.ownBlock = some k) wq w' q v' (o ++ [x, y]) := fun x y hx hy => by
    have tA : Touch (fun _ => False) wq (wq.alloc (.cells #[.int .i64 x, .int .i64 y] 3)) := (Touch.refl _ wq).alloc _
    have hoo := hob.still tA
    refine (put_any wq.heap.size 2 bo q [x, y] o v (wq.alloc (.cells #[.int .i64 x, .int .i64 y] 3)) (ig_new wq [x, y]) (fun z hz => by simp at hz; rcases hz with rfl | rfl; exact hx; exact hy)
      (by rw [tA.cell (p := ⟨bo, 0, none⟩) (show bo < wq.heap.size by omega) id, cell_heap (hk bo h1.ge h1.lt)]; exact h1.cell) (by simp; omega)
      ⟨by omega, hne bo h1.ge h1.lt⟩ ⟨by omega, own_alloc hob.own⟩ hoo.now (by simp; omega)).mono ?_
    rintro e w2 ⟨rfl, v', hb⟩
    exact ⟨rfl, v', hoo.back hb⟩
  have K := hid key
  have HR := hid hr
  clear hk hv hob h1 h2 hne key hr
  rcases hf with rfl | rfl
  · have hand := and255 r HR.out.1 (by have := HR.out.2; omega)
    have KK := hid (K.out (r % 256) (r / 256) (by omega) (by have := HR.out; omega))
    clear K
    go_enter Tryd.func105, Tryd.ntmps105
    go_wp2_with fail
    refine KK.out.mono ?_
    rintro e w2 ⟨rfl, v', hb⟩
    have H2 := hid hb
    clear hb KK
    go_wp2
    refine bodyPost_end (results_none rfl _ _ _) rfl ?_
    exact ⟨rfl, v', H2.out⟩
  · have hand := and255 r HR.out.1 (by have := HR.out.2; omega)
    have KK := hid (K.out (r / 256) (r % 256) (by have := HR.out; omega) (by omega))
    clear K
    go_enter Tryd.func106, Tryd.ntmps106
    go_wp2_with fail
    refine KK.out.mono ?_
    rintro e w2 ⟨rfl, v', hb⟩
    have H2 := hid hb
    clear hb KK
    go_wp2
    refine bodyPost_end (results_none rfl _ _ _) rfl ?_
    exact ⟨rfl, v', H2.out⟩

/-- The bytes of a scalar by a coding of two bytes a unit. -/
def enU (f : Nat) (r : Int) : List Int := if f = 105 then [r % 256, r / 256] else [r / 256, r % 256]
def en16 (f : Nat) (r : Int) : List Int := if r < 65536 then enU f r else enU f (55296 + (r - 65536) / 1024) ++ enU f (56320 + (r - 65536) % 1024)
/-- A later world of the same. -/
theorem Ob.chain {P : Nat → Prop} {W0 wr : World} {q : Nat} {v : Value} {o : List Int} {lo : Nat} {w : World} (h : Ob P W0 wr q v o) (hP : ∀ k, P k → k < lo ∨ w.heap.size ≤ k) (hk : ∀ k, lo ≤ k → k < w.heap.size → W0.heap[k]? = w.heap[k]?) (hs : w.heap.size ≤ W0.heap.size) :
    (∀ k, lo ≤ k → k < w.heap.size → wr.heap[k]? = w.heap[k]?) ∧ w.heap.size ≤ wr.heap.size ∧ (∀ g, v.ownBlock = some g → g < lo ∨ w.heap.size ≤ g) := by
  refine ⟨fun k h1 h2 => ?_, Nat.le_trans hs h.touch.size, fun g hg => ?_⟩
  · rw [h.touch.block k (by omega) (fun e => by rcases hP k e with p | p <;> omega)]
    exact hk k h1 h2
  · rcases h.new g hg with p | p
    · exact hP g p
    · exact .inr (by omega)

set_option maxRecDepth 100000 in
set_option maxHeartbeats 4000000 in
theorem pair_put (f : Nat) (hf : f = 105 ∨ f = 106) {lo : Nat} {w : World} {b6 b5 q : Nat} (h2 : Own1 lo w b6 (.func (.func f) #[] #[.pointer (some ⟨b5, 0, none⟩)])) (hu : PutOk lo w f b5 q (fun r => 0 ≤ r ∧ r ≤ 65535) (enU f) 549755813896) : PutOk lo w 120 b6 q (fun r => 0 ≤ r ∧ r ≤ 1114111) (en16 f) 549755813888 := by
  intro wq v o r hk hs hv hq hob hr ho
  have c5 : wq.cell? ⟨b6, 0, none⟩ = some (.func (.func f) #[] #[.pointer (some ⟨b5, 0, none⟩)]) := (cell_heap (hk b6 h2.ge h2.lt)).trans h2.cell
  have HP : ∀ k, (k = q ∨ v.ownBlock = some k) → k < lo ∨ w.heap.size ≤ k := fun k e => by
    rcases e with e | e
    · exact .inl (by omega)
    · exact hv k e
  by_cases hlt : r < 65536
  · have K := hid (hu wq v o r hk hs hv hq hob (by omega) (by omega))
    have HE := hid (show en16 f r = enU f r from if_pos hlt)
    clear hk hv hob hu h2 HP
    rcases hf with rfl | rfl
    all_goals
      go_enter Tryd.func120, Tryd.ntmps120
      go_wp2_with fail
      refine K.out.mono ?_
      rintro e w2 ⟨rfl, v', hb⟩
      have H2 := hid hb
      clear hb K
      go_wp2
      refine bodyPost_ret (results_none rfl _ _ _) rfl ?_
      exact ⟨rfl, v', by rw [HE.out]; exact H2.out⟩
  · have hand := and1023 (r - 65536) (by omega) (by omega)
    have K := hid (hu wq v o (55296 + (r - 65536) / 1024) hk hs hv hq hob (by omega) (by omega))
    have HE := hid (show en16 f r = enU f (55296 + (r - 65536) / 1024) ++ enU f (56320 + (r - 65536) % 1024) from if_neg hlt)
    have K2 := hid (show ∀ (w1 : World) (v1 : Value) (o1 : List Int), Ob (fun k => k = q ∨ v.ownBlock = some k) wq w1 q v1 o1 → o1.length ≤ 549755813896 → Calls Tryd.prog f (#[.int .i64 (56320 + (r - 65536) % 1024)] ++ #[.pointer (some ⟨b5, 0, none⟩)]) w1 fun e w' => e = .returned (.tuple #[]) ∧ ∃ v', Ob (fun k => k = q ∨ v1.ownBlock = some k) w1 w' q v' (o1 ++ enU f (56320 + (r - 65536) % 1024)) from fun w1 v1 o1 hb hl => by
      have hc := hb.chain HP hk hs
      exact hu w1 v1 o1 (56320 + (r - 65536) % 1024) hc.1 hc.2.1 hc.2.2 hq hb.now (by omega) hl)
    have KC := hid (show ∀ (w1 : World) (v1 : Value) (o1 : List Int), Ob (fun k => k = q ∨ v.ownBlock = some k) wq w1 q v1 o1 → w1.cell? ⟨b6, 0, none⟩ = some (.func (.func f) #[] #[.pointer (some ⟨b5, 0, none⟩)]) from fun w1 v1 o1 hb => (cell_heap ((hb.chain HP hk hs).1 b6 h2.ge h2.lt)).trans h2.cell)
    have HL := hid (show ∀ x, (enU f x).length = 2 from fun x => by unfold enU; split <;> rfl)
    clear hk hv hob hu h2 HP
    rcases hf with rfl | rfl
    all_goals
      go_enter Tryd.func120, Tryd.ntmps120
      go_wp2_with fail
      refine K.out.mono ?_
      rintro e w2 ⟨rfl, v', hb⟩
      clear c5
      have c6 := KC.out w2 v' _ hb
      have KK := hid (K2.out w2 v' _ hb (by rw [List.length_append, HL.out]; omega))
      have H1 := hid hb
      clear hb K K2 KC
      go_wp2_with fail
      refine KK.out.mono ?_
      rintro e w3 ⟨rfl, v3, hb3⟩
      have H3 := hid (H1.out.back hb3)
      clear hb3 KK
      go_wp2
      refine bodyPost_end (results_none rfl _ _ _) rfl ?_
      exact ⟨rfl, v3, by rw [HE.out, ← List.append_assoc]; exact H3.out⟩

set_option maxRecDepth 100000 in
theorem pairPutter_any (f b5 : Nat) (w : World) : Calls Tryd.prog 104 #[.func (.func f) #[] #[.pointer (some ⟨b5, 0, none⟩)]] w fun e w' => ∃ b6, e = .returned (.func (.func 120) #[] #[.pointer (some ⟨b6, 0, none⟩)]) ∧ Own1 w.heap.size w' b6 (.func (.func f) #[] #[.pointer (some ⟨b5, 0, none⟩)]) ∧ Touch (fun _ => False) w w' := by
  go_enter Tryd.func104, Tryd.ntmps104
  go_wp2
  go_ret
  exact ⟨_, rfl, Own1.made rfl (Nat.le_refl _), (Touch.refl _ w).alloc _⟩
set_option maxRecDepth 100000 in
theorem putter_pair (q : Nat) (c : Int) (f : Nat) (hcf : (c = 2 ∧ f = 105) ∨ (c = 3 ∧ f = 106)) (w : World) : Calls Tryd.prog 84 #[.pointer (some ⟨q, 0, none⟩), .int .i64 c] w fun e w' => ∃ b6, e = .returned (.func (.func 120) #[] #[.pointer (some ⟨b6, 0, none⟩)]) ∧ PutOk w.heap.size w' 120 b6 q (fun r => 0 ≤ r ∧ r ≤ 1114111) (en16 f) 549755813888 ∧ Touch (fun _ => False) w w' := by
  rcases hcf with ⟨rfl, rfl⟩ | ⟨rfl, rfl⟩
  all_goals
    go_enter Tryd.func84, Tryd.ntmps84
    go_wp2_with fail
    refine (pairPutter_any _ _ _).mono ?_
    rintro e w2 ⟨b6, rfl, o6, t2⟩
    have OB := hid (show Own1 w.heap.size ((w.alloc (.cells #[.pointer (some ⟨q, 0, none⟩)] 120)).alloc (.cells #[.func (.func 103) #[] #[.pointer (some ⟨w.heap.size, 0, none⟩)]] 136)) w.heap.size (.pointer (some ⟨q, 0, none⟩)) from (Own1.made rfl (Nat.le_refl _)).alloc _)
    have O5 := hid (show Own1 w.heap.size ((w.alloc (.cells #[.pointer (some ⟨q, 0, none⟩)] 120)).alloc (.cells #[.func (.func 103) #[] #[.pointer (some ⟨w.heap.size, 0, none⟩)]] 136)) (w.heap.size + 1) (.func (.func 103) #[] #[.pointer (some ⟨w.heap.size, 0, none⟩)]) from Own1.made (by simp) (by omega))
    have T2 := hid ((((Touch.refl (fun _ => False) w).alloc (.cells #[.pointer (some ⟨q, 0, none⟩)] 120)).alloc (.cells #[.func (.func 103) #[] #[.pointer (some ⟨w.heap.size, 0, none⟩)]] 136)).trans t2 (fun _ _ e => e))
    have P := hid (pair_put _ (by decide) (o6.low (by simp; omega)) (unit_any _ (by decide) (OB.out.kept t2 id) (O5.out.kept t2 id)))
    clear OB O5 t2 o6
    go_wp2
    go_ret
    exact ⟨b6, rfl, P.out, T2.out⟩
end Go.Proofs.YtmokfheckngfiaaDoor

/- A further byte of UTF-8; conditions: those told. -/
namespace Go.Proofs.YtmokfheckngfiaaDoor
open Go.RowKit

theorem and63 (r : Int) (h0 : 0 ≤ r) (h1 : r < 4611686018427387904) : bits .and .i64 r 63 = r % 64 := and_low r 6 h0 h1 (by decide)
theorem or_head (n : Int) (hd k : Nat) (h0 : 0 ≤ n) (h1 : n < ((2 ^ k : Nat) : Int)) (hk : k ≤ 8) (hd1 : hd ≤ 255) : bits .or .i64 ((2 ^ k * hd : Nat) : Int) n = ((2 ^ k * hd : Nat) : Int) + n := by
  obtain ⟨m, rfl⟩ := Int.eq_ofNat_of_zero_le h0
  have hp : 2 ^ k ≤ 2 ^ 8 := Nat.pow_le_pow_right (by decide) hk
  have hm : m < 2 ^ k := by omega
  have h3 : 2 ^ k * hd ≤ 2 ^ 8 * 255 := Nat.mul_le_mul hp hd1
  rw [(bits_nat .i64 62 (by decide) wraps_i64 (2 ^ k * hd) m (by omega) (by omega)).2, ← Nat.two_pow_add_eq_or_of_lt hm]
  rfl
theorem or128 (n : Int) (h0 : 0 ≤ n) (h1 : n < 64) : bits .or .i64 128 n = 128 + n := or_head n 2 6 h0 h1 (by decide) (by decide)
theorem or192 (n : Int) (h0 : 0 ≤ n) (h1 : n < 64) : bits .or .i64 192 n = 192 + n := or_head n 3 6 h0 h1 (by decide) (by decide)
theorem or224 (n : Int) (h0 : 0 ≤ n) (h1 : n < 32) : bits .or .i64 224 n = 224 + n := or_head n 7 5 h0 h1 (by decide) (by decide)
theorem or240 (n : Int) (h0 : 0 ≤ n) (h1 : n < 16) : bits .or .i64 240 n = 240 + n := or_head n 15 4 h0 h1 (by decide) (by decide)

set_option maxRecDepth 100000 in
theorem further_any (r d : Int) (sh : Int) (b : Nat) (w : World) (hsh : (sh = 0 ∧ d = 1) ∨ (sh = 6 ∧ d = 64) ∨ (sh = 12 ∧ d = 4096)) (hr : 0 ≤ r ∧ r ≤ 1114111) (hc : w.cell? ⟨b, 0, none⟩ = some (.int .i64 r)) :
    Calls Tryd.prog 121 (#[.int .i64 sh] ++ #[.pointer (some ⟨b, 0, none⟩)]) w fun e w' => e = .returned (.int .i64 (128 + r / d % 64)) ∧ Touch (fun _ => False) w w' := by
  rcases hsh with ⟨rfl, rfl⟩ | ⟨rfl, rfl⟩ | ⟨rfl, rfl⟩
  · have h1 := and63 r hr.1 (by omega)
    have h2 := or128 (r % 64) (by omega) (by omega)
    have HE := hid (show 128 + r / 1 % 64 = 128 + r % 64 by omega)
    go_enter Tryd.func121, Tryd.ntmps121
    go_wp2
    go_ret
    exact ⟨by rw [HE.out]; rfl, Touch.refl _ _⟩
  · have h1 := and63 (r / 64) (by omega) (by omega)
    have h2 := or128 (r / 64 % 64) (by omega) (by omega)
    go_enter Tryd.func121, Tryd.ntmps121
    go_wp2
    go_ret
    exact ⟨rfl, Touch.refl _ _⟩
  · have h1 := and63 (r / 4096) (by omega) (by omega)
    have h2 := or128 (r / 4096 % 64) (by omega) (by omega)
    go_enter Tryd.func121, Tryd.ntmps121
    go_wp2
    go_ret
    exact ⟨rfl, Touch.refl _ _⟩
end Go.Proofs.YtmokfheckngfiaaDoor

/- putUTF8; conditions: those told. -/
namespace Go.Proofs.YtmokfheckngfiaaDoor
open Go.RowKit

set_option maxRecDepth 100000 in
set_option maxHeartbeats 8000000 in
theorem utf8_one (bo q : Nat) (v : Value) (o : List Int) (r : Int) (wq : World) (hr : 0 ≤ r ∧ r < 128) (hbo : wq.cell? ⟨bo, 0, none⟩ = some (.pointer (some ⟨q, 0, none⟩))) (hlb : bo < wq.heap.size) (hbq : bo ≠ q ∧ v.ownBlock ≠ some bo) (hob : Ob (fun k => k = q ∨ v.ownBlock = some k) wq wq q v o) (ho : o.length ≤ 549755813896) :
    Calls Tryd.prog 109 #[.func (.func 103) #[] #[.pointer (some ⟨bo, 0, none⟩)], .int .i64 r] wq fun e w' => e = .returned (.tuple #[]) ∧ ∃ v', Ob (fun k => k = q ∨ v.ownBlock = some k) wq w' q v' (o ++ [r]) := by
  have hbl := lt_of_block hob.blk
  have key : ∀ (wz : World) (x0 : Int), Touch (fun _ => False) wq wz → 0 ≤ x0 ∧ x0 ≤ 255 → Calls Tryd.prog 103 #[.slice (some ⟨wz.heap.size, 0, none⟩) 1 1, .pointer (some ⟨bo, 0, none⟩)] (wz.alloc (.cells #[.int .i64 x0] 3)) fun e w' => e = .returned (.tuple #[]) ∧ ∃ v', Ob (fun k => k = q ∨ v.ownBlock = some k) wq w' q v' (o ++ [x0]) := fun wz x0 tz hx0 => by
    have sz := tz.size
    have tA : Touch (fun _ => False) wq (wz.alloc (.cells #[.int .i64 x0] 3)) := tz.alloc _
    have hoo := hob.still tA
    refine (put_any wz.heap.size 1 bo q [x0] o v (wz.alloc (.cells #[.int .i64 x0] 3)) (ig_new wz [x0]) (fun z hz => by
        simp only [List.mem_cons, List.not_mem_nil, or_false] at hz
        subst hz; assumption)
      (by rw [tA.cell (p := ⟨bo, 0, none⟩) hlb id]; exact hbo) (by simp; omega)
      hbq ⟨by omega, own_alloc (hob.still tz).own⟩ hoo.now (by simp; omega)).mono ?_
    rintro e w2 ⟨rfl, v', hb⟩
    exact ⟨rfl, v', hoo.back hb⟩
  have K := hid key
  have q0 : r < 128 := by have := hr; omega
  have HR := hid hr
  have T0 := hid ((Touch.refl (fun _ => False) wq).alloc (.cells #[.int .i64 r] 3))
  have B0 := hid (show (wq.alloc (.cells #[.int .i64 r] 3)).cell? ⟨wq.heap.size, 0, none⟩ = some (.int .i64 r) by unfold World.cell?; rw [block_new]; rfl)
  have S0 := hid (show wq.heap.size < (wq.alloc (.cells #[.int .i64 r] 3)).heap.size by simp)
  clear key hob hbo hr hbl
  go_enter Tryd.func109, Tryd.ntmps109
  go_upto_region 4 with fail
  generalize (wq.alloc (.cells #[.int .i64 r] 3)) = w1 at *
  obtain ⟨b3, hb3⟩ : ∃ b, b = wq.heap.size := ⟨_, rfl⟩
  rw [← hb3] at B0 S0 ⊢
  clear hb3
  have c3 := B0.out
  go_wp2_with fail
  refine (K.out w1 r T0.out (by have := HR.out; omega)).mono ?_
  rintro e w7 ⟨rfl, v7, hb7⟩
  have H7 := hid hb7
  clear hb7
  go_wp2
  refine bodyPost_end (results_none rfl _ _ _) rfl ?_
  exact ⟨rfl, v7, H7.out⟩

set_option maxRecDepth 100000 in
set_option maxHeartbeats 8000000 in
theorem utf8_two (bo q : Nat) (v : Value) (o : List Int) (r : Int) (wq : World) (hr : 128 ≤ r ∧ r < 2048) (hbo : wq.cell? ⟨bo, 0, none⟩ = some (.pointer (some ⟨q, 0, none⟩))) (hlb : bo < wq.heap.size) (hbq : bo ≠ q ∧ v.ownBlock ≠ some bo) (hob : Ob (fun k => k = q ∨ v.ownBlock = some k) wq wq q v o) (ho : o.length ≤ 549755813896) :
    Calls Tryd.prog 109 #[.func (.func 103) #[] #[.pointer (some ⟨bo, 0, none⟩)], .int .i64 r] wq fun e w' => e = .returned (.tuple #[]) ∧ ∃ v', Ob (fun k => k = q ∨ v.ownBlock = some k) wq w' q v' (o ++ [192 + r / 64, 128 + r % 64]) := by
  have hbl := lt_of_block hob.blk
  have key : ∀ (wz : World) (x0 x1 : Int), Touch (fun _ => False) wq wz → 0 ≤ x0 ∧ x0 ≤ 255 → 0 ≤ x1 ∧ x1 ≤ 255 → Calls Tryd.prog 103 #[.slice (some ⟨wz.heap.size, 0, none⟩) 2 2, .pointer (some ⟨bo, 0, none⟩)] (wz.alloc (.cells #[.int .i64 x0, .int .i64 x1] 3)) fun e w' => e = .returned (.tuple #[]) ∧ ∃ v', Ob (fun k => k = q ∨ v.ownBlock = some k) wq w' q v' (o ++ [x0, x1]) := fun wz x0 x1 tz hx0 hx1 => by
    have sz := tz.size
    have tA : Touch (fun _ => False) wq (wz.alloc (.cells #[.int .i64 x0, .int .i64 x1] 3)) := tz.alloc _
    have hoo := hob.still tA
    refine (put_any wz.heap.size 2 bo q [x0, x1] o v (wz.alloc (.cells #[.int .i64 x0, .int .i64 x1] 3)) (ig_new wz [x0, x1]) (fun z hz => by
        simp only [List.mem_cons, List.not_mem_nil, or_false] at hz
        rcases hz with rfl | rfl <;> assumption)
      (by rw [tA.cell (p := ⟨bo, 0, none⟩) hlb id]; exact hbo) (by simp; omega)
      hbq ⟨by omega, own_alloc (hob.still tz).own⟩ hoo.now (by simp; omega)).mono ?_
    rintro e w2 ⟨rfl, v', hb⟩
    exact ⟨rfl, v', hoo.back hb⟩
  have K := hid key
  have q0 : ¬ (r < 128) := by have := hr; omega
  have q1 : r < 2048 := by have := hr; omega
  have hor := or192 (r / 64) (by omega) (by omega)
  have HR := hid hr
  have T0 := hid ((Touch.refl (fun _ => False) wq).alloc (.cells #[.int .i64 r] 3))
  have B0 := hid (show (wq.alloc (.cells #[.int .i64 r] 3)).cell? ⟨wq.heap.size, 0, none⟩ = some (.int .i64 r) by unfold World.cell?; rw [block_new]; rfl)
  have S0 := hid (show wq.heap.size < (wq.alloc (.cells #[.int .i64 r] 3)).heap.size by simp)
  clear key hob hbo hr hbl
  go_enter Tryd.func109, Tryd.ntmps109
  go_upto_region 6 with fail
  generalize (wq.alloc (.cells #[.int .i64 r] 3)) = w1 at *
  obtain ⟨b3, hb3⟩ : ∃ b, b = wq.heap.size := ⟨_, rfl⟩
  rw [← hb3] at B0 S0 ⊢
  clear hb3
  have c3 := B0.out
  have Mk0 : True := trivial
  go_region_with (first | (clear Mk0; refine (further_any r 1 0 b3 _ (.inl ⟨rfl, rfl⟩) ⟨by have := HR.out; omega, by have := HR.out; omega⟩ (by exact B0.out)).mono ?_; rintro e wf0 ⟨rfl, tf⟩; have TF0 := hid (show Touch (fun _ => False) wq wf0 from (by first | exact T0.out.trans tf (fun _ _ e => e) | exact T0.out.drew.trans tf (fun _ _ e => e))); have BF0 := hid (show wf0.cell? ⟨b3, 0, none⟩ = some (.int .i64 r) from (tf.cell (p := ⟨b3, 0, none⟩) S0.out id).trans B0.out); have SF0 := hid (Nat.lt_of_lt_of_le S0.out tf.size); have cf0 := BF0.out; clear tf; have Mk1 : True := trivial) | (clear Mk1; refine (K.out wf0 (192 + r / 64) (128 + r % 64) TF0.out (by have := HR.out; omega) (by have := HR.out; omega)).mono ?_; rintro e w7 ⟨rfl, v7, hb7⟩; have H7 := hid hb7; clear hb7))
  all_goals
    go_wp2
    refine bodyPost_end (results_none rfl _ _ _) rfl ?_
    exact ⟨rfl, v7, H7.out⟩

set_option maxRecDepth 100000 in
set_option maxHeartbeats 8000000 in
theorem utf8_three (bo q : Nat) (v : Value) (o : List Int) (r : Int) (wq : World) (hr : 2048 ≤ r ∧ r < 65536) (hbo : wq.cell? ⟨bo, 0, none⟩ = some (.pointer (some ⟨q, 0, none⟩))) (hlb : bo < wq.heap.size) (hbq : bo ≠ q ∧ v.ownBlock ≠ some bo) (hob : Ob (fun k => k = q ∨ v.ownBlock = some k) wq wq q v o) (ho : o.length ≤ 549755813896) :
    Calls Tryd.prog 109 #[.func (.func 103) #[] #[.pointer (some ⟨bo, 0, none⟩)], .int .i64 r] wq fun e w' => e = .returned (.tuple #[]) ∧ ∃ v', Ob (fun k => k = q ∨ v.ownBlock = some k) wq w' q v' (o ++ [224 + r / 4096, 128 + r / 64 % 64, 128 + r % 64]) := by
  have hbl := lt_of_block hob.blk
  have key : ∀ (wz : World) (x0 x1 x2 : Int), Touch (fun _ => False) wq wz → 0 ≤ x0 ∧ x0 ≤ 255 → 0 ≤ x1 ∧ x1 ≤ 255 → 0 ≤ x2 ∧ x2 ≤ 255 → Calls Tryd.prog 103 #[.slice (some ⟨wz.heap.size, 0, none⟩) 3 3, .pointer (some ⟨bo, 0, none⟩)] (wz.alloc (.cells #[.int .i64 x0, .int .i64 x1, .int .i64 x2] 3)) fun e w' => e = .returned (.tuple #[]) ∧ ∃ v', Ob (fun k => k = q ∨ v.ownBlock = some k) wq w' q v' (o ++ [x0, x1, x2]) := fun wz x0 x1 x2 tz hx0 hx1 hx2 => by
    have sz := tz.size
    have tA : Touch (fun _ => False) wq (wz.alloc (.cells #[.int .i64 x0, .int .i64 x1, .int .i64 x2] 3)) := tz.alloc _
    have hoo := hob.still tA
    refine (put_any wz.heap.size 3 bo q [x0, x1, x2] o v (wz.alloc (.cells #[.int .i64 x0, .int .i64 x1, .int .i64 x2] 3)) (ig_new wz [x0, x1, x2]) (fun z hz => by
        simp only [List.mem_cons, List.not_mem_nil, or_false] at hz
        rcases hz with rfl | rfl | rfl <;> assumption)
      (by rw [tA.cell (p := ⟨bo, 0, none⟩) hlb id]; exact hbo) (by simp; omega)
      hbq ⟨by omega, own_alloc (hob.still tz).own⟩ hoo.now (by simp; omega)).mono ?_
    rintro e w2 ⟨rfl, v', hb⟩
    exact ⟨rfl, v', hoo.back hb⟩
  have K := hid key
  have q0 : ¬ (r < 128) := by have := hr; omega
  have q1 : ¬ (r < 2048) := by have := hr; omega
  have q2 : r < 65536 := by have := hr; omega
  have hor := or224 (r / 4096) (by omega) (by omega)
  have HR := hid hr
  have T0 := hid ((Touch.refl (fun _ => False) wq).alloc (.cells #[.int .i64 r] 3))
  have B0 := hid (show (wq.alloc (.cells #[.int .i64 r] 3)).cell? ⟨wq.heap.size, 0, none⟩ = some (.int .i64 r) by unfold World.cell?; rw [block_new]; rfl)
  have S0 := hid (show wq.heap.size < (wq.alloc (.cells #[.int .i64 r] 3)).heap.size by simp)
  clear key hob hbo hr hbl
  go_enter Tryd.func109, Tryd.ntmps109
  go_upto_region 8 with fail
  generalize (wq.alloc (.cells #[.int .i64 r] 3)) = w1 at *
  obtain ⟨b3, hb3⟩ : ∃ b, b = wq.heap.size := ⟨_, rfl⟩
  rw [← hb3] at B0 S0 ⊢
  clear hb3
  have c3 := B0.out
  have Mk0 : True := trivial
  go_region_with (first | (clear Mk0; refine (further_any r 64 6 b3 _ (.inr (.inl ⟨rfl, rfl⟩)) ⟨by have := HR.out; omega, by have := HR.out; omega⟩ (by exact B0.out)).mono ?_; rintro e wf0 ⟨rfl, tf⟩; have TF0 := hid (show Touch (fun _ => False) wq wf0 from (by first | exact T0.out.trans tf (fun _ _ e => e) | exact T0.out.drew.trans tf (fun _ _ e => e))); have BF0 := hid (show wf0.cell? ⟨b3, 0, none⟩ = some (.int .i64 r) from (tf.cell (p := ⟨b3, 0, none⟩) S0.out id).trans B0.out); have SF0 := hid (Nat.lt_of_lt_of_le S0.out tf.size); have cf0 := BF0.out; clear tf; have Mk1 : True := trivial) | (clear Mk1; refine (further_any r 1 0 b3 _ (.inl ⟨rfl, rfl⟩) ⟨by have := HR.out; omega, by have := HR.out; omega⟩ (by exact BF0.out)).mono ?_; rintro e wf1 ⟨rfl, tf⟩; have TF1 := hid (show Touch (fun _ => False) wq wf1 from (by first | exact TF0.out.trans tf (fun _ _ e => e) | exact TF0.out.drew.trans tf (fun _ _ e => e))); have BF1 := hid (show wf1.cell? ⟨b3, 0, none⟩ = some (.int .i64 r) from (tf.cell (p := ⟨b3, 0, none⟩) SF0.out id).trans BF0.out); have SF1 := hid (Nat.lt_of_lt_of_le SF0.out tf.size); have cf1 := BF1.out; clear tf; have Mk2 : True := trivial) | (clear Mk2; refine (K.out wf1 (224 + r / 4096) (128 + r / 64 % 64) (128 + r % 64) TF1.out (by have := HR.out; omega) (by have := HR.out; omega) (by have := HR.out; omega)).mono ?_; rintro e w7 ⟨rfl, v7, hb7⟩; have H7 := hid hb7; clear hb7))
  all_goals
    go_wp2
    refine bodyPost_end (results_none rfl _ _ _) rfl ?_
    exact ⟨rfl, v7, H7.out⟩

set_option maxRecDepth 100000 in
set_option maxHeartbeats 8000000 in
theorem utf8_four (bo q : Nat) (v : Value) (o : List Int) (r : Int) (wq : World) (hr : 65536 ≤ r ∧ r < 1114112) (hbo : wq.cell? ⟨bo, 0, none⟩ = some (.pointer (some ⟨q, 0, none⟩))) (hlb : bo < wq.heap.size) (hbq : bo ≠ q ∧ v.ownBlock ≠ some bo) (hob : Ob (fun k => k = q ∨ v.ownBlock = some k) wq wq q v o) (ho : o.length ≤ 549755813896) :
    Calls Tryd.prog 109 #[.func (.func 103) #[] #[.pointer (some ⟨bo, 0, none⟩)], .int .i64 r] wq fun e w' => e = .returned (.tuple #[]) ∧ ∃ v', Ob (fun k => k = q ∨ v.ownBlock = some k) wq w' q v' (o ++ [240 + r / 262144, 128 + r / 4096 % 64, 128 + r / 64 % 64, 128 + r % 64]) := by
  have hbl := lt_of_block hob.blk
  have key : ∀ (wz : World) (x0 x1 x2 x3 : Int), Touch (fun _ => False) wq wz → 0 ≤ x0 ∧ x0 ≤ 255 → 0 ≤ x1 ∧ x1 ≤ 255 → 0 ≤ x2 ∧ x2 ≤ 255 → 0 ≤ x3 ∧ x3 ≤ 255 → Calls Tryd.prog 103 #[.slice (some ⟨wz.heap.size, 0, none⟩) 4 4, .pointer (some ⟨bo, 0, none⟩)] (wz.alloc (.cells #[.int .i64 x0, .int .i64 x1, .int .i64 x2, .int .i64 x3] 3)) fun e w' => e = .returned (.tuple #[]) ∧ ∃ v', Ob (fun k => k = q ∨ v.ownBlock = some k) wq w' q v' (o ++ [x0, x1, x2, x3]) := fun wz x0 x1 x2 x3 tz hx0 hx1 hx2 hx3 => by
    have sz := tz.size
    have tA : Touch (fun _ => False) wq (wz.alloc (.cells #[.int .i64 x0, .int .i64 x1, .int .i64 x2, .int .i64 x3] 3)) := tz.alloc _
    have hoo := hob.still tA
    refine (put_any wz.heap.size 4 bo q [x0, x1, x2, x3] o v (wz.alloc (.cells #[.int .i64 x0, .int .i64 x1, .int .i64 x2, .int .i64 x3] 3)) (ig_new wz [x0, x1, x2, x3]) (fun z hz => by
        simp only [List.mem_cons, List.not_mem_nil, or_false] at hz
        rcases hz with rfl | rfl | rfl | rfl <;> assumption)
      (by rw [tA.cell (p := ⟨bo, 0, none⟩) hlb id]; exact hbo) (by simp; omega)
      hbq ⟨by omega, own_alloc (hob.still tz).own⟩ hoo.now (by simp; omega)).mono ?_
    rintro e w2 ⟨rfl, v', hb⟩
    exact ⟨rfl, v', hoo.back hb⟩
  have K := hid key
  have q0 : ¬ (r < 128) := by have := hr; omega
  have q1 : ¬ (r < 2048) := by have := hr; omega
  have q2 : ¬ (r < 65536) := by have := hr; omega
  have hor := or240 (r / 262144) (by omega) (by omega)
  have HR := hid hr
  have T0 := hid ((Touch.refl (fun _ => False) wq).alloc (.cells #[.int .i64 r] 3))
  have B0 := hid (show (wq.alloc (.cells #[.int .i64 r] 3)).cell? ⟨wq.heap.size, 0, none⟩ = some (.int .i64 r) by unfold World.cell?; rw [block_new]; rfl)
  have S0 := hid (show wq.heap.size < (wq.alloc (.cells #[.int .i64 r] 3)).heap.size by simp)
  clear key hob hbo hr hbl
  go_enter Tryd.func109, Tryd.ntmps109
  go_upto_region 2 with fail
  generalize (wq.alloc (.cells #[.int .i64 r] 3)) = w1 at *
  obtain ⟨b3, hb3⟩ : ∃ b, b = wq.heap.size := ⟨_, rfl⟩
  rw [← hb3] at B0 S0 ⊢
  clear hb3
  have c3 := B0.out
  have Mk0 : True := trivial
  go_region_with (first | (clear Mk0; refine (further_any r 4096 12 b3 _ (.inr (.inr ⟨rfl, rfl⟩)) ⟨by have := HR.out; omega, by have := HR.out; omega⟩ (by exact B0.out)).mono ?_; rintro e wf0 ⟨rfl, tf⟩; have TF0 := hid (show Touch (fun _ => False) wq wf0 from (by first | exact T0.out.trans tf (fun _ _ e => e) | exact T0.out.drew.trans tf (fun _ _ e => e))); have BF0 := hid (show wf0.cell? ⟨b3, 0, none⟩ = some (.int .i64 r) from (tf.cell (p := ⟨b3, 0, none⟩) S0.out id).trans B0.out); have SF0 := hid (Nat.lt_of_lt_of_le S0.out tf.size); have cf0 := BF0.out; clear tf; have Mk1 : True := trivial) | (clear Mk1; refine (further_any r 64 6 b3 _ (.inr (.inl ⟨rfl, rfl⟩)) ⟨by have := HR.out; omega, by have := HR.out; omega⟩ (by exact BF0.out)).mono ?_; rintro e wf1 ⟨rfl, tf⟩; have TF1 := hid (show Touch (fun _ => False) wq wf1 from (by first | exact TF0.out.trans tf (fun _ _ e => e) | exact TF0.out.drew.trans tf (fun _ _ e => e))); have BF1 := hid (show wf1.cell? ⟨b3, 0, none⟩ = some (.int .i64 r) from (tf.cell (p := ⟨b3, 0, none⟩) SF0.out id).trans BF0.out); have SF1 := hid (Nat.lt_of_lt_of_le SF0.out tf.size); have cf1 := BF1.out; clear tf; have Mk2 : True := trivial) | (clear Mk2; refine (further_any r 1 0 b3 _ (.inl ⟨rfl, rfl⟩) ⟨by have := HR.out; omega, by have := HR.out; omega⟩ (by exact BF1.out)).mono ?_; rintro e wf2 ⟨rfl, tf⟩; have TF2 := hid (show Touch (fun _ => False) wq wf2 from (by first | exact TF1.out.trans tf (fun _ _ e => e) | exact TF1.out.drew.trans tf (fun _ _ e => e))); have BF2 := hid (show wf2.cell? ⟨b3, 0, none⟩ = some (.int .i64 r) from (tf.cell (p := ⟨b3, 0, none⟩) SF1.out id).trans BF1.out); have SF2 := hid (Nat.lt_of_lt_of_le SF1.out tf.size); have cf2 := BF2.out; clear tf; have Mk3 : True := trivial) | (clear Mk3; refine (K.out wf2 (240 + r / 262144) (128 + r / 4096 % 64) (128 + r / 64 % 64) (128 + r % 64) TF2.out (by have := HR.out; omega) (by have := HR.out; omega) (by have := HR.out; omega) (by have := HR.out; omega)).mono ?_; rintro e w7 ⟨rfl, v7, hb7⟩; have H7 := hid hb7; clear hb7))
  all_goals
    go_wp2
    refine bodyPost_end (results_none rfl _ _ _) rfl ?_
    exact ⟨rfl, v7, H7.out⟩
end Go.Proofs.YtmokfheckngfiaaDoor
