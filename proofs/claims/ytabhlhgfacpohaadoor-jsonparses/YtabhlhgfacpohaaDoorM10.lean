/- Texts of this proof, one behind the other: what each says stands ahead of it. -/
import Derived.Test.YtabhlhgfacpohaaDoorM9
import Derived.Deep.RegionWith
import Derived.Test.YtabhlhgfacpohaaDoorM4
/- putUTF8; conditions: those told. -/
namespace Go.Proofs.YtabhlhgfacpohaaDoor
open Go.RowKit

set_option maxRecDepth 100000 in
set_option maxHeartbeats 8000000 in
theorem utf8_one (bo q : Nat) (v : Value) (o : List Int) (r : Int) (wq : World) (hr : 0 ≤ r ∧ r < 128) (hbo : wq.cell? ⟨bo, 0, none⟩ = some (.pointer (some ⟨q, 0, none⟩))) (hlb : bo < wq.heap.size) (hbq : bo ≠ q ∧ v.ownBlock ≠ some bo) (hob : Ob (fun k => k = q ∨ v.ownBlock = some k) wq wq q v o) (ho : o.length ≤ 549755813896) :
    Calls Tryd.prog 54 #[.func (.func 48) #[] #[.pointer (some ⟨bo, 0, none⟩)], .int .i64 r] wq fun e w' => e = .returned (.tuple #[]) ∧ ∃ v', Ob (fun k => k = q ∨ v.ownBlock = some k) wq w' q v' (o ++ [r]) := by
  have hbl := lt_of_block hob.blk
  have key : ∀ (wz : World) (x0 : Int), Touch (fun _ => False) wq wz → 0 ≤ x0 ∧ x0 ≤ 255 → Calls Tryd.prog 48 #[.slice (some ⟨wz.heap.size, 0, none⟩) 1 1, .pointer (some ⟨bo, 0, none⟩)] (wz.alloc (.cells #[.int .i64 x0] 3)) fun e w' => e = .returned (.tuple #[]) ∧ ∃ v', Ob (fun k => k = q ∨ v.ownBlock = some k) wq w' q v' (o ++ [x0]) := fun wz x0 tz hx0 => by
    have sz := tz.size
    have tA : Touch (fun _ => False) wq (wz.alloc (.cells #[.int .i64 x0] 3)) := tz.alloc _
    have hoo := hob.still tA
    refine (put_any wz.heap.size 1 bo q [x0] o v (wz.alloc (.cells #[.int .i64 x0] 3)) (ig_new wz [x0]) (fun z hz => by
        simp only [List.mem_cons, List.not_mem_nil, or_false] at hz
        subst hz; assumption)
      (by rw [tA.cell (p := ⟨bo, 0, none⟩) hlb id]; exact hbo) (by simp; omega)
      hbq ⟨by omega, own_alloc (hob.still tz).own⟩ hoo.now (by simp; omega)).mono ?_
    rintro e w2 ⟨rfl, v', hb⟩
    exact ⟨rfl, v', hoo.back hb⟩
  have K := hid key
  have q0 : r < 128 := by have := hr; omega
  have HR := hid hr
  have T0 := hid ((Touch.refl (fun _ => False) wq).alloc (.cells #[.int .i64 r] 3))
  have B0 := hid (show (wq.alloc (.cells #[.int .i64 r] 3)).cell? ⟨wq.heap.size, 0, none⟩ = some (.int .i64 r) by unfold World.cell?; rw [block_new]; rfl)
  have S0 := hid (show wq.heap.size < (wq.alloc (.cells #[.int .i64 r] 3)).heap.size by simp)
  clear key hob hbo hr hbl
  go_enter Tryd.func54, Tryd.ntmps54
  go_upto_region 4 with fail
  generalize (wq.alloc (.cells #[.int .i64 r] 3)) = w1 at *
  obtain ⟨b3, hb3⟩ : ∃ b, b = wq.heap.size := ⟨_, rfl⟩
  rw [← hb3] at B0 S0 ⊢
  clear hb3
  have c3 := B0.out
  go_wp2_with fail
  refine (K.out w1 r T0.out (by have := HR.out; omega)).mono ?_
  rintro e w7 ⟨rfl, v7, hb7⟩
  have H7 := hid hb7
  clear hb7
  go_wp2
  refine bodyPost_end (results_none rfl _ _ _) rfl ?_
  exact ⟨rfl, v7, H7.out⟩

set_option maxRecDepth 100000 in
set_option maxHeartbeats 8000000 in
theorem utf8_two (bo q : Nat) (v : Value) (o : List Int) (r : Int) (wq : World) (hr : 128 ≤ r ∧ r < 2048) (hbo : wq.cell? ⟨bo, 0, none⟩ = some (.pointer (some ⟨q, 0, none⟩))) (hlb : bo < wq.heap.size) (hbq : bo ≠ q ∧ v.ownBlock ≠ some bo) (hob : Ob (fun k => k = q ∨ v.ownBlock = some k) wq wq q v o) (ho : o.length ≤ 549755813896) :
    Calls Tryd.prog 54 #[.func (.func 48) #[] #[.pointer (some ⟨bo, 0, none⟩)], .int .i64 r] wq fun e w' => e = .returned (.tuple #[]) ∧ ∃ v', Ob (fun k => k = q ∨ v.ownBlock = some k) wq w' q v' (o ++ [192 + r / 64, 128 + r % 64]) := by
  have hbl := lt_of_block hob.blk
  have key : ∀ (wz : World) (x0 x1 : Int), Touch (fun _ => False) wq wz → 0 ≤ x0 ∧ x0 ≤ 255 → 0 ≤ x1 ∧ x1 ≤ 255 → Calls Tryd.prog 48 #[.slice (some ⟨wz.heap.size, 0, none⟩) 2 2, .pointer (some ⟨bo, 0, none⟩)] (wz.alloc (.cells #[.int .i64 x0, .int .i64 x1] 3)) fun e w' => e = .returned (.tuple #[]) ∧ ∃ v', Ob (fun k => k = q ∨ v.ownBlock = some k) wq w' q v' (o ++ [x0, x1]) := fun wz x0 x1 tz hx0 hx1 => by
    have sz := tz.size
    have tA : Touch (fun _ => False) wq (wz.alloc (.cells #[.int .i64 x0, .int .i64 x1] 3)) := tz.alloc _
    have hoo := hob.still tA
    refine (put_any wz.heap.size 2 bo q [x0, x1] o v (wz.alloc (.cells #[.int .i64 x0, .int .i64 x1] 3)) (ig_new wz [x0, x1]) (fun z hz => by
        simp only [List.mem_cons, List.not_mem_nil, or_false] at hz
        rcases hz with rfl | rfl <;> assumption)
      (by rw [tA.cell (p := ⟨bo, 0, none⟩) hlb id]; exact hbo) (by simp; omega)
      hbq ⟨by omega, own_alloc (hob.still tz).own⟩ hoo.now (by simp; omega)).mono ?_
    rintro e w2 ⟨rfl, v', hb⟩
    exact ⟨rfl, v', hoo.back hb⟩
  have K := hid key
  have q0 : ¬ (r < 128) := by have := hr; omega
  have q1 : r < 2048 := by have := hr; omega
  have hor := or192 (r / 64) (by omega) (by omega)
  have HR := hid hr
  have T0 := hid ((Touch.refl (fun _ => False) wq).alloc (.cells #[.int .i64 r] 3))
  have B0 := hid (show (wq.alloc (.cells #[.int .i64 r] 3)).cell? ⟨wq.heap.size, 0, none⟩ = some (.int .i64 r) by unfold World.cell?; rw [block_new]; rfl)
  have S0 := hid (show wq.heap.size < (wq.alloc (.cells #[.int .i64 r] 3)).heap.size by simp)
  clear key hob hbo hr hbl
  go_enter Tryd.func54, Tryd.ntmps54
  go_upto_region 6 with fail
  generalize (wq.alloc (.cells #[.int .i64 r] 3)) = w1 at *
  obtain ⟨b3, hb3⟩ : ∃ b, b = wq.heap.size := ⟨_, rfl⟩
  rw [← hb3] at B0 S0 ⊢
  clear hb3
  have c3 := B0.out
  have Mk0 : True := trivial
  go_region_with (first | (clear Mk0; refine (further_any r 1 0 b3 _ (.inl ⟨rfl, rfl⟩) ⟨by have := HR.out; omega, by have := HR.out; omega⟩ (by exact B0.out)).mono ?_; rintro e wf0 ⟨rfl, tf⟩; have TF0 := hid (show Touch (fun _ => False) wq wf0 from (by first | exact T0.out.trans tf (fun _ _ e => e) | exact T0.out.drew.trans tf (fun _ _ e => e))); have BF0 := hid (show wf0.cell? ⟨b3, 0, none⟩ = some (.int .i64 r) from (tf.cell (p := ⟨b3, 0, none⟩) S0.out id).trans B0.out); have SF0 := hid (Nat.lt_of_lt_of_le S0.out tf.size); have cf0 := BF0.out; clear tf; have Mk1 : True := trivial) | (clear Mk1; refine (K.out wf0 (192 + r / 64) (128 + r % 64) TF0.out (by have := HR.out; omega) (by have := HR.out; omega)).mono ?_; rintro e w7 ⟨rfl, v7, hb7⟩; have H7 := hid hb7; clear hb7))
  all_goals
    go_wp2
    refine bodyPost_end (results_none rfl _ _ _) rfl ?_
    exact ⟨rfl, v7, H7.out⟩

set_option maxRecDepth 100000 in
set_option maxHeartbeats 8000000 in
theorem utf8_three (bo q : Nat) (v : Value) (o : List Int) (r : Int) (wq : World) (hr : 2048 ≤ r ∧ r < 65536) (hbo : wq.cell? ⟨bo, 0, none⟩ = some (.pointer (some ⟨q, 0, none⟩))) (hlb : bo < wq.heap.size) (hbq : bo ≠ q ∧ v.ownBlock ≠ some bo) (hob : Ob (fun k => k = q ∨ v.ownBlock = some k) wq wq q v o) (ho : o.length ≤ 549755813896) :
    Calls Tryd.prog 54 #[.func (.func 48) #[] #[.pointer (some ⟨bo, 0, none⟩)], .int .i64 r] wq fun e w' => e = .returned (.tuple #[]) ∧ ∃ v', Ob (fun k => k = q ∨ v.ownBlock = some k) wq w' q v' (o ++ [224 + r / 4096, 128 + r / 64 % 64, 128 + r % 64]) := by
  have hbl := lt_of_block hob.blk
  have key : ∀ (wz : World) (x0 x1 x2 : Int), Touch (fun _ => False) wq wz → 0 ≤ x0 ∧ x0 ≤ 255 → 0 ≤ x1 ∧ x1 ≤ 255 → 0 ≤ x2 ∧ x2 ≤ 255 → Calls Tryd.prog 48 #[.slice (some ⟨wz.heap.size, 0, none⟩) 3 3, .pointer (some ⟨bo, 0, none⟩)] (wz.alloc (.cells #[.int .i64 x0, .int .i64 x1, .int .i64 x2] 3)) fun e w' => e = .returned (.tuple #[]) ∧ ∃ v', Ob (fun k => k = q ∨ v.ownBlock = some k) wq w' q v' (o ++ [x0, x1, x2]) := fun wz x0 x1 x2 tz hx0 hx1 hx2 => by
    have sz := tz.size
    have tA : Touch (fun _ => False) wq (wz.alloc (.cells #[.int .i64 x0, .int .i64 x1, .int .i64 x2] 3)) := tz.alloc _
    have hoo := hob.still tA
    refine (put_any wz.heap.size 3 bo q [x0, x1, x2] o v (wz.alloc (.cells #[.int .i64 x0, .int .i64 x1, .int .i64 x2] 3)) (ig_new wz [x0, x1, x2]) (fun z hz => by
        simp only [List.mem_cons, List.not_mem_nil, or_false] at hz
        rcases hz with rfl | rfl | rfl <;> assumption)
      (by rw [tA.cell (p := ⟨bo, 0, none⟩) hlb id]; exact hbo) (by simp; omega)
      hbq ⟨by omega, own_alloc (hob.still tz).own⟩ hoo.now (by simp; omega)).mono ?_
    rintro e w2 ⟨rfl, v', hb⟩
    exact ⟨rfl, v', hoo.back hb⟩
  have K := hid key
  have q0 : ¬ (r < 128) := by have := hr; omega
  have q1 : ¬ (r < 2048) := by have := hr; omega
  have q2 : r < 65536 := by have := hr; omega
  have hor := or224 (r / 4096) (by omega) (by omega)
  have HR := hid hr
  have T0 := hid ((Touch.refl (fun _ => False) wq).alloc (.cells #[.int .i64 r] 3))
  have B0 := hid (show (wq.alloc (.cells #[.int .i64 r] 3)).cell? ⟨wq.heap.size, 0, none⟩ = some (.int .i64 r) by unfold World.cell?; rw [block_new]; rfl)
  have S0 := hid (show wq.heap.size < (wq.alloc (.cells #[.int .i64 r] 3)).heap.size by simp)
  clear key hob hbo hr hbl
  go_enter Tryd.func54, Tryd.ntmps54
  go_upto_region 8 with fail
  generalize (wq.alloc (.cells #[.int .i64 r] 3)) = w1 at *
  obtain ⟨b3, hb3⟩ : ∃ b, b = wq.heap.size := ⟨_, rfl⟩
  rw [← hb3] at B0 S0 ⊢
  clear hb3
  have c3 := B0.out
  have Mk0 : True := trivial
  go_region_with (first | (clear Mk0; refine (further_any r 64 6 b3 _ (.inr (.inl ⟨rfl, rfl⟩)) ⟨by have := HR.out; omega, by have := HR.out; omega⟩ (by exact B0.out)).mono ?_; rintro e wf0 ⟨rfl, tf⟩; have TF0 := hid (show Touch (fun _ => False) wq wf0 from (by first | exact T0.out.trans tf (fun _ _ e => e) | exact T0.out.drew.trans tf (fun _ _ e => e))); have BF0 := hid (show wf0.cell? ⟨b3, 0, none⟩ = some (.int .i64 r) from (tf.cell (p := ⟨b3, 0, none⟩) S0.out id).trans B0.out); have SF0 := hid (Nat.lt_of_lt_of_le S0.out tf.size); have cf0 := BF0.out; clear tf; have Mk1 : True := trivial) | (clear Mk1; refine (further_any r 1 0 b3 _ (.inl ⟨rfl, rfl⟩) ⟨by have := HR.out; omega, by have := HR.out; omega⟩ (by exact BF0.out)).mono ?_; rintro e wf1 ⟨rfl, tf⟩; have TF1 := hid (show Touch (fun _ => False) wq wf1 from (by first | exact TF0.out.trans tf (fun _ _ e => e) | exact TF0.out.drew.trans tf (fun _ _ e => e))); have BF1 := hid (show wf1.cell? ⟨b3, 0, none⟩ = some (.int .i64 r) from (tf.cell (p := ⟨b3, 0, none⟩) SF0.out id).trans BF0.out); have SF1 := hid (Nat.lt_of_lt_of_le SF0.out tf.size); have cf1 := BF1.out; clear tf; have Mk2 : True := trivial) | (clear Mk2; refine (K.out wf1 (224 + r / 4096) (128 + r / 64 % 64) (128 + r % 64) TF1.out (by have := HR.out; omega) (by have := HR.out; omega) (by have := HR.out; omega)).mono ?_; rintro e w7 ⟨rfl, v7, hb7⟩; have H7 := hid hb7; clear hb7))
  all_goals
    go_wp2
    refine bodyPost_end (results_none rfl _ _ _) rfl ?_
    exact ⟨rfl, v7, H7.out⟩

set_option maxRecDepth 100000 in
set_option maxHeartbeats 8000000 in
theorem utf8_four (bo q : Nat) (v : Value) (o : List Int) (r : Int) (wq : World) (hr : 65536 ≤ r ∧ r < 1114112) (hbo : wq.cell? ⟨bo, 0, none⟩ = some (.pointer (some ⟨q, 0, none⟩))) (hlb : bo < wq.heap.size) (hbq : bo ≠ q ∧ v.ownBlock ≠ some bo) (hob : Ob (fun k => k = q ∨ v.ownBlock = some k) wq wq q v o) (ho : o.length ≤ 549755813896) :
    Calls Tryd.prog 54 #[.func (.func 48) #[] #[.pointer (some ⟨bo, 0, none⟩)], .int .i64 r] wq fun e w' => e = .returned (.tuple #[]) ∧ ∃ v', Ob (fun k => k = q ∨ v.ownBlock = some k) wq w' q v' (o ++ [240 + r / 262144, 128 + r / 4096 % 64, 128 + r / 64 % 64, 128 + r % 64]) := by
  have hbl := lt_of_block hob.blk
  have key : ∀ (wz : World) (x0 x1 x2 x3 : Int), Touch (fun _ => False) wq wz → 0 ≤ x0 ∧ x0 ≤ 255 → 0 ≤ x1 ∧ x1 ≤ 255 → 0 ≤ x2 ∧ x2 ≤ 255 → 0 ≤ x3 ∧ x3 ≤ 255 → Calls Tryd.prog 48 #[.slice (some ⟨wz.heap.size, 0, none⟩) 4 4, .pointer (some ⟨bo, 0, none⟩)] (wz.alloc (.cells #[.int .i64 x0, .int .i64 x1, .int .i64 x2, .int .i64 x3] 3)) fun e w' => e = .returned (.tuple #[]) ∧ ∃ v', Ob (fun k => k = q ∨ v.ownBlock = some k) wq w' q v' (o ++ [x0, x1, x2, x3]) := fun wz x0 x1 x2 x3 tz hx0 hx1 hx2 hx3 => by
    have sz := tz.size
    have tA : Touch (fun _ => False) wq (wz.alloc (.cells #[.int .i64 x0, .int .i64 x1, .int .i64 x2, .int .i64 x3] 3)) := tz.alloc _
    have hoo := hob.still tA
    refine (put_any wz.heap.size 4 bo q [x0, x1, x2, x3] o v (wz.alloc (.cells #[.int .i64 x0, .int .i64 x1, .int .i64 x2, .int .i64 x3] 3)) (ig_new wz [x0, x1, x2, x3]) (fun z hz => by
        simp only [List.mem_cons, List.not_mem_nil, or_false] at hz
        rcases hz with rfl | rfl | rfl | rfl <;> assumption)
      (by rw [tA.cell (p := ⟨bo, 0, none⟩) hlb id]; exact hbo) (by simp; omega)
      hbq ⟨by omega, own_alloc (hob.still tz).own⟩ hoo.now (by simp; omega)).mono ?_
    rintro e w2 ⟨rfl, v', hb⟩
    exact ⟨rfl, v', hoo.back hb⟩
  have K := hid key
  have q0 : ¬ (r < 128) := by have := hr; omega
  have q1 : ¬ (r < 2048) := by have := hr; omega
  have q2 : ¬ (r < 65536) := by have := hr; omega
  have hor := or240 (r / 262144) (by omega) (by omega)
  have HR := hid hr
  have T0 := hid ((Touch.refl (fun _ => False) wq).alloc (.cells #[.int .i64 r] 3))
  have B0 := hid (show (wq.alloc (.cells #[.int .i64 r] 3)).cell? ⟨wq.heap.size, 0, none⟩ = some (.int .i64 r) by unfold World.cell?; rw [block_new]; rfl)
  have S0 := hid (show wq.heap.size < (wq.alloc (.cells #[.int .i64 r] 3)).heap.size by simp)
  clear key hob hbo hr hbl
  go_enter Tryd.func54, Tryd.ntmps54
  go_upto_region 2 with fail
  generalize (wq.alloc (.cells #[.int .i64 r] 3)) = w1 at *
  obtain ⟨b3, hb3⟩ : ∃ b, b = wq.heap.size := ⟨_, rfl⟩
  rw [← hb3] at B0 S0 ⊢
  clear hb3
  have c3 := B0.out
  have Mk0 : True := trivial
  go_region_with (first | (clear Mk0; refine (further_any r 4096 12 b3 _ (.inr (.inr ⟨rfl, rfl⟩)) ⟨by have := HR.out; omega, by have := HR.out; omega⟩ (by exact B0.out)).mono ?_; rintro e wf0 ⟨rfl, tf⟩; have TF0 := hid (show Touch (fun _ => False) wq wf0 from (by first | exact T0.out.trans tf (fun _ _ e => e) | exact T0.out.drew.trans tf (fun _ _ e => e))); have BF0 := hid (show wf0.cell? ⟨b3, 0, none⟩ = some (.int .i64 r) from (tf.cell (p := ⟨b3, 0, none⟩) S0.out id).trans B0.out); have SF0 := hid (Nat.lt_of_lt_of_le S0.out tf.size); have cf0 := BF0.out; clear tf; have Mk1 : True := trivial) | (clear Mk1; refine (further_any r 64 6 b3 _ (.inr (.inl ⟨rfl, rfl⟩)) ⟨by have := HR.out; omega, by have := HR.out; omega⟩ (by exact BF0.out)).mono ?_; rintro e wf1 ⟨rfl, tf⟩; have TF1 := hid (show Touch (fun _ => False) wq wf1 from (by first | exact TF0.out.trans tf (fun _ _ e => e) | exact TF0.out.drew.trans tf (fun _ _ e => e))); have BF1 := hid (show wf1.cell? ⟨b3, 0, none⟩ = some (.int .i64 r) from (tf.cell (p := ⟨b3, 0, none⟩) SF0.out id).trans BF0.out); have SF1 := hid (Nat.lt_of_lt_of_le SF0.out tf.size); have cf1 := BF1.out; clear tf; have Mk2 : True := trivial) | (clear Mk2; refine (further_any r 1 0 b3 _ (.inl ⟨rfl, rfl⟩) ⟨by have := HR.out; omega, by have := HR.out; omega⟩ (by exact BF1.out)).mono ?_; rintro e wf2 ⟨rfl, tf⟩; have TF2 := hid (show Touch (fun _ => False) wq wf2 from (by first | exact TF1.out.trans tf (fun _ _ e => e) | exact TF1.out.drew.trans tf (fun _ _ e => e))); have BF2 := hid (show wf2.cell? ⟨b3, 0, none⟩ = some (.int .i64 r) from (tf.cell (p := ⟨b3, 0, none⟩) SF1.out id).trans BF1.out); have SF2 := hid (Nat.lt_of_lt_of_le SF1.out tf.size); have cf2 := BF2.out; clear tf; have Mk3 : True := trivial) | (clear Mk3; refine (K.out wf2 (240 + r / 262144) (128 + r / 4096 % 64) (128 + r / 64 % 64) (128 + r % 64) TF2.out (by have := HR.out; omega) (by have := HR.out; omega) (by have := HR.out; omega) (by have := HR.out; omega)).mono ?_; rintro e w7 ⟨rfl, v7, hb7⟩; have H7 := hid hb7; clear hb7))
  all_goals
    go_wp2
    refine bodyPost_end (results_none rfl _ _ _) rfl ?_
    exact ⟨rfl, v7, H7.out⟩
end Go.Proofs.YtabhlhgfacpohaaDoor

/- The putter of UTF-8; conditions: those told. -/
namespace Go.Proofs.YtabhlhgfacpohaaDoor
open Go.RowKit
attribute [local go_sem] run_store_func

/-- The bytes of a scalar by UTF-8. -/
def en8 (r : Int) : List Int := if r < 128 then [r] else if r < 2048 then [192 + r / 64, 128 + r % 64] else if r < 65536 then [224 + r / 4096, 128 + r / 64 % 64, 128 + r % 64] else [240 + r / 262144, 128 + r / 4096 % 64, 128 + r / 64 % 64, 128 + r % 64]
theorem utf8_any (bo q : Nat) (v : Value) (o : List Int) (r : Int) (wq : World) (hr : 0 ≤ r ∧ r ≤ 1114111) (hbo : wq.cell? ⟨bo, 0, none⟩ = some (.pointer (some ⟨q, 0, none⟩))) (hlb : bo < wq.heap.size) (hbq : bo ≠ q ∧ v.ownBlock ≠ some bo) (hob : Ob (fun k => k = q ∨ v.ownBlock = some k) wq wq q v o) (ho : o.length ≤ 549755813896) :
    Calls Tryd.prog 54 #[.func (.func 48) #[] #[.pointer (some ⟨bo, 0, none⟩)], .int .i64 r] wq fun e w' => e = .returned (.tuple #[]) ∧ ∃ v', Ob (fun k => k = q ∨ v.ownBlock = some k) wq w' q v' (o ++ en8 r) := by
  unfold en8
  split
  · exact utf8_one bo q v o r wq (by omega) hbo hlb hbq hob ho
  · split
    · exact utf8_two bo q v o r wq (by omega) hbo hlb hbq hob ho
    · split
      · exact utf8_three bo q v o r wq (by omega) hbo hlb hbq hob ho
      · exact utf8_four bo q v o r wq (by omega) hbo hlb hbq hob ho
set_option maxRecDepth 100000 in
theorem putter_utf8 (q : Nat) (w : World) : Calls Tryd.prog 26 #[.pointer (some ⟨q, 0, none⟩), .int .i64 1] w fun e w' => ∃ bo b5, e = .returned (.func (.func 53) #[] #[.pointer (some ⟨b5, 0, none⟩)]) ∧ Own1 w.heap.size w' bo (.pointer (some ⟨q, 0, none⟩)) ∧ Own1 w.heap.size w' b5 (.func (.func 48) #[] #[.pointer (some ⟨bo, 0, none⟩)]) ∧ Touch (fun _ => False) w w' := by
  go_enter Tryd.func26, Tryd.ntmps26
  go_wp2
  go_ret
  exact ⟨_, _, rfl, (Own1.made rfl (Nat.le_refl _)).alloc _, Own1.made (by simp) (by omega), ((Touch.refl _ w).alloc _).alloc _⟩
set_option maxRecDepth 100000 in
theorem put_utf8 {lo : Nat} {w : World} {bo b5 q : Nat} (h1 : Own1 lo w bo (.pointer (some ⟨q, 0, none⟩))) (h2 : Own1 lo w b5 (.func (.func 48) #[] #[.pointer (some ⟨bo, 0, none⟩)])) : PutOk lo w 53 b5 q (fun r => 0 ≤ r ∧ r ≤ 1114111) en8 549755813888 := by
  intro wq v o r hk hs hv hq hob hr ho
  have c5 : wq.cell? ⟨b5, 0, none⟩ = some (.func (.func 48) #[] #[.pointer (some ⟨bo, 0, none⟩)]) := (cell_heap (hk b5 h2.ge h2.lt)).trans h2.cell
  have b1 := h1.ge
  have b2 := h1.lt
  have K := hid (utf8_any bo q v o r wq hr ((cell_heap (hk bo h1.ge h1.lt)).trans h1.cell) (by omega) ⟨by omega, fun e => by rcases hv bo e with p | p <;> omega⟩ hob (by omega))
  clear hk hv hob h1 h2
  go_enter Tryd.func53, Tryd.ntmps53
  go_wp2_with fail
  refine K.out.mono ?_
  rintro e w2 ⟨rfl, v', hb⟩
  have H2 := hid hb
  clear hb K
  go_wp2
  refine bodyPost_end (results_none rfl _ _ _) rfl ?_
  exact ⟨rfl, v', H2.out⟩
end Go.Proofs.YtabhlhgfacpohaaDoor

/- Encode of any numbers in every coding; conditions: those told. -/
namespace Go.Proofs.YtabhlhgfacpohaaDoor
open Go.RowKit
open Go.Lib

def scB (r : Int) : Bool := decide (0 ≤ r) && (decide (r ≤ 1114111) && !(decide (55296 ≤ r) && decide (r < 57344)))
theorem scB_iff (r : Int) : scB r = true ↔ 0 ≤ r ∧ r ≤ 1114111 ∧ (r < 55296 ∨ 57344 ≤ r) := by
  unfold scB
  simp only [Bool.and_eq_true, decide_eq_true_eq, Bool.not_eq_true', Bool.and_eq_false_iff, decide_eq_false_iff_not]
  omega
set_option maxRecDepth 100000 in
theorem scalar_any (r : Int) (w : World) : Calls Tryd.prog 27 #[.int .i64 r] w fun e w' => e = .returned (.bool (scB r)) ∧ w = w' := by
  have K := hid (isHalf_any r w)
  obtain ⟨h, hh⟩ : ∃ h, h = (decide (55296 ≤ r) && decide (r < 57344)) := ⟨_, rfl⟩
  rw [← hh] at K
  have HS := hid (show scB r = (decide (0 ≤ r) && (decide (r ≤ 1114111) && !h)) by rw [hh]; rfl)
  rw [HS.out]
  clear hh HS
  by_cases h0 : 0 ≤ r
  · by_cases h1 : r ≤ 1114111
    · go_enter Tryd.func27, Tryd.ntmps27
      go_wp2_with fail
      refine K.out.mono ?_
      rintro e w1 ⟨rfl, rfl⟩
      go_wp2
      go_ret
      exact ⟨by simp [h0, h1], rfl⟩
    · have HF := hid (show (decide (0 ≤ r) && (decide (r ≤ 1114111) && !h)) = false by rw [decide_eq_false h1, Bool.false_and, Bool.and_false])
      rw [HF.out]
      clear HF
      go_enter Tryd.func27, Tryd.ntmps27
      go_wp2
      go_ret
      exact ⟨rfl, rfl⟩
  · have HF := hid (show (decide (0 ≤ r) && (decide (r ≤ 1114111) && !h)) = false by rw [decide_eq_false h0, Bool.false_and])
    rw [HF.out]
    clear HF
    go_enter Tryd.func27, Tryd.ntmps27
    go_wp2
    go_ret
    exact ⟨rfl, rfl⟩

def enc (c : Nat) (r : Int) : List Int := if c = 1 then en8 r else if c = 2 then en16 50 r else if c = 3 then en16 51 r else [r]
def okc (c : Nat) (r : Int) : Bool := scB r && (decide (c ≠ 4) || decide (r ≤ 255))
def topc (c : Nat) : Int := if c = 4 then 255 else 1114111
theorem enc_len (c : Nat) (r : Int) : (enc c r).length ≤ 4 := by
  unfold enc en8 en16 enU
  repeat' split
  all_goals simp
theorem flat_len (c : Nat) : ∀ l : List Int, (l.flatMap (enc c)).length ≤ 4 * l.length
  | [] => by simp
  | x :: l => by
    have := enc_len c x
    have := flat_len c l
    simp only [List.flatMap_cons, List.length_append, List.length_cons]
    omega
theorem flat_more (c : Nat) (l : List Int) (i : Nat) (hi : i < l.length) (o : List Int) : o ++ (l.take (i + 1)).flatMap (enc c) = o ++ (l.take i).flatMap (enc c) ++ enc c l[i] := by
  rw [List.take_succ_eq_append_getElem hi, List.flatMap_append, ← List.append_assoc]
  simp
theorem okc_in {c : Nat} {r : Int} (h : okc c r = true) : 0 ≤ r ∧ r ≤ topc c := by
  unfold okc at h
  rw [Bool.and_eq_true, scB_iff] at h
  unfold topc
  split
  · rename_i e
    subst e
    simp at h
    omega
  · omega
def encR (c : Nat) (mark : Bool) (l : List Int) : Value := if l.all (okc c) = true then .tuple #[.string (strOfNums ((if mark then nums (mk c) else []) ++ l.flatMap (enc c))), .int .i64 0] else .tuple #[.string ⟨#[]⟩, .int .i64 17]
theorem encR_bad {c : Nat} {mark : Bool} {l : List Int} (i : Nat) (hi : i < l.length) (h : okc c l[i] = false) : encR c mark l = .tuple #[.string ⟨#[]⟩, .int .i64 17] := by
  unfold encR
  rw [if_neg]
  intro e
  rw [List.all_eq_true] at e
  have := e _ (List.getElem_mem hi)
  rw [h] at this
  cases this
theorem all_take {p : Int → Bool} {l : List Int} {i : Nat} (hi : i < l.length) (h : (l.take i).all p = true) (hx : p l[i] = true) : (l.take (i + 1)).all p = true := by
  rw [List.take_succ_eq_append_getElem hi, List.all_append, h, List.all_cons, hx]
  rfl
theorem putter_all (c fid : Nat) (hc : (c = 1 ∧ fid = 53) ∨ (c = 2 ∧ fid = 72) ∨ (c = 3 ∧ fid = 72) ∨ (c = 4 ∧ fid = 52)) (q : Nat) (w : World) : Calls Tryd.prog 26 #[.pointer (some ⟨q, 0, none⟩), .int .i64 (c : Nat)] w fun e w' => ∃ b, e = .returned (.func (.func fid) #[] #[.pointer (some ⟨b, 0, none⟩)]) ∧ PutOk w.heap.size w' fid b q (fun r => 0 ≤ r ∧ r ≤ topc c) (enc c) 549755813888 ∧ Touch (fun _ => False) w w' := by
  rcases hc with ⟨rfl, rfl⟩ | ⟨rfl, rfl⟩ | ⟨rfl, rfl⟩ | ⟨rfl, rfl⟩
  · refine (putter_utf8 q w).mono ?_
    rintro e w' ⟨bo, b5, rfl, o1, o2, t⟩
    exact ⟨b5, rfl, put_utf8 o1 o2, t⟩
  · refine (putter_pair q 2 50 (by omega) w).mono ?_
    rintro e w' ⟨b6, rfl, h, t⟩
    exact ⟨b6, rfl, h, t⟩
  · refine (putter_pair q 3 51 (by omega) w).mono ?_
    rintro e w' ⟨b6, rfl, h, t⟩
    exact ⟨b6, rfl, h, t⟩
  · refine (putter_four q w).mono ?_
    rintro e w' ⟨bo, b5, rfl, o1, o2, t⟩
    exact ⟨b5, rfl, put_latin o1 o2, t⟩

set_option maxRecDepth 100000 in
theorem encode_out (a : Option Addr) (n k : Nat) (c : Int) (mark : Bool) (w : World) (h : c < 1 ∨ (1 ≤ c ∧ 4 < c)) : Calls Tryd.prog 14 #[.slice a n k, .int .i64 c, .bool mark] w fun e w' => e = .returned (.tuple #[.string ⟨#[]⟩, .int .i64 1]) ∧ Touch (fun _ => False) w w' := by
  have T := hid (Touch.refl (fun _ => False) w)
  rcases h with h | ⟨h0, h⟩
  · go_enter Tryd.func14, Tryd.ntmps14
    go_wp2
    refine bodyPost_ret (results_tmp2 rfl _ _ _) rfl ?_
    exact ⟨rfl, T.out⟩
  · have hn : ¬ (c < 1) := by omega
    go_enter Tryd.func14, Tryd.ntmps14
    go_wp2
    refine bodyPost_ret (results_tmp2 rfl _ _ _) rfl ?_
    exact ⟨rfl, T.out⟩
end Go.Proofs.YtabhlhgfacpohaaDoor

/- What the document's utf8 tells is what the program's takeUTF8 tells, plain facts; no condition beside those told. -/
namespace Go.Proofs.YtabhlhgfacpohaaDoor

def dkBad (m v : Nat) : Bool :=
  if m = 1 then false
  else if m = 2 then decide (64 * v + 63 < 2048) || (decide (55296 ≤ 64 * v) && decide (64 * v + 63 ≤ 57343))
  else decide (4096 * v + 4095 < 65536) || decide (1114111 < 4096 * v)
def dkGo (s : ByteArray) (a m : Nat) : Nat → Nat → Nat → Int × Nat
  | 0, _, v => ((v : Int), m + 1)
  | f + 1, k, v => if s.size ≤ a + k then (-1, k) else if byN s (a + k) < 128 ∨ 191 < byN s (a + k) then (-1, k) else if k = 1 ∧ dkBad m (64 * v + byN s (a + k) - 128) = true then (-1, 1) else dkGo s a m f (k + 1) (64 * v + byN s (a + k) - 128)
def dkLead (b : Nat) : Nat × Nat := if 194 ≤ b ∧ b ≤ 223 then (1, b - 192) else if 224 ≤ b ∧ b ≤ 239 then (2, b - 224) else if 240 ≤ b ∧ b ≤ 244 then (3, b - 240) else (0, 0)
def dk8 (s : ByteArray) (a : Nat) : Int × Nat := if byN s a < 128 then ((byN s a : Int), 1) else if (dkLead (byN s a)).1 = 0 then (-1, 1) else dkGo s a (dkLead (byN s a)).1 (dkLead (byN s a)).1 1 (dkLead (byN s a)).2

theorem by_extract (s : ByteArray) (a i : Nat) (h : a + i < s.size) : byN (s.extract a s.size) i = byN s (a + i) := by
  unfold byN
  have h1 : i < (s.extract a s.size).size := by rw [ByteArray.size_extract]; omega
  rw [dif_pos h1, dif_pos h, ByteArray.getElem_extract]
theorem size_rest (s : ByteArray) (a : Nat) : (s.extract a s.size).size = s.size - a := by rw [ByteArray.size_extract]; omega
/-- Behind the second byte both go alike. -/
theorem go_alike (s : ByteArray) (a m : Nat) (ha : a < s.size) : ∀ (f k v : Nat), 2 ≤ k → a + k ≤ s.size → dkGo s a m f k v = tkGo (s.extract a s.size) m f k v 128 191
  | 0, k, v, _, _ => by
    unfold dkGo tkGo
    rw [Nat.add_comm]
  | f + 1, k, v, hk, hak => by
    unfold dkGo tkGo
    rw [size_rest]
    by_cases h : s.size ≤ a + k
    · rw [if_pos h, if_pos (.inl (by omega))]
    · rw [if_neg h, by_extract s a k (by omega)]
      by_cases h2 : byN s (a + k) < 128 ∨ 191 < byN s (a + k)
      · rw [if_pos h2, if_pos (.inr h2)]
      · rw [if_neg h2, if_neg (by omega), if_neg (by omega)]
        have e : 64 * v + byN s (a + k) - 128 = 64 * v + byN s (a + k) % 64 := by
          have := by_lt s (a + k)
          omega
        rw [e]
        exact go_alike s a m ha f (k + 1) _ (by omega) (by omega)
/-- The second byte, by both. -/
theorem second_alike (s : ByteArray) (a m v lo hi : Nat) (hm : 1 ≤ m) (ha : a < s.size) (h : ∀ y, 128 ≤ y → y ≤ 191 → (dkBad m (64 * v + y - 128) = true ↔ (y < lo ∨ hi < y))) (hlo : 128 ≤ lo) (hhi : hi ≤ 191) :
    dkGo s a m m 1 v = tkGo (s.extract a s.size) m m 1 v lo hi := by
  obtain ⟨f, rfl⟩ : ∃ f, m = f + 1 := ⟨m - 1, by omega⟩
  unfold dkGo tkGo
  rw [size_rest]
  by_cases h1 : s.size ≤ a + 1
  · rw [if_pos h1, if_pos (.inl (by omega))]
  · rw [if_neg h1, by_extract s a 1 (by omega)]
    have hy := by_lt s (a + 1)
    by_cases h2 : byN s (a + 1) < 128 ∨ 191 < byN s (a + 1)
    · rw [if_pos h2, if_pos (by omega)]
    · rw [if_neg h2]
      have hb := h (byN s (a + 1)) (by omega) (by omega)
      by_cases h3 : byN s (a + 1) < lo ∨ hi < byN s (a + 1)
      · rw [if_pos ⟨rfl, hb.2 h3⟩, if_pos (.inr h3)]
      · rw [if_neg (fun q => h3 (hb.1 q.2)), if_neg (by omega)]
        have e : 64 * v + byN s (a + 1) - 128 = 64 * v + byN s (a + 1) % 64 := by omega
        rw [e]
        exact go_alike s a (f + 1) ha f 2 _ (Nat.le_refl _) (by omega)
theorem lead_low {b : Nat} (h : b < 128) : leadOf b = some ⟨0, 127, 0, 0, 0⟩ := by
  unfold leadOf leadsL
  rw [List.find?_cons_of_pos]
  unfold hasLead
  simp
  omega
theorem find_row (b : Nat) (pre post : List Lead) (l : Lead) (hp : ∀ x ∈ pre, hasLead b x = false) (h : hasLead b l = true) : (pre ++ l :: post).find? (hasLead b) = some l := by
  rw [List.find?_append, List.find?_eq_none.2 (fun x hx => by rw [hp x hx]; simp), List.find?_cons_of_pos h]
  rfl
theorem no_lead (b : Nat) (l : Lead) (h : b < l.first ∨ l.last < b) : hasLead b l = false := by
  unfold hasLead
  simp
  omega
theorem is_lead (b : Nat) (l : Lead) (h : l.first ≤ b ∧ b ≤ l.last) : hasLead b l = true := by
  unfold hasLead
  simp
  omega
theorem dk_tk (s : ByteArray) (a : Nat) (ha : a < s.size) : dk8 s a = tk8 (s.extract a s.size) := by
  have h0 : byN (s.extract a s.size) 0 = byN s a := by rw [by_extract s a 0 (by omega), Nat.add_zero]
  unfold dk8 tk8
  rw [h0]
  have hb := by_lt s a
  generalize byN s a = b at *
  by_cases h1 : b < 128
  · rw [if_pos h1, lead_low h1]
    show _ = tkGo _ 0 0 1 (b % 2 ^ 7) 0 0
    unfold tkGo
    rw [Nat.mod_eq_of_lt (by omega)]
  rw [if_neg h1]
  have row : ∀ (pre post : List Lead) (l : Lead), leadsL = pre ++ l :: post → (∀ x ∈ pre, b < x.first ∨ x.last < b) → l.first ≤ b ∧ b ≤ l.last → leadOf b = some l := fun pre post l e hp hl => by
    unfold leadOf
    rw [e]
    exact find_row b pre post l (fun x hx => no_lead b x (hp x hx)) (is_lead b l hl)
  have fin : ∀ (pre post : List Lead) (l : Lead), leadsL = pre ++ l :: post → (∀ x ∈ pre, b < x.first ∨ x.last < b) → l.first ≤ b ∧ b ≤ l.last → 1 ≤ l.more → 128 ≤ l.low → l.high ≤ 191 → (dkLead b).1 = l.more → (dkLead b).2 = b % 2 ^ (7 - l.more) → (∀ y, 128 ≤ y → y ≤ 191 → (dkBad l.more (64 * (dkLead b).2 + y - 128) = true ↔ (y < l.low ∨ l.high < y))) →
      (if (dkLead b).1 = 0 then ((-1 : Int), 1) else dkGo s a (dkLead b).1 (dkLead b).1 1 (dkLead b).2) = (match leadOf b with | none => (-1, 1) | some l => tkGo (s.extract a s.size) l.more l.more 1 (b % 2 ^ (7 - l.more)) l.low l.high) := fun pre post l e hp hl h1 h2 h3 h4 h5 h6 => by
    rw [row pre post l e hp hl, h4, if_neg (by omega)]
    show _ = tkGo (s.extract a s.size) l.more l.more 1 (b % 2 ^ (7 - l.more)) l.low l.high
    rw [← h5]
    exact second_alike s a l.more (dkLead b).2 l.low l.high h1 ha h6 h2 h3
  by_cases c1 : 194 ≤ b ∧ b ≤ 223
  · have hd : dkLead b = (1, b - 192) := by unfold dkLead; rw [if_pos (by omega)]
    refine fin [⟨0, 127, 0, 0, 0⟩] [⟨224, 224, 2, 160, 191⟩, ⟨225, 236, 2, 128, 191⟩, ⟨237, 237, 2, 128, 159⟩, ⟨238, 239, 2, 128, 191⟩, ⟨240, 240, 3, 144, 191⟩, ⟨241, 243, 3, 128, 191⟩, ⟨244, 244, 3, 128, 143⟩] ⟨194, 223, 1, 128, 191⟩ rfl (by simp; omega) c1 (by decide) (by decide) (by decide) (by rw [hd]) (by rw [hd]; show b - 192 = b % 64; omega) (fun y hy1 hy2 => ?_)
    rw [hd]
    show dkBad 1 (64 * (b - 192) + y - 128) = true ↔ (y < 128 ∨ 191 < y)
    simp [dkBad]
    omega
  by_cases c2 : 224 ≤ b ∧ b ≤ 224
  · have hd : dkLead b = (2, b - 224) := by unfold dkLead; rw [if_neg (by omega), if_pos (by omega)]
    refine fin [⟨0, 127, 0, 0, 0⟩, ⟨194, 223, 1, 128, 191⟩] [⟨225, 236, 2, 128, 191⟩, ⟨237, 237, 2, 128, 159⟩, ⟨238, 239, 2, 128, 191⟩, ⟨240, 240, 3, 144, 191⟩, ⟨241, 243, 3, 128, 191⟩, ⟨244, 244, 3, 128, 143⟩] ⟨224, 224, 2, 160, 191⟩ rfl (by simp; omega) c2 (by decide) (by decide) (by decide) (by rw [hd]) (by rw [hd]; show b - 224 = b % 32; omega) (fun y hy1 hy2 => ?_)
    rw [hd]
    show dkBad 2 (64 * (b - 224) + y - 128) = true ↔ (y < 160 ∨ 191 < y)
    simp [dkBad]
    omega
  by_cases c3 : 225 ≤ b ∧ b ≤ 236
  · have hd : dkLead b = (2, b - 224) := by unfold dkLead; rw [if_neg (by omega), if_pos (by omega)]
    refine fin [⟨0, 127, 0, 0, 0⟩, ⟨194, 223, 1, 128, 191⟩, ⟨224, 224, 2, 160, 191⟩] [⟨237, 237, 2, 128, 159⟩, ⟨238, 239, 2, 128, 191⟩, ⟨240, 240, 3, 144, 191⟩, ⟨241, 243, 3, 128, 191⟩, ⟨244, 244, 3, 128, 143⟩] ⟨225, 236, 2, 128, 191⟩ rfl (by simp; omega) c3 (by decide) (by decide) (by decide) (by rw [hd]) (by rw [hd]; show b - 224 = b % 32; omega) (fun y hy1 hy2 => ?_)
    rw [hd]
    show dkBad 2 (64 * (b - 224) + y - 128) = true ↔ (y < 128 ∨ 191 < y)
    simp [dkBad]
    omega
  by_cases c4 : 237 ≤ b ∧ b ≤ 237
  · have hd : dkLead b = (2, b - 224) := by unfold dkLead; rw [if_neg (by omega), if_pos (by omega)]
    refine fin [⟨0, 127, 0, 0, 0⟩, ⟨194, 223, 1, 128, 191⟩, ⟨224, 224, 2, 160, 191⟩, ⟨225, 236, 2, 128, 191⟩] [⟨238, 239, 2, 128, 191⟩, ⟨240, 240, 3, 144, 191⟩, ⟨241, 243, 3, 128, 191⟩, ⟨244, 244, 3, 128, 143⟩] ⟨237, 237, 2, 128, 159⟩ rfl (by simp; omega) c4 (by decide) (by decide) (by decide) (by rw [hd]) (by rw [hd]; show b - 224 = b % 32; omega) (fun y hy1 hy2 => ?_)
    rw [hd]
    show dkBad 2 (64 * (b - 224) + y - 128) = true ↔ (y < 128 ∨ 159 < y)
    simp [dkBad]
    omega
  by_cases c5 : 238 ≤ b ∧ b ≤ 239
  · have hd : dkLead b = (2, b - 224) := by unfold dkLead; rw [if_neg (by omega), if_pos (by omega)]
    refine fin [⟨0, 127, 0, 0, 0⟩, ⟨194, 223, 1, 128, 191⟩, ⟨224, 224, 2, 160, 191⟩, ⟨225, 236, 2, 128, 191⟩, ⟨237, 237, 2, 128, 159⟩] [⟨240, 240, 3, 144, 191⟩, ⟨241, 243, 3, 128, 191⟩, ⟨244, 244, 3, 128, 143⟩] ⟨238, 239, 2, 128, 191⟩ rfl (by simp; omega) c5 (by decide) (by decide) (by decide) (by rw [hd]) (by rw [hd]; show b - 224 = b % 32; omega) (fun y hy1 hy2 => ?_)
    rw [hd]
    show dkBad 2 (64 * (b - 224) + y - 128) = true ↔ (y < 128 ∨ 191 < y)
    simp [dkBad]
    omega
  by_cases c6 : 240 ≤ b ∧ b ≤ 240
  · have hd : dkLead b = (3, b - 240) := by unfold dkLead; rw [if_neg (by omega), if_neg (by omega), if_pos (by omega)]
    refine fin [⟨0, 127, 0, 0, 0⟩, ⟨194, 223, 1, 128, 191⟩, ⟨224, 224, 2, 160, 191⟩, ⟨225, 236, 2, 128, 191⟩, ⟨237, 237, 2, 128, 159⟩, ⟨238, 239, 2, 128, 191⟩] [⟨241, 243, 3, 128, 191⟩, ⟨244, 244, 3, 128, 143⟩] ⟨240, 240, 3, 144, 191⟩ rfl (by simp; omega) c6 (by decide) (by decide) (by decide) (by rw [hd]) (by rw [hd]; show b - 240 = b % 16; omega) (fun y hy1 hy2 => ?_)
    rw [hd]
    show dkBad 3 (64 * (b - 240) + y - 128) = true ↔ (y < 144 ∨ 191 < y)
    simp [dkBad]
    omega
  by_cases c7 : 241 ≤ b ∧ b ≤ 243
  · have hd : dkLead b = (3, b - 240) := by unfold dkLead; rw [if_neg (by omega), if_neg (by omega), if_pos (by omega)]
    refine fin [⟨0, 127, 0, 0, 0⟩, ⟨194, 223, 1, 128, 191⟩, ⟨224, 224, 2, 160, 191⟩, ⟨225, 236, 2, 128, 191⟩, ⟨237, 237, 2, 128, 159⟩, ⟨238, 239, 2, 128, 191⟩, ⟨240, 240, 3, 144, 191⟩] [⟨244, 244, 3, 128, 143⟩] ⟨241, 243, 3, 128, 191⟩ rfl (by simp; omega) c7 (by decide) (by decide) (by decide) (by rw [hd]) (by rw [hd]; show b - 240 = b % 16; omega) (fun y hy1 hy2 => ?_)
    rw [hd]
    show dkBad 3 (64 * (b - 240) + y - 128) = true ↔ (y < 128 ∨ 191 < y)
    simp [dkBad]
    omega
  by_cases c8 : 244 ≤ b ∧ b ≤ 244
  · have hd : dkLead b = (3, b - 240) := by unfold dkLead; rw [if_neg (by omega), if_neg (by omega), if_pos (by omega)]
    refine fin [⟨0, 127, 0, 0, 0⟩, ⟨194, 223, 1, 128, 191⟩, ⟨224, 224, 2, 160, 191⟩, ⟨225, 236, 2, 128, 191⟩, ⟨237, 237, 2, 128, 159⟩, ⟨238, 239, 2, 128, 191⟩, ⟨240, 240, 3, 144, 191⟩, ⟨241, 243, 3, 128, 191⟩] [] ⟨244, 244, 3, 128, 143⟩ rfl (by simp; omega) c8 (by decide) (by decide) (by decide) (by rw [hd]) (by rw [hd]; show b - 240 = b % 16; omega) (fun y hy1 hy2 => ?_)
    rw [hd]
    show dkBad 3 (64 * (b - 240) + y - 128) = true ↔ (y < 128 ∨ 143 < y)
    simp [dkBad]
    omega
  have hn : leadOf b = none := by
    unfold leadOf
    rw [List.find?_eq_none]
    intro x hx
    simp only [leadsL, List.mem_cons, List.not_mem_nil, or_false] at hx
    rw [no_lead b x (by rcases hx with rfl | rfl | rfl | rfl | rfl | rfl | rfl | rfl | rfl <;> dsimp only <;> omega)]
    simp
  rw [hn, show dkLead b = (0, 0) by unfold dkLead; rw [if_neg (by omega), if_neg (by omega), if_neg (by omega)]]
  rfl
end Go.Proofs.YtabhlhgfacpohaaDoor
