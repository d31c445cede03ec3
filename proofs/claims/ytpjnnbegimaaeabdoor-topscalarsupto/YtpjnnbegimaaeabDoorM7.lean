/- Texts of this proof, one behind the other: what each says stands ahead of it. -/
import Derived.Test.YtpjnnbegimaaeabDoorM6
import Derived.Deep.RegionWith
/- putUTF8; conditions: those told. -/
namespace Go.Proofs.YtpjnnbegimaaeabDoor
open Go.RowKit

set_option maxRecDepth 100000 in
set_option maxHeartbeats 8000000 in
theorem utf8_one (bo q : Nat) (v : Value) (o : List Int) (r : Int) (wq : World) (hr : 0 ≤ r ∧ r < 128) (hbo : wq.cell? ⟨bo, 0, none⟩ = some (.pointer (some ⟨q, 0, none⟩))) (hlb : bo < wq.heap.size) (hbq : bo ≠ q ∧ v.ownBlock ≠ some bo) (hob : Ob (fun k => k = q ∨ v.ownBlock = some k) wq wq q v o) (ho : o.length ≤ 549755813896) :
    Calls Tryd.prog 37 #[.func (.func 31) #[] #[.pointer (some ⟨bo, 0, none⟩)], .int .i64 r] wq fun e w' => e = .returned (.tuple #[]) ∧ ∃ v', Ob (fun k => k = q ∨ v.ownBlock = some k) wq w' q v' (o ++ [r]) := by
  have hbl := lt_of_block hob.blk
  have key : ∀ (wz : World) (x0 : Int), Touch (fun _ => False) wq wz → 0 ≤ x0 ∧ x0 ≤ 255 → Calls Tryd.prog 31 #[.slice (some ⟨wz.heap.size, 0, none⟩) 1 1, .pointer (some ⟨bo, 0, none⟩)] (wz.alloc (.cells #[.int .i64 x0] 3)) fun e w' => e = .returned (.tuple #[]) ∧ ∃ v', Ob (fun k => k = q ∨ v.ownBlock = some k) wq w' q v' (o ++ [x0]) := fun wz x0 tz hx0 => by
    have sz := tz.size
    have tA : Touch (fun _ => False) wq (wz.alloc (.cells #[.int .i64 x0] 3)) := tz.alloc _
    have hoo := hob.still tA
    refine (put_any wz.heap.size 1 bo q [x0] o v (wz.alloc (.cells #[.int .i64 x0] 3)) (ig_new wz [x0]) (fun z hz => by
        simp only [List.mem_cons, List.not_mem_nil, or_false] at hz
        subst hz; assumption)
      (by rw [tA.cell (p := ⟨bo, 0, none⟩) hlb id]; exact hbo) (by simp; omega)
      hbq ⟨by omega, own_alloc (hob.still tz).own⟩ hoo.now (by simp; omega)).mono ?_
    rintro e w2 ⟨rfl, v', hb⟩
    exact ⟨rfl, v', hoo.back hb⟩
  have K := hid key
  have q0 : r < 128 := by have := hr; omega
  have HR := hid hr
  have T0 := hid ((Touch.refl (fun _ => False) wq).alloc (.cells #[.int .i64 r] 3))
  have B0 := hid (show (wq.alloc (.cells #[.int .i64 r] 3)).cell? ⟨wq.heap.size, 0, none⟩ = some (.int .i64 r) by unfold World.cell?; rw [block_new]; rfl)
  have S0 := hid (show wq.heap.size < (wq.alloc (.cells #[.int .i64 r] 3)).heap.size by simp)
  clear key hob hbo hr hbl
  go_enter Tryd.func37, Tryd.ntmps37
  go_upto_region 4 with fail
  generalize (wq.alloc (.cells #[.int .i64 r] 3)) = w1 at *
  obtain ⟨b3, hb3⟩ : ∃ b, b = wq.heap.size := ⟨_, rfl⟩
  rw [← hb3] at B0 S0 ⊢
  clear hb3
  have c3 := B0.out
  go_wp2_with fail
  refine (K.out w1 r T0.out (by have := HR.out; omega)).mono ?_
  rintro e w7 ⟨rfl, v7, hb7⟩
  have H7 := hid hb7
  clear hb7
  go_wp2
  refine bodyPost_end (results_none rfl _ _ _) rfl ?_
  exact ⟨rfl, v7, H7.out⟩

set_option maxRecDepth 100000 in
set_option maxHeartbeats 8000000 in
theorem utf8_two (bo q : Nat) (v : Value) (o : List Int) (r : Int) (wq : World) (hr : 128 ≤ r ∧ r < 2048) (hbo : wq.cell? ⟨bo, 0, none⟩ = some (.pointer (some ⟨q, 0, none⟩))) (hlb : bo < wq.heap.size) (hbq : bo ≠ q ∧ v.ownBlock ≠ some bo) (hob : Ob (fun k => k = q ∨ v.ownBlock = some k) wq wq q v o) (ho : o.length ≤ 549755813896) :
    Calls Tryd.prog 37 #[.func (.func 31) #[] #[.pointer (some ⟨bo, 0, none⟩)], .int .i64 r] wq fun e w' => e = .returned (.tuple #[]) ∧ ∃ v', Ob (fun k => k = q ∨ v.ownBlock = some k) wq w' q v' (o ++ [192 + r / 64, 128 + r % 64]) := by
  have hbl := lt_of_block hob.blk
  have key : ∀ (wz : World) (x0 x1 : Int), Touch (fun _ => False) wq wz → 0 ≤ x0 ∧ x0 ≤ 255 → 0 ≤ x1 ∧ x1 ≤ 255 → Calls Tryd.prog 31 #[.slice (some ⟨wz.heap.size, 0, none⟩) 2 2, .pointer (some ⟨bo, 0, none⟩)] (wz.alloc (.cells #[.int .i64 x0, .int .i64 x1] 3)) fun e w' => e = .returned (.tuple #[]) ∧ ∃ v', Ob (fun k => k = q ∨ v.ownBlock = some k) wq w' q v' (o ++ [x0, x1]) := fun wz x0 x1 tz hx0 hx1 => by
    have sz := tz.size
    have tA : Touch (fun _ => False) wq (wz.alloc (.cells #[.int .i64 x0, .int .i64 x1] 3)) := tz.alloc _
    have hoo := hob.still tA
    refine (put_any wz.heap.size 2 bo q [x0, x1] o v (wz.alloc (.cells #[.int .i64 x0, .int .i64 x1] 3)) (ig_new wz [x0, x1]) (fun z hz => by
        simp only [List.mem_cons, List.not_mem_nil, or_false] at hz
        rcases hz with rfl | rfl <;> assumption)
      (by rw [tA.cell (p := ⟨bo, 0, none⟩) hlb id]; exact hbo) (by simp; omega)
      hbq ⟨by omega, own_alloc (hob.still tz).own⟩ hoo.now (by simp; omega)).mono ?_
    rintro e w2 ⟨rfl, v', hb⟩
    exact ⟨rfl, v', hoo.back hb⟩
  have K := hid key
  have q0 : ¬ (r < 128) := by have := hr; omega
  have q1 : r < 2048 := by have := hr; omega
  have hor := or192 (r / 64) (by omega) (by omega)
  have HR := hid hr
  have T0 := hid ((Touch.refl (fun _ => False) wq).alloc (.cells #[.int .i64 r] 3))
  have B0 := hid (show (wq.alloc (.cells #[.int .i64 r] 3)).cell? ⟨wq.heap.size, 0, none⟩ = some (.int .i64 r) by unfold World.cell?; rw [block_new]; rfl)
  have S0 := hid (show wq.heap.size < (wq.alloc (.cells #[.int .i64 r] 3)).heap.size by simp)
  clear key hob hbo hr hbl
  go_enter Tryd.func37, Tryd.ntmps37
  go_upto_region 6 with fail
  generalize (wq.alloc (.cells #[.int .i64 r] 3)) = w1 at *
  obtain ⟨b3, hb3⟩ : ∃ b, b = wq.heap.size := ⟨_, rfl⟩
  rw [← hb3] at B0 S0 ⊢
  clear hb3
  have c3 := B0.out
  have Mk0 : True := trivial
  go_region_with (first | (clear Mk0; refine (further_any r 1 0 b3 _ (.inl ⟨rfl, rfl⟩) ⟨by have := HR.out; omega, by have := HR.out; omega⟩ (by exact B0.out)).mono ?_; rintro e wf0 ⟨rfl, tf⟩; have TF0 := hid (show Touch (fun _ => False) wq wf0 from (by first | exact T0.out.trans tf (fun _ _ e => e) | exact T0.out.drew.trans tf (fun _ _ e => e))); have BF0 := hid (show wf0.cell? ⟨b3, 0, none⟩ = some (.int .i64 r) from (tf.cell (p := ⟨b3, 0, none⟩) S0.out id).trans B0.out); have SF0 := hid (Nat.lt_of_lt_of_le S0.out tf.size); have cf0 := BF0.out; clear tf; have Mk1 : True := trivial) | (clear Mk1; refine (K.out wf0 (192 + r / 64) (128 + r % 64) TF0.out (by have := HR.out; omega) (by have := HR.out; omega)).mono ?_; rintro e w7 ⟨rfl, v7, hb7⟩; have H7 := hid hb7; clear hb7))
  all_goals
    go_wp2
    refine bodyPost_end (results_none rfl _ _ _) rfl ?_
    exact ⟨rfl, v7, H7.out⟩

set_option maxRecDepth 100000 in
set_option maxHeartbeats 8000000 in
theorem utf8_three (bo q : Nat) (v : Value) (o : List Int) (r : Int) (wq : World) (hr : 2048 ≤ r ∧ r < 65536) (hbo : wq.cell? ⟨bo, 0, none⟩ = some (.pointer (some ⟨q, 0, none⟩))) (hlb : bo < wq.heap.size) (hbq : bo ≠ q ∧ v.ownBlock ≠ some bo) (hob : Ob (fun k => k = q ∨ v.ownBlock = some k) wq wq q v o) (ho : o.length ≤ 549755813896) :
    Calls Tryd.prog 37 #[.func (.func 31) #[] #[.pointer (some ⟨bo, 0, none⟩)], .int .i64 r] wq fun e w' => e = .returned (.tuple #[]) ∧ ∃ v', Ob (fun k => k = q ∨ v.ownBlock = some k) wq w' q v' (o ++ [224 + r / 4096, 128 + r / 64 % 64, 128 + r % 64]) := by
  have hbl := lt_of_block hob.blk
  have key : ∀ (wz : World) (x0 x1 x2 : Int), Touch (fun _ => False) wq wz → 0 ≤ x0 ∧ x0 ≤ 255 → 0 ≤ x1 ∧ x1 ≤ 255 → 0 ≤ x2 ∧ x2 ≤ 255 → Calls Tryd.prog 31 #[.slice (some ⟨wz.heap.size, 0, none⟩) 3 3, .pointer (some ⟨bo, 0, none⟩)] (wz.alloc (.cells #[.int .i64 x0, .int .i64 x1, .int .i64 x2] 3)) fun e w' => e = .returned (.tuple #[]) ∧ ∃ v', Ob (fun k => k = q ∨ v.ownBlock = some k) wq w' q v' (o ++ [x0, x1, x2]) := fun wz x0 x1 x2 tz hx0 hx1 hx2 => by
    have sz := tz.size
    have tA : Touch (fun _ => False) wq (wz.alloc (.cells #[.int .i64 x0, .int .i64 x1, .int .i64 x2] 3)) := tz.alloc _
    have hoo := hob.still tA
    refine (put_any wz.heap.size 3 bo q [x0, x1, x2] o v (wz.alloc (.cells #[.int .i64 x0, .int .i64 x1, .int .i64 x2] 3)) (ig_new wz [x0, x1, x2]) (fun z hz => by
        simp only [List.mem_cons, List.not_mem_nil, or_false] at hz
        rcases hz with rfl | rfl | rfl <;> assumption)
      (by rw [tA.cell (p := ⟨bo, 0, none⟩) hlb id]; exact hbo) (by simp; omega)
      hbq ⟨by omega, own_alloc (hob.still tz).own⟩ hoo.now (by simp; omega)).mono ?_
    rintro e w2 ⟨rfl, v', hb⟩
    exact ⟨rfl, v', hoo.back hb⟩
  have K := hid key
  have q0 : ¬ (r < 128) := by have := hr; omega
  have q1 : ¬ (r < 2048) := by have := hr; omega
  have q2 : r < 65536 := by have := hr; omega
  have hor := or224 (r / 4096) (by omega) (by omega)
  have HR := hid hr
  have T0 := hid ((Touch.refl (fun _ => False) wq).alloc (.cells #[.int .i64 r] 3))
  have B0 := hid (show (wq.alloc (.cells #[.int .i64 r] 3)).cell? ⟨wq.heap.size, 0, none⟩ = some (.int .i64 r) by unfold World.cell?; rw [block_new]; rfl)
  have S0 := hid (show wq.heap.size < (wq.alloc (.cells #[.int .i64 r] 3)).heap.size by simp)
  clear key hob hbo hr hbl
  go_enter Tryd.func37, Tryd.ntmps37
  go_upto_region 8 with fail
  generalize (wq.alloc (.cells #[.int .i64 r] 3)) = w1 at *
  obtain ⟨b3, hb3⟩ : ∃ b, b = wq.heap.size := ⟨_, rfl⟩
  rw [← hb3] at B0 S0 ⊢
  clear hb3
  have c3 := B0.out
  have Mk0 : True := trivial
  go_region_with (first | (clear Mk0; refine (further_any r 64 6 b3 _ (.inr (.inl ⟨rfl, rfl⟩)) ⟨by have := HR.out; omega, by have := HR.out; omega⟩ (by exact B0.out)).mono ?_; rintro e wf0 ⟨rfl, tf⟩; have TF0 := hid (show Touch (fun _ => False) wq wf0 from (by first | exact T0.out.trans tf (fun _ _ e => e) | exact T0.out.drew.trans tf (fun _ _ e => e))); have BF0 := hid (show wf0.cell? ⟨b3, 0, none⟩ = some (.int .i64 r) from (tf.cell (p := ⟨b3, 0, none⟩) S0.out id).trans B0.out); have SF0 := hid (Nat.lt_of_lt_of_le S0.out tf.size); have cf0 := BF0.out; clear tf; have Mk1 : True := trivial) | (clear Mk1; refine (further_any r 1 0 b3 _ (.inl ⟨rfl, rfl⟩) ⟨by have := HR.out; omega, by have := HR.out; omega⟩ (by exact BF0.out)).mono ?_; rintro e wf1 ⟨rfl, tf⟩; have TF1 := hid (show Touch (fun _ => False) wq wf1 from (by first | exact TF0.out.trans tf (fun _ _ e => e) | exact TF0.out.drew.trans tf (fun _ _ e => e))); have BF1 := hid (show wf1.cell? ⟨b3, 0, none⟩ = some (.int .i64 r) from (tf.cell (p := ⟨b3, 0, none⟩) SF0.out id).trans BF0.out); have SF1 := hid (Nat.lt_of_lt_of_le SF0.out tf.size); have cf1 := BF1.out; clear tf; have Mk2 : True := trivial) | (clear Mk2; refine (K.out wf1 (224 + r / 4096) (128 + r / 64 % 64) (128 + r % 64) TF1.out (by have := HR.out; omega) (by have := HR.out; omega) (by have := HR.out; omega)).mono ?_; rintro e w7 ⟨rfl, v7, hb7⟩; have H7 := hid hb7; clear hb7))
  all_goals
    go_wp2
    refine bodyPost_end (results_none rfl _ _ _) rfl ?_
    exact ⟨rfl, v7, H7.out⟩

set_option maxRecDepth 100000 in
set_option maxHeartbeats 8000000 in
theorem utf8_four (bo q : Nat) (v : Value) (o : List Int) (r : Int) (wq : World) (hr : 65536 ≤ r ∧ r < 1114112) (hbo : wq.cell? ⟨bo, 0, none⟩ = some (.pointer (some ⟨q, 0, none⟩))) (hlb : bo < wq.heap.size) (hbq : bo ≠ q ∧ v.ownBlock ≠ some bo) (hob : Ob (fun k => k = q ∨ v.ownBlock = some k) wq wq q v o) (ho : o.length ≤ 549755813896) :
    Calls Tryd.prog 37 #[.func (.func 31) #[] #[.pointer (some ⟨bo, 0, none⟩)], .int .i64 r] wq fun e w' => e = .returned (.tuple #[]) ∧ ∃ v', Ob (fun k => k = q ∨ v.ownBlock = some k) wq w' q v' (o ++ [240 + r / 262144, 128 + r / 4096 % 64, 128 + r / 64 % 64, 128 + r % 64]) := by
  have hbl := lt_of_block hob.blk
  have key : ∀ (wz : World) (x0 x1 x2 x3 : Int), Touch (fun _ => False) wq wz → 0 ≤ x0 ∧ x0 ≤ 255 → 0 ≤ x1 ∧ x1 ≤ 255 → 0 ≤ x2 ∧ x2 ≤ 255 → 0 ≤ x3 ∧ x3 ≤ 255 → Calls Tryd.prog 31 #[.slice (some ⟨wz.heap.size, 0, none⟩) 4 4, .pointer (some ⟨bo, 0, none⟩)] (wz.alloc (.cells #[.int .i64 x0, .int .i64 x1, .int .i64 x2, .int .i64 x3] 3)) fun e w' => e = .returned (.tuple #[]) ∧ ∃ v', Ob (fun k => k = q ∨ v.ownBlock = some k) wq w' q v' (o ++ [x0, x1, x2, x3]) := fun wz x0 x1 x2 x3 tz hx0 hx1 hx2 hx3 => by
    have sz := tz.size
    have tA : Touch (fun _ => False) wq (wz.alloc (.cells #[.int .i64 x0, .int .i64 x1, .int .i64 x2, .int .i64 x3] 3)) := tz.alloc _
    have hoo := hob.still tA
    refine (put_any wz.heap.size 4 bo q [x0, x1, x2, x3] o v (wz.alloc (.cells #[.int .i64 x0, .int .i64 x1, .int .i64 x2, .int .i64 x3] 3)) (ig_new wz [x0, x1, x2, x3]) (fun z hz => by
        simp only [List.mem_cons, List.not_mem_nil, or_false] at hz
        rcases hz with rfl | rfl | rfl | rfl <;> assumption)
      (by rw [tA.cell (p := ⟨bo, 0, none⟩) hlb id]; exact hbo) (by simp; omega)
      hbq ⟨by omega, own_alloc (hob.still tz).own⟩ hoo.now (by simp; omega)).mono ?_
    rintro e w2 ⟨rfl, v', hb⟩
    exact ⟨rfl, v', hoo.back hb⟩
  have K := hid key
  have q0 : ¬ (r < 128) := by have := hr; omega
  have q1 : ¬ (r < 2048) := by have := hr; omega
  have q2 : ¬ (r < 65536) := by have := hr; omega
  have hor := or240 (r / 262144) (by omega) (by omega)
  have HR := hid hr
  have T0 := hid ((Touch.refl (fun _ => False) wq).alloc (.cells #[.int .i64 r] 3))
  have B0 := hid (show (wq.alloc (.cells #[.int .i64 r] 3)).cell? ⟨wq.heap.size, 0, none⟩ = some (.int .i64 r) by unfold World.cell?; rw [block_new]; rfl)
  have S0 := hid (show wq.heap.size < (wq.alloc (.cells #[.int .i64 r] 3)).heap.size by simp)
  clear key hob hbo hr hbl
  go_enter Tryd.func37, Tryd.ntmps37
  go_upto_region 2 with fail
  generalize (wq.alloc (.cells #[.int .i64 r] 3)) = w1 at *
  obtain ⟨b3, hb3⟩ : ∃ b, b = wq.heap.size := ⟨_, rfl⟩
  rw [← hb3] at B0 S0 ⊢
  clear hb3
  have c3 := B0.out
  have Mk0 : True := trivial
  go_region_with (first | (clear Mk0; refine (further_any r 4096 12 b3 _ (.inr (.inr ⟨rfl, rfl⟩)) ⟨by have := HR.out; omega, by have := HR.out; omega⟩ (by exact B0.out)).mono ?_; rintro e wf0 ⟨rfl, tf⟩; have TF0 := hid (show Touch (fun _ => False) wq wf0 from (by first | exact T0.out.trans tf (fun _ _ e => e) | exact T0.out.drew.trans tf (fun _ _ e => e))); have BF0 := hid (show wf0.cell? ⟨b3, 0, none⟩ = some (.int .i64 r) from (tf.cell (p := ⟨b3, 0, none⟩) S0.out id).trans B0.out); have SF0 := hid (Nat.lt_of_lt_of_le S0.out tf.size); have cf0 := BF0.out; clear tf; have Mk1 : True := trivial) | (clear Mk1; refine (further_any r 64 6 b3 _ (.inr (.inl ⟨rfl, rfl⟩)) ⟨by have := HR.out; omega, by have := HR.out; omega⟩ (by exact BF0.out)).mono ?_; rintro e wf1 ⟨rfl, tf⟩; have TF1 := hid (show Touch (fun _ => False) wq wf1 from (by first | exact TF0.out.trans tf (fun _ _ e => e) | exact TF0.out.drew.trans tf (fun _ _ e => e))); have BF1 := hid (show wf1.cell? ⟨b3, 0, none⟩ = some (.int .i64 r) from (tf.cell (p := ⟨b3, 0, none⟩) SF0.out id).trans BF0.out); have SF1 := hid (Nat.lt_of_lt_of_le SF0.out tf.size); have cf1 := BF1.out; clear tf; have Mk2 : True := trivial) | (clear Mk2; refine (further_any r 1 0 b3 _ (.inl ⟨rfl, rfl⟩) ⟨by have := HR.out; omega, by have := HR.out; omega⟩ (by exact BF1.out)).mono ?_; rintro e wf2 ⟨rfl, tf⟩; have TF2 := hid (show Touch (fun _ => False) wq wf2 from (by first | exact TF1.out.trans tf (fun _ _ e => e) | exact TF1.out.drew.trans tf (fun _ _ e => e))); have BF2 := hid (show wf2.cell? ⟨b3, 0, none⟩ = some (.int .i64 r) from (tf.cell (p := ⟨b3, 0, none⟩) SF1.out id).trans BF1.out); have SF2 := hid (Nat.lt_of_lt_of_le SF1.out tf.size); have cf2 := BF2.out; clear tf; have Mk3 : True := trivial) | (clear Mk3; refine (K.out wf2 (240 + r / 262144) (128 + r / 4096 % 64) (128 + r / 64 % 64) (128 + r % 64) TF2.out (by have := HR.out; omega) (by have := HR.out; omega) (by have := HR.out; omega) (by have := HR.out; omega)).mono ?_; rintro e w7 ⟨rfl, v7, hb7⟩; have H7 := hid hb7; clear hb7))
  all_goals
    go_wp2
    refine bodyPost_end (results_none rfl _ _ _) rfl ?_
    exact ⟨rfl, v7, H7.out⟩
end Go.Proofs.YtpjnnbegimaaeabDoor

/- The putter of UTF-8; conditions: those told. -/
namespace Go.Proofs.YtpjnnbegimaaeabDoor
open Go.RowKit
attribute [local go_sem] run_store_func

/-- The bytes of a scalar by UTF-8. -/
def en8 (r : Int) : List Int := if r < 128 then [r] else if r < 2048 then [192 + r / 64, 128 + r % 64] else if r < 65536 then [224 + r / 4096, 128 + r / 64 % 64, 128 + r % 64] else [240 + r / 262144, 128 + r / 4096 % 64, 128 + r / 64 % 64, 128 + r % 64]
theorem utf8_any (bo q : Nat) (v : Value) (o : List Int) (r : Int) (wq : World) (hr : 0 ≤ r ∧ r ≤ 1114111) (hbo : wq.cell? ⟨bo, 0, none⟩ = some (.pointer (some ⟨q, 0, none⟩))) (hlb : bo < wq.heap.size) (hbq : bo ≠ q ∧ v.ownBlock ≠ some bo) (hob : Ob (fun k => k = q ∨ v.ownBlock = some k) wq wq q v o) (ho : o.length ≤ 549755813896) :
    Calls Tryd.prog 37 #[.func (.func 31) #[] #[.pointer (some ⟨bo, 0, none⟩)], .int .i64 r] wq fun e w' => e = .returned (.tuple #[]) ∧ ∃ v', Ob (fun k => k = q ∨ v.ownBlock = some k) wq w' q v' (o ++ en8 r) := by
  unfold en8
  split
  · exact utf8_one bo q v o r wq (by omega) hbo hlb hbq hob ho
  · split
    · exact utf8_two bo q v o r wq (by omega) hbo hlb hbq hob ho
    · split
      · exact utf8_three bo q v o r wq (by omega) hbo hlb hbq hob ho
      · exact utf8_four bo q v o r wq (by omega) hbo hlb hbq hob ho
set_option maxRecDepth 100000 in
theorem putter_utf8 (q : Nat) (w : World) : Calls Tryd.prog 18 #[.pointer (some ⟨q, 0, none⟩), .int .i64 1] w fun e w' => ∃ bo b5, e = .returned (.func (.func 36) #[] #[.pointer (some ⟨b5, 0, none⟩)]) ∧ Own1 w.heap.size w' bo (.pointer (some ⟨q, 0, none⟩)) ∧ Own1 w.heap.size w' b5 (.func (.func 31) #[] #[.pointer (some ⟨bo, 0, none⟩)]) ∧ Touch (fun _ => False) w w' := by
  go_enter Tryd.func18, Tryd.ntmps18
  go_wp2
  go_ret
  exact ⟨_, _, rfl, (Own1.made rfl (Nat.le_refl _)).alloc _, Own1.made (by simp) (by omega), ((Touch.refl _ w).alloc _).alloc _⟩
set_option maxRecDepth 100000 in
theorem put_utf8 {lo : Nat} {w : World} {bo b5 q : Nat} (h1 : Own1 lo w bo (.pointer (some ⟨q, 0, none⟩))) (h2 : Own1 lo w b5 (.func (.func 31) #[] #[.pointer (some ⟨bo, 0, none⟩)])) : PutOk lo w 36 b5 q (fun r => 0 ≤ r ∧ r ≤ 1114111) en8 549755813888 := by
  intro wq v o r hk hs hv hq hob hr ho
  have c5 : wq.cell? ⟨b5, 0, none⟩ = some (.func (.func 31) #[] #[.pointer (some ⟨bo, 0, none⟩)]) := (cell_heap (hk b5 h2.ge h2.lt)).trans h2.cell
  have b1 := h1.ge
  have b2 := h1.lt
  have K := hid (utf8_any bo q v o r wq hr ((cell_heap (hk bo h1.ge h1.lt)).trans h1.cell) (by omega) ⟨by omega, fun e => by rcases hv bo e with p | p <;> omega⟩ hob (by omega))
  clear hk hv hob h1 h2
  go_enter Tryd.func36, Tryd.ntmps36
  go_wp2_with fail
  refine K.out.mono ?_
  rintro e w2 ⟨rfl, v', hb⟩
  have H2 := hid hb
  clear hb K
  go_wp2
  refine bodyPost_end (results_none rfl _ _ _) rfl ?_
  exact ⟨rfl, v', H2.out⟩
end Go.Proofs.YtpjnnbegimaaeabDoor

/- Encode of any numbers in every coding; conditions: those told. -/
namespace Go.Proofs.YtpjnnbegimaaeabDoor
open Go.RowKit
open Go.Lib

def scB (r : Int) : Bool := decide (0 ≤ r) && (decide (r ≤ 1114111) && !(decide (55296 ≤ r) && decide (r < 57344)))
theorem scB_iff (r : Int) : scB r = true ↔ 0 ≤ r ∧ r ≤ 1114111 ∧ (r < 55296 ∨ 57344 ≤ r) := by
  unfold scB
  simp only [Bool.and_eq_true, decide_eq_true_eq, Bool.not_eq_true', Bool.and_eq_false_iff, decide_eq_false_iff_not]
  omega
set_option maxRecDepth 100000 in
theorem scalar_any (r : Int) (w : World) : Calls Tryd.prog 19 #[.int .i64 r] w fun e w' => e = .returned (.bool (scB r)) ∧ w = w' := by
  have K := hid (isHalf_any r w)
  obtain ⟨h, hh⟩ : ∃ h, h = (decide (55296 ≤ r) && decide (r < 57344)) := ⟨_, rfl⟩
  rw [← hh] at K
  have HS := hid (show scB r = (decide (0 ≤ r) && (decide (r ≤ 1114111) && !h)) by rw [hh]; rfl)
  rw [HS.out]
  clear hh HS
  by_cases h0 : 0 ≤ r
  · by_cases h1 : r ≤ 1114111
    · go_enter Tryd.func19, Tryd.ntmps19
      go_wp2_with fail
      refine K.out.mono ?_
      rintro e w1 ⟨rfl, rfl⟩
      go_wp2
      go_ret
      exact ⟨by simp [h0, h1], rfl⟩
    · have HF := hid (show (decide (0 ≤ r) && (decide (r ≤ 1114111) && !h)) = false by rw [decide_eq_false h1, Bool.false_and, Bool.and_false])
      rw [HF.out]
      clear HF
      go_enter Tryd.func19, Tryd.ntmps19
      go_wp2
      go_ret
      exact ⟨rfl, rfl⟩
  · have HF := hid (show (decide (0 ≤ r) && (decide (r ≤ 1114111) && !h)) = false by rw [decide_eq_false h0, Bool.false_and])
    rw [HF.out]
    clear HF
    go_enter Tryd.func19, Tryd.ntmps19
    go_wp2
    go_ret
    exact ⟨rfl, rfl⟩

def enc (c : Nat) (r : Int) : List Int := if c = 1 then en8 r else if c = 2 then en16 33 r else if c = 3 then en16 34 r else [r]
def okc (c : Nat) (r : Int) : Bool := scB r && (decide (c ≠ 4) || decide (r ≤ 255))
def topc (c : Nat) : Int := if c = 4 then 255 else 1114111
theorem enc_len (c : Nat) (r : Int) : (enc c r).length ≤ 4 := by
  unfold enc en8 en16 enU
  repeat' split
  all_goals simp
theorem flat_len (c : Nat) : ∀ l : List Int, (l.flatMap (enc c)).length ≤ 4 * l.length
  | [] => by simp
  | x :: l => by
    have := enc_len c x
    have := flat_len c l
    simp only [List.flatMap_cons, List.length_append, List.length_cons]
    omega
theorem flat_more (c : Nat) (l : List Int) (i : Nat) (hi : i < l.length) (o : List Int) : o ++ (l.take (i + 1)).flatMap (enc c) = o ++ (l.take i).flatMap (enc c) ++ enc c l[i] := by
  rw [List.take_succ_eq_append_getElem hi, List.flatMap_append, ← List.append_assoc]
  simp
theorem okc_in {c : Nat} {r : Int} (h : okc c r = true) : 0 ≤ r ∧ r ≤ topc c := by
  unfold okc at h
  rw [Bool.and_eq_true, scB_iff] at h
  unfold topc
  split
  · rename_i e
    subst e
    simp at h
    omega
  · omega
def encR (c : Nat) (mark : Bool) (l : List Int) : Value := if l.all (okc c) = true then .tuple #[.string (strOfNums ((if mark then nums (mk c) else []) ++ l.flatMap (enc c))), .int .i64 0] else .tuple #[.string ⟨#[]⟩, .int .i64 17]
theorem encR_bad {c : Nat} {mark : Bool} {l : List Int} (i : Nat) (hi : i < l.length) (h : okc c l[i] = false) : encR c mark l = .tuple #[.string ⟨#[]⟩, .int .i64 17] := by
  unfold encR
  rw [if_neg]
  intro e
  rw [List.all_eq_true] at e
  have := e _ (List.getElem_mem hi)
  rw [h] at this
  cases this
theorem all_take {p : Int → Bool} {l : List Int} {i : Nat} (hi : i < l.length) (h : (l.take i).all p = true) (hx : p l[i] = true) : (l.take (i + 1)).all p = true := by
  rw [List.take_succ_eq_append_getElem hi, List.all_append, h, List.all_cons, hx]
  rfl
theorem putter_all (c fid : Nat) (hc : (c = 1 ∧ fid = 36) ∨ (c = 2 ∧ fid = 52) ∨ (c = 3 ∧ fid = 52) ∨ (c = 4 ∧ fid = 35)) (q : Nat) (w : World) : Calls Tryd.prog 18 #[.pointer (some ⟨q, 0, none⟩), .int .i64 (c : Nat)] w fun e w' => ∃ b, e = .returned (.func (.func fid) #[] #[.pointer (some ⟨b, 0, none⟩)]) ∧ PutOk w.heap.size w' fid b q (fun r => 0 ≤ r ∧ r ≤ topc c) (enc c) 549755813888 ∧ Touch (fun _ => False) w w' := by
  rcases hc with ⟨rfl, rfl⟩ | ⟨rfl, rfl⟩ | ⟨rfl, rfl⟩ | ⟨rfl, rfl⟩
  · refine (putter_utf8 q w).mono ?_
    rintro e w' ⟨bo, b5, rfl, o1, o2, t⟩
    exact ⟨b5, rfl, put_utf8 o1 o2, t⟩
  · refine (putter_pair q 2 33 (by omega) w).mono ?_
    rintro e w' ⟨b6, rfl, h, t⟩
    exact ⟨b6, rfl, h, t⟩
  · refine (putter_pair q 3 34 (by omega) w).mono ?_
    rintro e w' ⟨b6, rfl, h, t⟩
    exact ⟨b6, rfl, h, t⟩
  · refine (putter_four q w).mono ?_
    rintro e w' ⟨bo, b5, rfl, o1, o2, t⟩
    exact ⟨b5, rfl, put_latin o1 o2, t⟩

set_option maxRecDepth 100000 in
theorem encode_out (a : Option Addr) (n k : Nat) (c : Int) (mark : Bool) (w : World) (h : c < 1 ∨ (1 ≤ c ∧ 4 < c)) : Calls Tryd.prog 8 #[.slice a n k, .int .i64 c, .bool mark] w fun e w' => e = .returned (.tuple #[.string ⟨#[]⟩, .int .i64 1]) ∧ Touch (fun _ => False) w w' := by
  have T := hid (Touch.refl (fun _ => False) w)
  rcases h with h | ⟨h0, h⟩
  · go_enter Tryd.func8, Tryd.ntmps8
    go_wp2
    refine bodyPost_ret (results_tmp2 rfl _ _ _) rfl ?_
    exact ⟨rfl, T.out⟩
  · have hn : ¬ (c < 1) := by omega
    go_enter Tryd.func8, Tryd.ntmps8
    go_wp2
    refine bodyPost_ret (results_tmp2 rfl _ _ _) rfl ?_
    exact ⟨rfl, T.out⟩
end Go.Proofs.YtpjnnbegimaaeabDoor
