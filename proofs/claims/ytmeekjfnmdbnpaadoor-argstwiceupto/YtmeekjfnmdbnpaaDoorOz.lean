/- The options of values; no condition. -/
import Derived.Test.YtmeekjfnmdbnpaaDoorDq
namespace Go.Proofs.YtmeekjfnmdbnpaaDoor
open Go.RowKit
open Go.Lib

/-- Values, in the document's order; and as options. -/
def vals (n0 n1 n2 n3 n4 : Int) (b0 b1 b2 b3 b4 b5 b6 b7 b8 b9 : Bool) (s0 s1 s2 : ByteArray) : Array Value := #[.int .i64 n0, .int .i64 n1, .int .i64 n2, .int .i64 n3, .int .i64 n4, .bool b0, .bool b1, .bool b2, .bool b3, .bool b4, .bool b5, .bool b6, .bool b7, .bool b8, .bool b9, .string s0, .string s1, .string s2]
def opts (n0 n1 n2 n3 n4 : Int) (b0 b1 b2 b3 b4 b5 b6 b7 b8 b9 : Bool) (s0 s1 : ByteArray) : Array Value := #[.int .i64 n0, .int .i64 n1, .int .i64 n2, .int .i64 n3, .bool b0, .bool b1, .bool b2, .bool b3, .bool b4, .bool b5, .bool b6, .bool b7, .bool b8, .bool b9, .int .i64 n4, .string s0, .string s1]
/-- What kind of value a key has. -/
def TyK (k : Nat) (v : Value) : Prop := if k < 5 then ∃ n, v = .int .i64 n else if k < 15 then ∃ b, v = .bool b else ∃ s, v = .string s
def Tyd (vs : Array Value) : Prop := vs.size = 18 ∧ ∀ k v, vs[k]? = some v → TyK k v
theorem st_ty (k : Nat) (x : Bs) : TyK k (stR k x) := by
  unfold TyK stR
  split
  · exact ⟨_, rfl⟩
  · split <;> exact ⟨_, rfl⟩
theorem v18_ty : Tyd v18 := by
  refine ⟨rfl, fun k v h => ?_⟩
  have hk : k < 18 := (Array.getElem?_eq_some_iff.1 h).1
  unfold TyK
  match k, hk, h with
  | 0, _, h => obtain rfl := Option.some.inj h; exact ⟨_, rfl⟩
  | 1, _, h => obtain rfl := Option.some.inj h; exact ⟨_, rfl⟩
  | 2, _, h => obtain rfl := Option.some.inj h; exact ⟨_, rfl⟩
  | 3, _, h => obtain rfl := Option.some.inj h; exact ⟨_, rfl⟩
  | 4, _, h => obtain rfl := Option.some.inj h; exact ⟨_, rfl⟩
  | 5, _, h => obtain rfl := Option.some.inj h; exact ⟨_, rfl⟩
  | 6, _, h => obtain rfl := Option.some.inj h; exact ⟨_, rfl⟩
  | 7, _, h => obtain rfl := Option.some.inj h; exact ⟨_, rfl⟩
  | 8, _, h => obtain rfl := Option.some.inj h; exact ⟨_, rfl⟩
  | 9, _, h => obtain rfl := Option.some.inj h; exact ⟨_, rfl⟩
  | 10, _, h => obtain rfl := Option.some.inj h; exact ⟨_, rfl⟩
  | 11, _, h => obtain rfl := Option.some.inj h; exact ⟨_, rfl⟩
  | 12, _, h => obtain rfl := Option.some.inj h; exact ⟨_, rfl⟩
  | 13, _, h => obtain rfl := Option.some.inj h; exact ⟨_, rfl⟩
  | 14, _, h => obtain rfl := Option.some.inj h; exact ⟨_, rfl⟩
  | 15, _, h => obtain rfl := Option.some.inj h; exact ⟨_, rfl⟩
  | 16, _, h => obtain rfl := Option.some.inj h; exact ⟨_, rfl⟩
  | 17, _, h => obtain rfl := Option.some.inj h; exact ⟨_, rfl⟩
theorem dp_ty : ∀ (f : Nat) (ls : List Bs) (ms : List Bool) (vs : Array Value) (p : Nat) (out : Array Value), Tyd vs → dpF f ls ms vs p = .ok out → Tyd out
  | 0, ls, ms, vs, p, out, _, h => by cases h
  | f + 1, ls, ms, vs, p, out, hv, h => by
    unfold dpF at h
    split at h
    · injection h with h
      rw [← h]
      exact hv
    · split at h
      · cases h
      · split at h
        · cases h
        · split at h
          · cases h
          · split at h
            · refine dp_ty f ls _ _ _ out ⟨by simpa using hv.1, fun k v hk => ?_⟩ h
              rw [Array.set!_eq_setIfInBounds, Array.getElem?_setIfInBounds] at hk
              split at hk
              · rename_i e
                subst e
                split at hk
                · obtain rfl := Option.some.inj hk
                  exact st_ty _ _
                · cases hk
              · exact hv.2 k v hk
            · cases h
theorem ty_vals {vs : Array Value} (h : Tyd vs) : ∃ n0 n1 n2 n3 n4 b0 b1 b2 b3 b4 b5 b6 b7 b8 b9 s0 s1 s2, vs = vals n0 n1 n2 n3 n4 b0 b1 b2 b3 b4 b5 b6 b7 b8 b9 s0 s1 s2 := by
  obtain ⟨h1, h2⟩ := h
  obtain ⟨l⟩ := vs
  match l, h1 with
  | [a0, a1, a2, a3, a4, a5, a6, a7, a8, a9, a10, a11, a12, a13, a14, a15, a16, a17], _ =>
    obtain ⟨n0, rfl⟩ : ∃ z, a0 = .int .i64 z := by simpa [TyK] using h2 0 a0 rfl
    obtain ⟨n1, rfl⟩ : ∃ z, a1 = .int .i64 z := by simpa [TyK] using h2 1 a1 rfl
    obtain ⟨n2, rfl⟩ : ∃ z, a2 = .int .i64 z := by simpa [TyK] using h2 2 a2 rfl
    obtain ⟨n3, rfl⟩ : ∃ z, a3 = .int .i64 z := by simpa [TyK] using h2 3 a3 rfl
    obtain ⟨n4, rfl⟩ : ∃ z, a4 = .int .i64 z := by simpa [TyK] using h2 4 a4 rfl
    obtain ⟨b0, rfl⟩ : ∃ z, a5 = .bool z := by simpa [TyK] using h2 5 a5 rfl
    obtain ⟨b1, rfl⟩ : ∃ z, a6 = .bool z := by simpa [TyK] using h2 6 a6 rfl
    obtain ⟨b2, rfl⟩ : ∃ z, a7 = .bool z := by simpa [TyK] using h2 7 a7 rfl
    obtain ⟨b3, rfl⟩ : ∃ z, a8 = .bool z := by simpa [TyK] using h2 8 a8 rfl
    obtain ⟨b4, rfl⟩ : ∃ z, a9 = .bool z := by simpa [TyK] using h2 9 a9 rfl
    obtain ⟨b5, rfl⟩ : ∃ z, a10 = .bool z := by simpa [TyK] using h2 10 a10 rfl
    obtain ⟨b6, rfl⟩ : ∃ z, a11 = .bool z := by simpa [TyK] using h2 11 a11 rfl
    obtain ⟨b7, rfl⟩ : ∃ z, a12 = .bool z := by simpa [TyK] using h2 12 a12 rfl
    obtain ⟨b8, rfl⟩ : ∃ z, a13 = .bool z := by simpa [TyK] using h2 13 a13 rfl
    obtain ⟨b9, rfl⟩ : ∃ z, a14 = .bool z := by simpa [TyK] using h2 14 a14 rfl
    obtain ⟨s0, rfl⟩ : ∃ z, a15 = .string z := by simpa [TyK] using h2 15 a15 rfl
    obtain ⟨s1, rfl⟩ : ∃ z, a16 = .string z := by simpa [TyK] using h2 16 a16 rfl
    obtain ⟨s2, rfl⟩ : ∃ z, a17 = .string z := by simpa [TyK] using h2 17 a17 rfl
    exact ⟨n0, n1, n2, n3, n4, b0, b1, b2, b3, b4, b5, b6, b7, b8, b9, s0, s1, s2, rfl⟩
theorem opts_one (n0 n1 n2 n3 n4 : Int) (b0 b1 b2 b3 b4 b5 b6 b7 b8 b9 : Bool) (s0 s1 : ByteArray) : (opts n0 n1 n2 n3 n4 b0 b1 b2 b3 b4 b5 b6 b7 b8 b9 s0 s1).all (·.oneCell') = true := by kernel_rfl
theorem opts_info (n0 n1 n2 n3 n4 : Int) (b0 b1 b2 b3 b4 b5 b6 b7 b8 b9 : Bool) (s0 s1 : ByteArray) : (Tryd.prog.info? 39).map (·.size) = some (opts n0 n1 n2 n3 n4 b0 b1 b2 b3 b4 b5 b6 b7 b8 b9 s0 s1).size := by kernel_rfl
set_option maxRecDepth 100000 in
set_option maxHeartbeats 8000000 in
theorem options_any (n0 n1 n2 n3 n4 : Int) (b0 b1 b2 b3 b4 b5 b6 b7 b8 b9 : Bool) (s0 s1 s2 : ByteArray) (w : World) :
    Calls Tryd.prog 15 #[.agg (vals n0 n1 n2 n3 n4 b0 b1 b2 b3 b4 b5 b6 b7 b8 b9 s0 s1 s2)] w fun e w' => e = .returned (.agg (opts n0 n1 n2 n3 n4 b0 b1 b2 b3 b4 b5 b6 b7 b8 b9 s0 s1)) ∧ Touch (fun _ => False) w w' := by
  have TA := hid (((Touch.refl (fun _ => False) w).alloc (.cells (vals n0 n1 n2 n3 n4 b0 b1 b2 b3 b4 b5 b6 b7 b8 b9 s0 s1 s2) 50)).alloc (.cells z17 39))
  have B1 := hid (show ((w.alloc (.cells (vals n0 n1 n2 n3 n4 b0 b1 b2 b3 b4 b5 b6 b7 b8 b9 s0 s1 s2) 50)).alloc (.cells z17 39)).heap[w.heap.size]? = some (.cells (vals n0 n1 n2 n3 n4 b0 b1 b2 b3 b4 b5 b6 b7 b8 b9 s0 s1 s2) 50 (0, 0)) from by
    rw [Below.heap_alloc _ _ _ (by show _ < (w.heap.push _).size; simp)]
    show (w.heap.push _)[_]? = _
    simp)
  have B2 := hid (show ((w.alloc (.cells (vals n0 n1 n2 n3 n4 b0 b1 b2 b3 b4 b5 b6 b7 b8 b9 s0 s1 s2) 50)).alloc (.cells z17 39)).heap[w.heap.size + 1]? = some (.cells z17 39 (0, 0)) from by
    have := blk_new (w := w.alloc (.cells (vals n0 n1 n2 n3 n4 b0 b1 b2 b3 b4 b5 b6 b7 b8 b9 s0 s1 s2) 50)) z17 39
    rw [show (w.alloc (.cells (vals n0 n1 n2 n3 n4 b0 b1 b2 b3 b4 b5 b6 b7 b8 b9 s0 s1 s2) 50)).heap.size = w.heap.size + 1 from by show (w.heap.push _).size = _; simp] at this
    exact this)
  go_enter Tryd.func15, Tryd.ntmps15
  go_upto_region 1 with fail
  change Code.wp _ _ _ _ ((w.alloc (.cells (vals n0 n1 n2 n3 n4 b0 b1 b2 b3 b4 b5 b6 b7 b8 b9 s0 s1 s2) 50)).alloc (.cells z17 39))
  generalize (w.alloc (.cells (vals n0 n1 n2 n3 n4 b0 b1 b2 b3 b4 b5 b6 b7 b8 b9 s0 s1 s2) 50)).alloc (.cells z17 39) = wa at *
  obtain ⟨q1, hq1⟩ : ∃ q1, q1 = w.heap.size := ⟨_, rfl⟩
  obtain ⟨q2, hq2⟩ : ∃ q2, q2 = w.heap.size + 1 := ⟨_, rfl⟩
  rw [← hq2] at B2 ⊢
  rw [← hq1] at B1 ⊢
  have HQ := hid (show w.heap.size ≤ q2 from by omega)
  clear hq1 hq2
  have c0 : wa.cell? ⟨q1, 0, none⟩ = some (.int .i64 n0) := cell_of B1.out 0 (show 0 < 18 by decide)
  have c1 : wa.cell? ⟨q1, 1, none⟩ = some (.int .i64 n1) := cell_of B1.out 1 (show 1 < 18 by decide)
  have c2 : wa.cell? ⟨q1, 2, none⟩ = some (.int .i64 n2) := cell_of B1.out 2 (show 2 < 18 by decide)
  have c3 : wa.cell? ⟨q1, 3, none⟩ = some (.int .i64 n3) := cell_of B1.out 3 (show 3 < 18 by decide)
  have c4 : wa.cell? ⟨q1, 4, none⟩ = some (.int .i64 n4) := cell_of B1.out 4 (show 4 < 18 by decide)
  have c5 : wa.cell? ⟨q1, 5, none⟩ = some (.bool b0) := cell_of B1.out 5 (show 5 < 18 by decide)
  have c6 : wa.cell? ⟨q1, 6, none⟩ = some (.bool b1) := cell_of B1.out 6 (show 6 < 18 by decide)
  have c7 : wa.cell? ⟨q1, 7, none⟩ = some (.bool b2) := cell_of B1.out 7 (show 7 < 18 by decide)
  have c8 : wa.cell? ⟨q1, 8, none⟩ = some (.bool b3) := cell_of B1.out 8 (show 8 < 18 by decide)
  have c9 : wa.cell? ⟨q1, 9, none⟩ = some (.bool b4) := cell_of B1.out 9 (show 9 < 18 by decide)
  have c10 : wa.cell? ⟨q1, 10, none⟩ = some (.bool b5) := cell_of B1.out 10 (show 10 < 18 by decide)
  have c11 : wa.cell? ⟨q1, 11, none⟩ = some (.bool b6) := cell_of B1.out 11 (show 11 < 18 by decide)
  have c12 : wa.cell? ⟨q1, 12, none⟩ = some (.bool b7) := cell_of B1.out 12 (show 12 < 18 by decide)
  have c13 : wa.cell? ⟨q1, 13, none⟩ = some (.bool b8) := cell_of B1.out 13 (show 13 < 18 by decide)
  have c14 : wa.cell? ⟨q1, 14, none⟩ = some (.bool b9) := cell_of B1.out 14 (show 14 < 18 by decide)
  have c15 : wa.cell? ⟨q1, 15, none⟩ = some (.string s0) := cell_of B1.out 15 (show 15 < 18 by decide)
  have c16 : wa.cell? ⟨q1, 16, none⟩ = some (.string s1) := cell_of B1.out 16 (show 16 < 18 by decide)
  have c17 : wa.cell? ⟨q1, 17, none⟩ = some (.string s2) := cell_of B1.out 17 (show 17 < 18 by decide)
  go_wp2_with (first | refine wpList_store_row (P := Tryd.prog) rfl 39 (.tmp 2) (.tmp 56) rfl q2 (opts n0 n1 n2 n3 n4 b0 b1 b2 b3 b4 b5 b6 b7 b8 b9 s0 s1) rfl rfl 39 z17 B2.out (opts_info ..) rfl (opts_one ..) ?_ | fail)
  refine bodyPost_ret (results_c rfl _ _ q2 39 _ (0, 0) _ rfl (setRow_heap _ q2 _ _ 39 (0, 0) B2.out) Tryd.underlying39 rfl (opts_info ..)) rfl ?_
  exact ⟨rfl, TA.out.setRow (fun h => absurd h (Nat.not_lt.2 HQ.out)) _⟩
set_option maxRecDepth 100000 in
set_option maxHeartbeats 8000000 in
theorem opts_same (n0 n1 n2 n3 n4 : Int) (b0 b1 b2 b3 b4 b5 b6 b7 b8 b9 : Bool) (s0 s1 : ByteArray) (w : World) : (Op.equalIn 10000 39 (.agg (opts n0 n1 n2 n3 n4 b0 b1 b2 b3 b4 b5 b6 b7 b8 b9 s0 s1)) (.agg (opts n0 n1 n2 n3 n4 b0 b1 b2 b3 b4 b5 b6 b7 b8 b9 s0 s1))).run Tryd.prog w = .ok true w := by
  unfold opts
  go_simp
end Go.Proofs.YtmeekjfnmdbnpaaDoor
