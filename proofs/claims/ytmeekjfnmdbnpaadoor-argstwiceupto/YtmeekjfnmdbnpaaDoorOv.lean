/- Values that come in; no condition. -/
import Derived.Test.YtmeekjfnmdbnpaaDoorZt
import Derived.Test.YtmeekjfnmdbnpaaDoorLq
import Derived.OpenShut
import Derived.ChangeArms
import Derived.ChangeSame
import Derived.Deep.Slices
namespace Go.Proofs.YtmeekjfnmdbnpaaDoor
open Go.ChangeShapes Go.WideShapes Go.ChangeAt Go.RowKit

theorem wf_i64 {n : Int} (h : (Lit.int .i64 n).wf = true) : -9223372036854775808 ≤ n ∧ n ≤ 9223372036854775807 := by
  have h2 : IntKind.i64.min ≤ n ∧ n ≤ 9223372036854775807 := by simpa [Lit.wf] using h
  have e : IntKind.i64.min = -9223372036854775808 := by decide
  rw [e] at h2
  exact h2
set_option maxRecDepth 100000 in
theorem open_vals {H : Type} {enc : TypeId × Value → H} {W : World} {base b0 : Nat} {sp : Nat → Bool} {held : Bool} {r : Reach} {v : Value} {d : DataW H} {ps : List MemPlace} (hv : Value.okWide Tryd.prog W r b0 50 v) (hd : DataW.Trod enc Tryd.prog W base sp held 50 v d ps) : ∃ n0 n1 n2 n3 n4 b0 b1 b2 b3 b4 b5 b6 b7 b8 b9 s0 s1 s2, v = .agg (vals n0 n1 n2 n3 n4 b0 b1 b2 b3 b4 b5 b6 b7 b8 b9 s0 s1 s2) ∧ (((-9223372036854775808 ≤ n0 ∧ n0 ≤ 9223372036854775807) ∧ (-9223372036854775808 ≤ n1 ∧ n1 ≤ 9223372036854775807) ∧ (-9223372036854775808 ≤ n2 ∧ n2 ≤ 9223372036854775807) ∧ (-9223372036854775808 ≤ n3 ∧ n3 ≤ 9223372036854775807) ∧ (-9223372036854775808 ≤ n4 ∧ n4 ≤ 9223372036854775807))) ∧ s0.size + s1.size + s2.size ≤ Rows.uptoBulk d := by
  have hc3 : Tryd.prog.cellsOf 3 = 1 := by kernel_rfl
  have hc4 : Tryd.prog.cellsOf 4 = 1 := by kernel_rfl
  have hc9 : Tryd.prog.cellsOf 9 = 1 := by kernel_rfl
  have hc42 : Tryd.prog.cellsOf 42 = 5 := by kernel_rfl
  have hc43 : Tryd.prog.cellsOf 43 = 10 := by kernel_rfl
  have hc44 : Tryd.prog.cellsOf 44 = 3 := by kernel_rfl
  have hc50 : Tryd.prog.cellsOf 50 = 18 := by kernel_rfl
  simp only [Value.okWide, Tryd.underlying50] at hv
  obtain ⟨xs, rfl, hn, _⟩ := hv
  rw [hc50] at hn
  obtain ⟨fuel, hf0⟩ := hd
  obtain ⟨l⟩ := xs
  match l, hn with
  | [a0, a1, a2, a3, a4, a5, a6, a7, a8, a9, a10, a11, a12, a13, a14, a15, a16, a17], _ =>
    obtain ⟨ys, m, _, hx, _, hl, hf⟩ := DataW.trod_struct (P := Tryd.prog) Tryd.underlying50 hf0
    match ys, hl, hx, hf with
    | [y0, y1, y2], _, hx, hf =>
      have f0 := hf 0 _ rfl
      have f1 := hf 1 _ rfl
      have f2 := hf 2 _ rfl
      obtain ⟨zs0, m0, _, hy0, _, hl0, he0⟩ := DataW.trod_array (P := Tryd.prog) Tryd.underlying42 f0
      obtain ⟨zs1, m1, _, hy1, _, hl1, he1⟩ := DataW.trod_array (P := Tryd.prog) Tryd.underlying43 f1
      obtain ⟨zs2, m2, _, hy2, _, hl2, he2⟩ := DataW.trod_array (P := Tryd.prog) Tryd.underlying44 f2
      rw [hc3] at he0
      rw [hc4] at he1
      rw [hc9] at he2
      match zs0, hl0, he0, zs1, hl1, he1, zs2, hl2, hy2, he2 with
      | [p0, p1, p2, p3, p4], _, he0, [q0, q1, q2, q3, q4, q5, q6, q7, q8, q9], _, he1, [t0, t1, t2], _, hy2, he2 =>
        obtain ⟨n0, e0, _, w0⟩ := DataW.trod_int (P := Tryd.prog) Tryd.underlying3 (he0 0 (by decide))
        obtain rfl : a0 = .int .i64 n0 := by simpa [hc42, Value.cells] using e0
        obtain ⟨n1, e1, _, w1⟩ := DataW.trod_int (P := Tryd.prog) Tryd.underlying3 (he0 1 (by decide))
        obtain rfl : a1 = .int .i64 n1 := by simpa [hc42, Value.cells] using e1
        obtain ⟨n2, e2, _, w2⟩ := DataW.trod_int (P := Tryd.prog) Tryd.underlying3 (he0 2 (by decide))
        obtain rfl : a2 = .int .i64 n2 := by simpa [hc42, Value.cells] using e2
        obtain ⟨n3, e3, _, w3⟩ := DataW.trod_int (P := Tryd.prog) Tryd.underlying3 (he0 3 (by decide))
        obtain rfl : a3 = .int .i64 n3 := by simpa [hc42, Value.cells] using e3
        obtain ⟨n4, e4, _, w4⟩ := DataW.trod_int (P := Tryd.prog) Tryd.underlying3 (he0 4 (by decide))
        obtain rfl : a4 = .int .i64 n4 := by simpa [hc42, Value.cells] using e4
        obtain ⟨b0, g0, _⟩ := DataW.trod_bool (P := Tryd.prog) Tryd.underlying4 (he1 0 (by decide))
        obtain rfl : a5 = .bool b0 := by simpa [hc43, Value.cells] using g0
        obtain ⟨b1, g1, _⟩ := DataW.trod_bool (P := Tryd.prog) Tryd.underlying4 (he1 1 (by decide))
        obtain rfl : a6 = .bool b1 := by simpa [hc43, Value.cells] using g1
        obtain ⟨b2, g2, _⟩ := DataW.trod_bool (P := Tryd.prog) Tryd.underlying4 (he1 2 (by decide))
        obtain rfl : a7 = .bool b2 := by simpa [hc43, Value.cells] using g2
        obtain ⟨b3, g3, _⟩ := DataW.trod_bool (P := Tryd.prog) Tryd.underlying4 (he1 3 (by decide))
        obtain rfl : a8 = .bool b3 := by simpa [hc43, Value.cells] using g3
        obtain ⟨b4, g4, _⟩ := DataW.trod_bool (P := Tryd.prog) Tryd.underlying4 (he1 4 (by decide))
        obtain rfl : a9 = .bool b4 := by simpa [hc43, Value.cells] using g4
        obtain ⟨b5, g5, _⟩ := DataW.trod_bool (P := Tryd.prog) Tryd.underlying4 (he1 5 (by decide))
        obtain rfl : a10 = .bool b5 := by simpa [hc43, Value.cells] using g5
        obtain ⟨b6, g6, _⟩ := DataW.trod_bool (P := Tryd.prog) Tryd.underlying4 (he1 6 (by decide))
        obtain rfl : a11 = .bool b6 := by simpa [hc43, Value.cells] using g6
        obtain ⟨b7, g7, _⟩ := DataW.trod_bool (P := Tryd.prog) Tryd.underlying4 (he1 7 (by decide))
        obtain rfl : a12 = .bool b7 := by simpa [hc43, Value.cells] using g7
        obtain ⟨b8, g8, _⟩ := DataW.trod_bool (P := Tryd.prog) Tryd.underlying4 (he1 8 (by decide))
        obtain rfl : a13 = .bool b8 := by simpa [hc43, Value.cells] using g8
        obtain ⟨b9, g9, _⟩ := DataW.trod_bool (P := Tryd.prog) Tryd.underlying4 (he1 9 (by decide))
        obtain rfl : a14 = .bool b9 := by simpa [hc43, Value.cells] using g9
        obtain ⟨s0, k0, j0, _⟩ := DataW.trod_string (P := Tryd.prog) Tryd.underlying9 (he2 0 (by decide))
        obtain rfl : a15 = .string s0 := by simpa [hc44, Value.cells] using k0
        obtain ⟨s1, k1, j1, _⟩ := DataW.trod_string (P := Tryd.prog) Tryd.underlying9 (he2 1 (by decide))
        obtain rfl : a16 = .string s1 := by simpa [hc44, Value.cells] using k1
        obtain ⟨s2, k2, j2, _⟩ := DataW.trod_string (P := Tryd.prog) Tryd.underlying9 (he2 2 (by decide))
        obtain rfl : a17 = .string s2 := by simpa [hc44, Value.cells] using k2
        refine ⟨n0, n1, n2, n3, n4, b0, b1, b2, b3, b4, b5, b6, b7, b8, b9, s0, s1, s2, rfl, ⟨wf_i64 w0, wf_i64 w1, wf_i64 w2, wf_i64 w3, wf_i64 w4⟩, ?_⟩
        have ed : d = .agg [y0.1, y1.1, y2.1] := congrArg Prod.fst hx
        have e2 : y2.1 = .agg [t0.1, t1.1, t2.1] := congrArg Prod.fst hy2
        have u0 : t0.1 = .lit (.string s0.data.toList) := congrArg Prod.fst j0
        have u1 : t1.1 = .lit (.string s1.data.toList) := congrArg Prod.fst j1
        have u2 : t2.1 = .lit (.string s2.data.toList) := congrArg Prod.fst j2
        rw [ed, e2, u0, u1, u2]
        simp only [Rows.uptoBulk, Rows.uptoBulkAll, len_size]
        omega
end Go.Proofs.YtmeekjfnmdbnpaaDoor
