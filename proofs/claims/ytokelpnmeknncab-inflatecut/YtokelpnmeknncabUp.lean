/- An unpacker in memory, and its small calls; no condition beside those told. -/
import Derived.Test.YtokelpnmeknncabTk
import Derived.Test.YtokelpnmeknncabRoom
namespace Go.Proofs.Ytokelpnmeknncab
open Go.RowKit

/-- The unpacker at ub: its reader, what was unpacked so far, its bound, and the fixed tables, if they are made. -/
def Up (w : World) (ub r : Nat) (v : Value) (out : List Nat) (most : Int) (tl td : Option Addr) : Prop :=
  w.heap[ub]? = some (.cells #[.pointer (some ⟨r, 0, none⟩), v, .int .i64 most, .pointer tl, .pointer td] 76 (0, 0)) ∧ w.ownsRow 0 5 1 v out.length (bytesV out)

theorem up_shape {w : World} {ub r : Nat} {v : Value} {out : List Nat} {most : Int} {tl td : Option Addr} (h : Up w ub r v out most tl td) : ∃ a c, v = .slice a out.length c := by
  rcases h.2.2 with ⟨rfl, h0⟩ | ⟨g, cap, cur, rfl, _⟩
  · exact ⟨none, 0, by rw [h0]⟩
  · exact ⟨_, cap, rfl⟩

theorem up_cells {w : World} {ub r : Nat} {v : Value} {out : List Nat} {most : Int} {tl td : Option Addr} (h : Up w ub r v out most tl td) :
    w.cell? ⟨ub, 0, none⟩ = some (.pointer (some ⟨r, 0, none⟩)) ∧ w.cell? ⟨ub, 1, none⟩ = some v ∧ w.cell? ⟨ub, 2, none⟩ = some (.int .i64 most) ∧ w.cell? ⟨ub, 3, none⟩ = some (.pointer tl) ∧ w.cell? ⟨ub, 4, none⟩ = some (.pointer td) := by
  simp [World.cell?, h.1]

theorem ret_first {a b : Int} {v : Value} (h : a = b) : Ending.returned (.tuple #[.int .i64 a, v]) = .returned (.tuple #[.int .i64 b, v]) := by rw [h]

theorem two_val (a b : Nat) (ha : a < 256) (hb : b < 256) : bits .or .i64 (wrap64 (a : Int)) (wrap64 (wrap64 (b : Int) * 256)) = ((a + 256 * b : Nat) : Int) := by
  have h1 : wrap64 (a : Int) = (a : Int) := by unfold wrap64; omega
  have h2 : wrap64 (wrap64 (b : Int) * 256) = ((b * 256 : Nat) : Int) := by unfold wrap64; omega
  rw [h1, h2, i64_or_nat _ _ (by omega) (by omega), Nat.or_comm, nat_join 8 (b * 256) a (by omega) (by omega), Nat.add_comm, Nat.mul_comm b]

theorem RStep.drewN {w w' : World} {b : Nat} {s : ByteArray} {t : Nat} (h : RStep w w' b s t) (n : Nat) : RStep w (w'.drewN n) b s t := ⟨h.rd, h.touch.drewN n⟩

theorem hasRoom_any (ub r : Nat) (v : Value) (out : List Nat) (most : Int) (tl td : Option Addr) (n : Int) (w : World) (h : Up w ub r v out most tl td) (hm0 : 0 ≤ most) (hm1 : most ≤ 9223372036854775807) (hl : out.length ≤ 140737488355328) :
    Calls Try.prog 56 #[.pointer (some ⟨ub, 0, none⟩), .int .i64 n] w fun e w' => e = .returned (.bool (decide (n ≤ most - out.length))) ∧ Still w w' := by
  obtain ⟨a, c, rfl⟩ := up_shape h
  obtain ⟨_, c1, c2, _, _⟩ := up_cells h
  clear h
  generalize out.length = k at *
  go_enter Try.func56, Try.ntmps56
  go_wp2_with fail
  go_quiet (fail)
  go_wp2
  go_ret
  exact ⟨rfl, (Still.refl w).drewN _⟩

theorem twoBytes_end (ub r : Nat) (v : Value) (out : List Nat) (most : Int) (tl td : Option Addr) (s : ByteArray) (t : Nat) (w : World) (h : Up w ub r v out most tl td) (hr : Rd w r s t) (hs : s.size ≤ 140737488351232) (ht : t ≤ 8 * s.size) (hno : s.size < (t + 7) / 8 + 2) :
    Calls Try.prog 55 #[.pointer (some ⟨ub, 0, none⟩)] w fun e w' => e = .returned (.tuple #[.int .i64 0, .int .i64 3]) ∧ w' = w := by
  obtain ⟨c0, _, _, _, _⟩ := up_cells h
  have RB := hid (rbytes_end r s t 2 w hr (by omega) ht (by omega) (by omega))
  clear h hr
  go_enter Try.func55, Try.ntmps55
  go_wp2_with fail
  refine RB.out.mono ?_
  rintro e w1 ⟨rfl, rfl⟩
  go_wp2
  go_ret2
  exact ⟨rfl, rfl⟩

theorem twoBytes_yes (ub r : Nat) (v : Value) (out : List Nat) (most : Int) (tl td : Option Addr) (s : ByteArray) (t : Nat) (w : World) (h : Up w ub r v out most tl td) (hr : Rd w r s t) (hs : s.size ≤ 140737488351232) (ht : t ≤ 8 * s.size) (hok : (t + 7) / 8 + 2 ≤ s.size) :
    Calls Try.prog 55 #[.pointer (some ⟨ub, 0, none⟩)] w fun e w' => e = .returned (.tuple #[.int .i64 (Bt.byteN s ((t + 7) / 8) + 256 * Bt.byteN s ((t + 7) / 8 + 1) : Nat), .int .i64 0]) ∧ RStep w w' r s (8 * ((t + 7) / 8 + 2)) := by
  obtain ⟨c0, _, _, _, _⟩ := up_cells h
  have RB := hid (rbytes_yes r s t 2 w hr (by omega) ht hok)
  clear h hr
  go_enter Try.func55, Try.ntmps55
  go_wp2_with fail
  refine RB.out.mono ?_
  rintro e w1 ⟨rfl, hst⟩
  have ST := hid hst
  clear hst
  generalize hx : s.extract ((t + 7) / 8) ((t + 7) / 8 + 2) = x
  have hxs : x.size = 2 := by rw [← hx, ByteArray.size_extract]; omega
  have q0 : (0 : Int) < (x.size : Int) := by omega
  have q1 : (1 : Int) < (x.size : Int) := by omega
  have q0' : 0 < x.size := by omega
  have q1' : 1 < x.size := by omega
  have HX := hid hx
  clear hx
  go_wp2_with fail
  go_quiet (fail)
  go_wp2
  go_ret2
  have hxx := HX.out.symm
  have e0 : x[0].toNat = Bt.byteN s ((t + 7) / 8) := by
    rw [← byte_get s _ (by omega)]
    subst hxx
    rw [ByteArray.getElem_extract]
    rfl
  have e1 : x[1].toNat = Bt.byteN s ((t + 7) / 8 + 1) := by
    rw [← byte_get s _ (by omega)]
    subst hxx
    rw [ByteArray.getElem_extract]
  refine ⟨ret_first ?_, ST.out.drewN _⟩
  rw [e0, e1]
  exact two_val _ _ (Bt.byteN_lt _ _) (Bt.byteN_lt _ _)
end Go.Proofs.Ytokelpnmeknncab
