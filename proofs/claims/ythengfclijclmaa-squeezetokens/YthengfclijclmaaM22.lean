/- Texts of this proof, one behind the other: what each says stands ahead of it. -/
import Derived.Test.YthengfclijclmaaM21
import Derived.Laws.BitsLemmas
import Derived.Laws.BitsAllLaws
import Derived.Test.YthengfclijclmaaM1
import Derived.Test.YthengfclijclmaaRows
import Derived.WalkKit
import Derived.ProofKit
import Derived.OpenShut
import Derived.ShutString
import Derived.ChangeOld
import Derived.Below
import Derived.SizedLaws
import Derived.BigQuiet
import Derived.Test.YthengfclijclmaaM15
import Derived.Test.YthengfclijclmaaM0
/- Three bytes, and how many are the same; conditions: those told. -/
namespace Go.Proofs.Ythengfclijclmaa
open Go.RowKit
open Go.Lib

/-- Three bytes as one number. -/
def k3 (d : ByteArray) (at_ : Nat) : Nat := Bt.byteN d at_ + 256 * Bt.byteN d (at_ + 1) + 65536 * Bt.byteN d (at_ + 2)
theorem byteN_at (d : ByteArray) (i : Nat) (h : i < d.size) : Bt.byteN d i = d[i].toNat := by
  unfold Bt.byteN
  have h' : i < d.data.size := h
  rw [Array.getD_eq_getD_getElem?, Array.getElem?_eq_getElem h']
  rfl
theorem or_join (x y m : Nat) (hm : m ≤ 40) (hx : x < 2 ^ m) (hy : y < 256) : bits .or .i64 (x : Int) ((y * 2 ^ m : Nat) : Int) = ((x + y * 2 ^ m : Nat) : Int) := by
  have hp : 2 ^ m ≤ 2 ^ 40 := Nat.pow_le_pow_right (by decide) hm
  have hyb : y * 2 ^ m ≤ 255 * 2 ^ m := Nat.mul_le_mul_right _ (by omega)
  rw [(bits_nat .i64 62 (by decide) wraps_i64 x (y * 2 ^ m) (by omega) (by omega)).2, Nat.or_comm, nat_join m (y * 2 ^ m) x (by simp) hx, Nat.add_comm]
set_option maxRecDepth 100000 in
set_option maxHeartbeats 8000000 in
theorem three_any (d : ByteArray) (pb p : Nat) (w : World) (hc : w.cell? ⟨pb, 0, none⟩ = some (.string d)) (hp : p + 2 < d.size) (hd : d.size ≤ 1073741824) :
    Calls Try.prog 61 #[.pointer (some ⟨pb, 0, none⟩), .int .i64 (p : Nat)] w fun e w' => e = .returned (.int .i64 ((k3 d p : Nat) : Int)) ∧ Touch (fun _ => False) w w' := by
  obtain ⟨j1, hj1⟩ : ∃ j : Nat, j = p + 1 := ⟨_, rfl⟩
  obtain ⟨j2, hj2⟩ : ∃ j : Nat, j = p + 2 := ⟨_, rfl⟩
  have l0 : p < d.size := by omega
  have l1 : j1 < d.size := by omega
  have l2 : j2 < d.size := by omega
  obtain ⟨a, ha⟩ : ∃ a : Nat, a = d[p].toNat := ⟨_, rfl⟩
  obtain ⟨b, hb⟩ : ∃ b : Nat, b = d[j1].toNat := ⟨_, rfl⟩
  obtain ⟨c, hcc⟩ : ∃ c : Nat, c = d[j2].toNat := ⟨_, rfl⟩
  have qa : d[p].toNat = a := ha.symm
  have qb : d[j1].toNat = b := hb.symm
  have qc : d[j2].toNat = c := hcc.symm
  have la : a < 256 := by rw [ha]; exact UInt8.toNat_lt _
  have lb : b < 256 := by rw [hb]; exact UInt8.toNat_lt _
  have lc : c < 256 := by rw [hcc]; exact UInt8.toNat_lt _
  have hpI : (p : Int) < (d.size : Int) := by omega
  have hj1I : (j1 : Int) < (d.size : Int) := by omega
  have hj2I : (j2 : Int) < (d.size : Int) := by omega
  have w1 : IntKind.i64.wrap ((p : Int) + 1) = (j1 : Int) := by rw [IntKind.wrap_i64]; omega
  have w2 : IntKind.i64.wrap ((p : Int) + 2) = (j2 : Int) := by rw [IntKind.wrap_i64]; omega
  have wa : IntKind.i64.wrap (a : Int) = (a : Int) := by rw [IntKind.wrap_i64]; omega
  have wb : IntKind.i64.wrap (b : Int) = (b : Int) := by rw [IntKind.wrap_i64]; omega
  have wcc : IntKind.i64.wrap (c : Int) = (c : Int) := by rw [IntKind.wrap_i64]; omega
  have HK := hid (show ((k3 d p : Nat) : Int) = ((a + b * 2 ^ 8 + c * 2 ^ 16 : Nat) : Int) by
    unfold k3
    rw [byteN_at d p l0, byteN_at d (p + 1) (by omega), byteN_at d (p + 2) hp, qa]
    subst hj1 hj2
    rw [qb, qc]
    omega)
  obtain ⟨B, hB⟩ : ∃ B : Nat, B = b * 2 ^ 8 := ⟨_, rfl⟩
  obtain ⟨C, hC⟩ : ∃ C : Nat, C = c * 2 ^ 16 := ⟨_, rfl⟩
  have o1 : bits .or .i64 (a : Int) (B : Int) = ((a + B : Nat) : Int) := by rw [hB]; exact or_join a b 8 (by decide) (by omega) lb
  have o2 : bits .or .i64 ((a + B : Nat) : Int) (C : Int) = ((a + B + C : Nat) : Int) := by rw [hC]; exact or_join (a + B) c 16 (by decide) (by omega) lc
  have O2 := hid (show bits .or .i64 ((a : Int) + (B : Int)) (C : Int) = ((a + B + C : Nat) : Int) by rw [← o2, Int.natCast_add])
  clear o2
  have s1 : IntKind.i64.wrap ((b : Int) * 256) = (B : Int) := by rw [IntKind.wrap_i64]; omega
  have s2 : IntKind.i64.wrap ((c : Int) * 65536) = (C : Int) := by rw [IntKind.wrap_i64]; omega
  rw [← hB, ← hC] at HK
  clear ha hb hcc hj1 hj2 hB hC hp hd
  go_enter Try.func61, Try.ntmps61
  go_upto_region 1 with fail
  go_quiet (fail)
  go_wp2_with fail
  go_ret
  exact ⟨by rw [HK.out, ← O2.out]; rfl, (Touch.refl _ _).drewN _⟩
/-- How many bytes are the same from two places on, at most so many. -/
def eqN (d : ByteArray) (p q : Nat) : Nat → Nat → Nat
  | 0, n => n
  | g + 1, n => if Bt.byteN d (p + n) = Bt.byteN d (q + n) then eqN d p q g (n + 1) else n
theorem eqN_step {d : ByteArray} {p q g n : Nat} (h : Bt.byteN d (p + n) = Bt.byteN d (q + n)) : eqN d p q (g + 1) n = eqN d p q g (n + 1) := by rw [eqN, if_pos h]
theorem eqN_stop {d : ByteArray} {p q g n : Nat} (h : ¬ Bt.byteN d (p + n) = Bt.byteN d (q + n)) : eqN d p q (g + 1) n = n := by rw [eqN, if_neg h]
/-- What same answers. -/
def smN (d : ByteArray) (p q len most : Nat) : Nat := if Bt.byteN d (p + len) = Bt.byteN d (q + len) then eqN d p q most 0 else 0
set_option maxRecDepth 100000 in
set_option maxHeartbeats 8000000 in
theorem same_any (d : ByteArray) (pb p q len most : Nat) (w : World) (hc : w.cell? ⟨pb, 0, none⟩ = some (.string d)) (hpq : p < q) (hq : q + most ≤ d.size) (hl : len < most) (hd : d.size ≤ 1073741824) :
    Calls Try.prog 62 #[.pointer (some ⟨pb, 0, none⟩), .int .i64 (p : Nat), .int .i64 (q : Nat), .int .i64 (len : Nat), .int .i64 (most : Nat)] w fun e w' => e = .returned (.int .i64 ((smN d p q len most : Nat) : Int)) ∧ Touch (fun _ => False) w w' := by
  obtain ⟨j1, hj1⟩ : ∃ j : Nat, j = p + len := ⟨_, rfl⟩
  obtain ⟨j2, hj2⟩ : ∃ j : Nat, j = q + len := ⟨_, rfl⟩
  have l1 : j1 < d.size := by omega
  have l2 : j2 < d.size := by omega
  obtain ⟨a, ha⟩ : ∃ a : Nat, a = d[j1].toNat := ⟨_, rfl⟩
  obtain ⟨b, hb⟩ : ∃ b : Nat, b = d[j2].toNat := ⟨_, rfl⟩
  have qa : d[j1].toNat = a := ha.symm
  have qb : d[j2].toNat = b := hb.symm
  have hj1I : (j1 : Int) < (d.size : Int) := by omega
  have hj2I : (j2 : Int) < (d.size : Int) := by omega
  have w1 : IntKind.i64.wrap ((p : Int) + (len : Int)) = (j1 : Int) := by rw [IntKind.wrap_i64]; omega
  have w2 : IntKind.i64.wrap ((q : Int) + (len : Int)) = (j2 : Int) := by rw [IntKind.wrap_i64]; omega
  have HE := hid (show Bt.byteN d (p + len) = Bt.byteN d (q + len) ↔ a = b by rw [byteN_at d (p + len) (by omega), byteN_at d (q + len) (by omega)]; subst hj1 hj2; rw [qa, qb])
  clear ha hb hj1 hj2
  go_enter Try.func62, Try.ntmps62
  go_upto_region 1 with fail
  by_cases hab : a = b
  · have HS := hid (show smN d p q len most = eqN d p q most 0 by unfold smN; rw [if_pos (HE.out.2 hab)])
    have hne : ((a : Int) != (b : Int)) = false := by simp [hab]
    go_cut [28] (fun v wd => v = .bool false ∧ Touch (fun _ => False) w wd)
    case first =>
      clear hab
      go_quiet (fail)
      go_wp2
      go_meet
      case rel => exact ⟨by first | rfl | exact congrArg Value.bool hne | simp [hne], (Touch.refl _ _).drewN _⟩
    obtain ⟨rfl, ht0⟩ := hcut
    have HC := hid hc
    have PB := hid (World.block_lt_of_cell? w _ hc)
    have T0 := hid ht0
    clear hab hne HE qa qb w1 w2 hc ht0
    go_wp2_with fail
    go_loopg [11] most (fun gk v11 wq => ∃ n : Nat, n + gk = most ∧ v11 = .int .i64 (n : Nat) ∧ eqN d p q gk n = eqN d p q most 0 ∧ Touch (fun _ => False) w wq)
    case atStart => exact ⟨0, by omega, rfl, rfl, T0.out⟩
    case round =>
      obtain ⟨n, hn, rfl, heq, htm⟩ := hrel
      have EQ := hid heq
      have TM := hid htm
      have hc2 : wr.cell? ⟨pb, 0, none⟩ = some (.string d) := (htm.cell (p := ⟨pb, 0, none⟩) PB.out id).trans HC.out
      clear heq htm
      by_cases hlt : n < most
      · obtain ⟨g, rfl⟩ : ∃ g, gk = g + 1 := ⟨gk - 1, by omega⟩
        obtain ⟨i1, hi1⟩ : ∃ j : Nat, j = p + n := ⟨_, rfl⟩
        obtain ⟨i2, hi2⟩ : ∃ j : Nat, j = q + n := ⟨_, rfl⟩
        have k1 : i1 < d.size := by omega
        have k2 : i2 < d.size := by omega
        obtain ⟨x, hx⟩ : ∃ x : Nat, x = d[i1].toNat := ⟨_, rfl⟩
        obtain ⟨y, hy⟩ : ∃ y : Nat, y = d[i2].toNat := ⟨_, rfl⟩
        have qx : d[i1].toNat = x := hx.symm
        have qy : d[i2].toNat = y := hy.symm
        have hi1I : (i1 : Int) < (d.size : Int) := by omega
        have hi2I : (i2 : Int) < (d.size : Int) := by omega
        have w1 : IntKind.i64.wrap ((p : Int) + (n : Int)) = (i1 : Int) := by rw [IntKind.wrap_i64]; omega
        have w2 : IntKind.i64.wrap ((q : Int) + (n : Int)) = (i2 : Int) := by rw [IntKind.wrap_i64]; omega
        have HE := hid (show Bt.byteN d (p + n) = Bt.byteN d (q + n) ↔ x = y by rw [byteN_at d (p + n) (by omega), byteN_at d (q + n) (by omega)]; subst hi1 hi2; rw [qx, qy])
        have hltd : decide ((n : Int) < (most : Int)) = true := decide_eq_true (by omega)
        have hltI : (n : Int) < (most : Int) := by omega
        clear hx hy hi1 hi2
        by_cases hxy : x = y
        · have hb : ((x : Int) == (y : Int)) = true := by simp [hxy]
          have ES := hid (show eqN d p q g (n + 1) = eqN d p q most 0 by rw [← EQ.out, eqN_step (HE.out.2 hxy)])
          clear hxy
          go_upto_region 4 with fail
          go_cut [50] (fun v wd => v = .bool true ∧ Touch (fun _ => False) w wd)
          case first =>
            go_quiet (fail)
            go_wp2
            go_meet
            case rel => exact ⟨by first | rfl | exact congrArg Value.bool hb | simp [hb], TM.out.drewN _⟩
          obtain ⟨rfl, ht2⟩ := hcut
          have T2 := hid ht2
          clear ht2
          go_wp2_with fail
          go_roundg g
          case measure => omega
          case rel => exact ⟨n + 1, by omega, by go_num, ES.out, T2.out⟩
        · have hb : ((x : Int) == (y : Int)) = false := by simp; omega
          have ES := hid (show n = eqN d p q most 0 by rw [← EQ.out, eqN_stop (fun e => hxy (HE.out.1 e))])
          clear hxy
          go_upto_region 4 with fail
          go_cut [50] (fun v wd => v = .bool false ∧ Touch (fun _ => False) w wd)
          case first =>
            go_quiet (fail)
            go_wp2
            go_meet
            case rel => exact ⟨by first | rfl | exact congrArg Value.bool hb | simp [hb], TM.out.drewN _⟩
          obtain ⟨rfl, ht2⟩ := hcut
          have T2 := hid ht2
          clear ht2
          go_wp2_with fail
          go_ret
          exact ⟨by rw [HS.out, ← ES.out]; rfl, T2.out⟩
      · obtain rfl : n = most := by omega
        obtain rfl : gk = 0 := by omega
        have ES := hid (show n = eqN d p q n 0 from EQ.out)
        have hltd : decide ((n : Int) < (n : Int)) = false := by simp
        go_upto_region 4 with fail
        go_cut [50] (fun v wd => v = .bool false ∧ Touch (fun _ => False) w wd)
        case first =>
          go_quiet (fail)
          go_wp2
          go_meet
          case rel => exact ⟨by first | rfl | simp, TM.out.drewN _⟩
        obtain ⟨rfl, ht2⟩ := hcut
        have T2 := hid ht2
        clear ht2
        go_wp2_with fail
        go_ret
        exact ⟨by rw [HS.out, ← ES.out]; rfl, T2.out⟩
  · have HS := hid (show smN d p q len most = 0 by unfold smN; rw [if_neg (fun e => hab (HE.out.1 e))])
    have hne : ((a : Int) != (b : Int)) = true := by simp; omega
    clear hab
    go_quiet (fail)
    go_wp2_with fail
    go_ret
    exact ⟨by rw [HS.out]; rfl, (Touch.refl _ _).drewN _⟩
end Go.Proofs.Ythengfclijclmaa

/- A list appended to an empty one: a copy; conditions: it fits into memory. -/
namespace Go.Proofs.Ythengfclijclmaa
open Go.RowKit

theorem run_copy_none (w : World) (ad : Addr) (ty t e : TypeId) (i : TypeInfo) (ht : Try.prog.underlying t = some (.slice e)) (hin : Try.prog.info? e = some i) :
    (Builtin.append_ #[t, t] ty #[.slice (some ad) 0 0, .slice none 0 0]).run Try.prog w = .ok (.slice (some ad) 0 0) w := by
  simp [Builtin.append_, run_underlying ht, sizeOf, typeInfo, hin, Builtin.lenOf, Builtin.firstCells, storeCells]

theorem wpList_copy (w0 : World) {ops : Array Oper} {rest : List Oper} {o : Oper} {a : Act} {Q : Exit → Act → World → Prop} (hgd : o.guard = none) (sl x : Operand) (t e : TypeId) (i : TypeInfo) (z : Value) (bytes : Nat)
    (ho : o.op = .call { callee := .builtin .append, args := #[sl, x], argTypes := #[t, t] }) (ht : Try.prog.underlying t = some (.slice e)) (hin : Try.prog.info? e = some i) (hz : i.zero = some z) (hz1 : i.size = 1) (hby : i.bytes = bytes) (hzs : z.cells.size = 1)
    (hs : a.eval sl = .slice (some ⟨w0.heap.size, 0, none⟩) 0 0) (A : Option Addr) (len cap : Nat) (hx : a.eval x = .slice A len cap) (vals : List Value) (hlen : vals.length = len)
    (hA : (A = none ∧ cap = 0 ∧ len = 0) ∨ ∃ ad, A = some ad ∧ ∀ j u, vals[j]? = some u → w0.cell? (ad.add j) = some u) (hone : ∀ u ∈ vals, u.oneCell' = true) (hl : len ≤ maxLen) (hb : len * bytes ≤ 140737488355328)
    (h : ∀ v' w', w'.ownsRow w0.heap.size e 1 v' len vals → Touch (fun _ => False) w0 w' → (∃ g c, v' = .slice (some ⟨g, 0, none⟩) len c) → wpList Try.prog ops Q rest (a.put o.dst v') w') : wpList Try.prog ops Q (o :: rest) a (w0.alloc (.cells #[] e)) := by
  have hown : (w0.alloc (.cells #[] e)).ownsRow w0.heap.size e 1 (.slice (some ⟨w0.heap.size, 0, none⟩) 0 0) 0 [] := World.ownsRow_made w0 #[] 0 (Nat.le_refl _) (by unfold maxLen; omega) rfl
  rcases hA with ⟨rfl, rfl, rfl⟩ | ⟨ad, rfl, hc⟩
  · have hv : vals = [] := List.eq_nil_of_length_eq_zero hlen
    subst hv
    refine wpList_plain hgd fun K hK => ?_
    unfold Oper.wp execOp
    simp only [ho, resolve, invoke, builtin, Sem.run_bind, Sem.run_pure, Result.andThen_ok, List.map_toArray, List.map_cons, List.map_nil, hs, hx, run_copy_none _ _ _ t e i ht hin]
    exact hK _ _ (h _ _ hown ((Touch.refl _ w0).alloc _) ⟨_, _, rfl⟩)
  · refine wpList_append_own _ hgd sl x t ho w0.heap.size e i z 1 bytes ht hin hz hz1 hby hzs (by decide) _ 0 [] hs hown ad len cap vals hx (by rw [hlen, Nat.mul_one]) (fun j u hj => ?_) hone (by omega) (by rw [Nat.zero_add]; exact hb) (by simp) (fun v' w' h1 h2 h3 => ?_)
    · have := hc j u hj
      rw [World.cell?_of_block (w := w0) (Below.heap_alloc _ _ _ (World.block_lt_of_cell? w0 _ this))]
      exact this
    · rw [Nat.zero_add, List.nil_append] at h1
      refine h v' w' h1 (((Touch.refl (fun _ => False) w0).alloc _).grown h2 (fun k e h => by simp [Value.ownBlock] at e; omega)) ?_
      rcases h1.2 with ⟨rfl, _⟩ | ⟨g, cap', cur, rfl, _⟩
      · have := h3.mp rfl
        simp at this
      · exact ⟨g, cap', rfl⟩
end Go.Proofs.Ythengfclijclmaa

/- What a law is told of lists that came in: numbers, and whether things are so. -/
namespace Go.Proofs.Ythengfclijclmaa
open Go.ChangeShapes Go.WideShapes Go.ChangeAt Go.RowKit

theorem own : ownKnob Try.prog.godebug = none := by kernel_rfl
theorem laidOut : laidOutB Try.prog = true := by kernel_rfl

/-- What a walk is told of a list of numbers that came in. -/
def IsRow (w : World) (a : Option Addr) (len cap : Nat) (zs : List Int) : Prop :=
  (a = none ∧ len = 0 ∧ cap = 0 ∧ zs = []) ∨
  ∃ x, a = some x ∧ len ≤ cap ∧ cap * 8 ≤ 140737488351232 ∧ zs.length = cap ∧ (0 < cap → x.block < w.heap.size) ∧ (∀ i, i < zs.length → w.cell? (x.add i) = some (.int .i64 (zs.getD i 0))) ∧ ∀ n ∈ zs, (Lit.int .i64 n).wf = true

theorem IsRow.open {w : World} {a : Option Addr} {len cap : Nat} {zs : List Int} (h : IsRow w a len cap zs) : len * 8 ≤ 140737488351232 ∧ Ints w a len (fun i => zs.getD i 0) ∧ (a = none ∧ cap = 0 ∧ len = 0 ∨ ∃ x, a = some x) := by
  rcases h with ⟨rfl, rfl, rfl, rfl⟩ | ⟨x, rfl, hl, hc, hz, hlt, hcell, _⟩
  · exact ⟨by omega, .inl rfl, .inl ⟨rfl, rfl, rfl⟩⟩
  · refine ⟨by omega, ?_, .inr ⟨x, rfl⟩⟩
    by_cases h0 : len = 0
    · exact .inl h0
    · obtain ⟨b, off, spot⟩ := x
      have hspot : spot = none := by simpa [Addr.add] using World.cell?_spot (hcell 0 (by omega))
      subst hspot
      refine .inr ⟨b, off, rfl, hlt (by omega), fun i hi => ?_⟩
      have := hcell i (by omega)
      rwa [show (⟨b, off, none⟩ : Addr).add i = ⟨b, off + i, none⟩ by unfold Addr.add; split <;> simp_all] at this

/-- The values of a list that came in, as wpList_copy asks for them. -/
theorem IsRow.vals {w : World} {a : Option Addr} {len cap : Nat} {zs : List Int} (h : IsRow w a len cap zs) : (a = none ∧ cap = 0 ∧ len = 0) ∨ ∃ ad, a = some ad ∧ ∀ j u, ((List.range len).map fun i => Value.int .i64 (zs.getD i 0))[j]? = some u → w.cell? (ad.add j) = some u := by
  rcases h with ⟨rfl, rfl, rfl, rfl⟩ | ⟨x, rfl, hl, hc, hz, hlt, hcell, _⟩
  · exact .inl ⟨rfl, rfl, rfl⟩
  · refine .inr ⟨x, rfl, fun j u hj => ?_⟩
    have hj' : j < len := by
      rcases Nat.lt_or_ge j len with h | h
      · exact h
      · rw [List.getElem?_eq_none (by simpa using h)] at hj; simp at hj
    rw [hcell j (by omega)]
    simpa [hj'] using hj

theorem IsRow.new {w w' : World} {a : Option Addr} {len cap : Nat} {zs : List Int} (h : IsRow w a len cap zs) (t : Touch (fun _ => False) w w') : IsRow w' a len cap zs := by
  rcases h with h | ⟨x, h1, h2, h3, h4, h5, h6, h7⟩
  · exact .inl h
  · refine .inr ⟨x, h1, h2, h3, h4, fun h => Nat.lt_of_lt_of_le (h5 h) t.size, fun i hi => ?_, h7⟩
    have hc := h6 i hi
    rw [t.cell (World.block_lt_of_cell? w _ hc) id]
    exact hc

/-- A list of numbers that came in, by what stands at each place. -/
structure Row (w : World) (a : Option Addr) (len cap : Nat) (F : Nat → Int) : Prop where
  fit : len * 8 ≤ 140737488351232
  ints : Ints w a len F
  vals : (a = none ∧ cap = 0 ∧ len = 0) ∨ ∃ ad, a = some ad ∧ ∀ j u, ((List.range len).map fun i => Value.int .i64 (F i))[j]? = some u → w.cell? (ad.add j) = some u

theorem IsRow.row {w : World} {a : Option Addr} {len cap : Nat} {zs : List Int} (h : IsRow w a len cap zs) : Row w a len cap (fun i => zs.getD i 0) := ⟨h.open.1, h.open.2.1, h.vals⟩

theorem Row.new {w w' : World} {a : Option Addr} {len cap : Nat} {F : Nat → Int} (h : Row w a len cap F) (t : Touch (fun _ => False) w w') : Row w' a len cap F := by
  refine ⟨h.fit, h.ints.new t, ?_⟩
  rcases h.vals with h | ⟨x, h1, h2⟩
  · exact .inl h
  · refine .inr ⟨x, h1, fun j u hj => ?_⟩
    have hc := h2 j u hj
    rw [t.cell (World.block_lt_of_cell? w _ hc) id]
    exact hc

theorem one_cells (F : Nat → Int) (len : Nat) : ∀ u ∈ (List.range len).map (fun i => Value.int .i64 (F i)), u.oneCell' = true := by
  intro u hu
  simp at hu
  obtain ⟨_, _, rfl⟩ := hu
  rfl

theorem IsRow.num {w : World} {a : Option Addr} {len cap : Nat} {zs : List Int} (h : IsRow w a len cap zs) (i : Nat) : -9223372036854775808 ≤ zs.getD i 0 ∧ zs.getD i 0 ≤ 9223372036854775807 := by
  rcases Nat.lt_or_ge i zs.length with hi | hi
  · have hm : zs.getD i 0 ∈ zs := by
      rw [List.getD_eq_getElem?_getD, List.getElem?_eq_getElem hi]
      exact List.getElem_mem hi
    rcases h with ⟨_, _, _, rfl⟩ | ⟨x, _, _, _, _, _, _, hw⟩
    · simp at hi
    · have := hw _ hm
      simpa [Lit.wf, show IntKind.i64.min = -9223372036854775808 from rfl] using this
  · rw [List.getD_eq_getElem?_getD, List.getElem?_eq_none hi]
    decide

end Go.Proofs.Ythengfclijclmaa

/- Code and All of a writer, and what is done by no writer and with a number of bits that does not fit. -/
namespace Go.Proofs.Ythengfclijclmaa
open Go.RowKit

set_option maxHeartbeats 400000 in
theorem code_yes (b : Nat) (bs : List Bool) (v : Int) (n : Nat) (w : World) (h : Wr w b bs) (hlen : bs.length + n < 1125899906842624) (hn : n ≤ 32) :
    Calls Try.prog 77 #[.pointer (some ⟨b, 0, none⟩), .int .i64 v, .int .i64 n] w fun e w' => e = .returned (.tuple #[]) ∧ WStep w w' b (bs ++ (List.range n).map (fun i => ibit v (n - 1 - i))) := by
  go_enter Try.func77, Try.ntmps77
  go_wp2_with (go_at_call 35; refine (fits_yes _ _ (by omega) (by omega)).mono ?_; rintro e w ⟨rfl, rfl⟩)
  go_loopw [15] (fun i wr => ∃ k : Nat, k ≤ n ∧ i = .int .i64 k ∧ WStep w wr b (bs ++ (List.range k).map (fun i => ibit v (n - 1 - i)))) (fun i _ => n - (intOf i).toNat)
  case atStart => exact ⟨0, Nat.zero_le _, rfl, by simpa using WStep.refl h⟩
  case round =>
    obtain ⟨k, hk, rfl, hst⟩ := hrel
    by_cases hlt : k < n
    · have hs : (0 : Int) ≤ (n : Int) - 1 - k := by omega
      go_wp2_with fail
      rw [i64_and1]
      have hm := Int.emod_nonneg (v / 2 ^ (n - 1 - k)) (b := 2) (by decide)
      have hm' := Int.emod_lt_of_pos (v / 2 ^ (n - 1 - k)) (b := 2) (by decide)
      refine (bit_any b _ (v / 2 ^ (n - 1 - k) % 2) _ hst.wr (by simp; omega) hm (by omega)).mono ?_
      rintro e w1 ⟨rfl, hst1⟩
      have H : Hid _ := hst.trans hst1
      clear hst hst1 hm hm'
      go_wp2
      go_roundw
      case rel => exact ⟨k + 1, by omega, by go_num, by have := H.out; rw [List.append_assoc] at this; rw [List.range_succ, List.map_append]; exact this⟩
      case measure => simp [intOf]; omega
    · obtain rfl : k = n := by omega
      go_wp2
      go_end0
      exact ⟨rfl, hst⟩

theorem code_no (b : Nat) (v n : Int) (w : World) (h : n < 0 ∨ 32 < n) :
    Calls Try.prog 77 #[.pointer (some ⟨b, 0, none⟩), .int .i64 v, .int .i64 n] w fun e w' => e = .returned (.tuple #[]) ∧ w' = w := by
  go_enter Try.func77, Try.ntmps77
  go_wp2_with (go_at_call 35; refine (fits_no _ _ h).mono ?_; rintro e w ⟨rfl, rfl⟩)
  refine bodyPost_ret (results_none rfl _ _ _) rfl ?_
  exact ⟨rfl, rfl⟩

theorem code_nil (v n : Int) (w : World) :
    Calls Try.prog 77 #[.pointer none, .int .i64 v, .int .i64 n] w fun e w' => e = .returned (.tuple #[]) ∧ w' = w := by
  go_enter Try.func77, Try.ntmps77
  go_wp2
  refine bodyPost_ret (results_none rfl _ _ _) rfl ?_
  exact ⟨rfl, rfl⟩

theorem all_nil (w : World) : Calls Try.prog 20 #[.pointer none] w fun e w' => e = .returned (.string ByteArray.empty) ∧ w' = w := by
  go_enter Try.func20, Try.ntmps20
  go_wp2
  go_ret
  exact ⟨rfl, rfl⟩

theorem all_any (b : Nat) (bs : List Bool) (w : World) (h : Wr w b bs) :
    Calls Try.prog 20 #[.pointer (some ⟨b, 0, none⟩)] w fun e w' => e = .returned (.string (strOf (Bt.pack bs))) ∧ w' = w := by
  obtain ⟨v, hb, hown⟩ := h
  have h0 := cell_two0 hb
  have hl : (bytesV (Bt.pack bs)).length = (bs.length + 7) / 8 := by simp [bytesV, Bt.length_pack]
  rcases hown.2 with ⟨rfl, hz⟩ | ⟨g, cap, cur, rfl, _, hh, hle, _⟩
  · have hcv := run_convert_bytes_nil (P := Try.prog) w 25 5 Try.underlying25 Try.underlying5 0 0 9 Try.underlying9
    have e : strOf (Bt.pack bs) = ByteArray.empty := by
      rw [List.eq_nil_of_length_eq_zero (l := Bt.pack bs) (by rw [Bt.length_pack]; exact hz)]
      rfl
    rw [e]
    clear hown hb hl
    go_enter Try.func20, Try.ntmps20
    go_wp2
    go_ret
    exact ⟨rfl, rfl⟩
  · have hc : ∀ j (hj : j < ((Bt.pack bs).map UInt8.ofNat).length), w.cell? ((⟨g, 0, none⟩ : Addr).add j) = some (.int .u8 ((((Bt.pack bs).map UInt8.ofNat)[j]).toNat : Int)) := by
      intro j hj
      simp only [List.length_map] at hj
      refine hown.cells rfl j _ ?_
      have hlt := Bt.pack_lt bs _ (List.getElem_mem hj)
      simp only [bytesV, List.getElem?_map, List.getElem?_eq_getElem hj, Option.map_some, List.getElem_map]
      rw [UInt8.toNat_ofNat_of_lt' (by simpa using hlt)]
    have hcv := run_convert_bytes_back (P := Try.prog) w 25 9 5 ⟨g, 0, none⟩ cap ((Bt.pack bs).map UInt8.ofNat) Try.underlying25 Try.underlying5 Try.underlying9 hc
    rw [List.length_map, Bt.length_pack] at hcv
    clear hown hb hl hc hh
    go_enter Try.func20, Try.ntmps20
    go_wp2
    go_ret
    exact ⟨rfl, rfl⟩
end Go.Proofs.Ythengfclijclmaa
