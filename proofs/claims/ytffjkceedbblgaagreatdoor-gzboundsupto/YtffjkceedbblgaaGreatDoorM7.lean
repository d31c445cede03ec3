/- Texts of this proof, one behind the other: what each says stands ahead of it. -/
import Derived.Test.YtffjkceedbblgaaGreatDoorM3
import Derived.Test.YtffjkceedbblgaaGreatDoorM1
import Derived.Lib.AppendStr
import Derived.Test.YtffjkceedbblgaaGreatDoorM0
/- Bytes of a reader. -/
namespace Go.Proofs.YtffjkceedbblgaaGreatDoor
open Go.RowKit

theorem rbytes_no (b : Nat) (n : Int) (w : World) (h : n < 0) :
    Calls Tryz.prog 98 #[.pointer (some ⟨b, 0, none⟩), .int .i64 n] w fun e w' => e = .returned (.tuple #[.string ByteArray.empty, .int .i64 1]) ∧ w' = w := by
  go_enter Tryz.func98, Tryz.ntmps98
  go_wp2
  go_ret2
  exact ⟨rfl, rfl⟩

set_option maxHeartbeats 400000 in
theorem rbytes_end (b : Nat) (s : ByteArray) (t : Nat) (n : Int) (w : World) (r : Rd w b s t) (hs : s.size ≤ 140737488355328) (ht : t ≤ 8 * s.size) (h0 : 0 ≤ n) (h : s.size - ((t + 7) / 8 : Nat) < n) :
    Calls Tryz.prog 98 #[.pointer (some ⟨b, 0, none⟩), .int .i64 n] w fun e w' => e = .returned (.tuple #[.string ByteArray.empty, .int .i64 3]) ∧ w' = w := by
  have c0 := r.c0
  have c1 := r.c1
  have hd : ¬ n < 0 := by omega
  go_enter Tryz.func98, Tryz.ntmps98
  go_wp2
  go_ret2
  exact ⟨rfl, rfl⟩

set_option maxHeartbeats 400000 in
theorem rbytes_yes (b : Nat) (s : ByteArray) (t n : Nat) (w : World) (r : Rd w b s t) (hs : s.size ≤ 140737488355328) (ht : t ≤ 8 * s.size) (h : (t + 7) / 8 + n ≤ s.size) :
    Calls Tryz.prog 98 #[.pointer (some ⟨b, 0, none⟩), .int .i64 n] w fun e w' => e = .returned (.tuple #[.string (s.extract ((t + 7) / 8) ((t + 7) / 8 + n)), .int .i64 0]) ∧ RStep w w' b s (8 * ((t + 7) / 8 + n)) := by
  have c0 := r.c0
  have c1 := r.c1
  have f1 := r.f1
  have hd : ¬ (n : Int) < 0 := by omega
  go_enter Tryz.func98, Tryz.ntmps98
  go_wp2
  go_ret2
  exact ⟨rfl, by have := r.step (Still.refl w) (8 * ((t + 7) / 8 + n)); simpa using this⟩
end Go.Proofs.YtffjkceedbblgaaGreatDoor

/- An unpacker in memory, and its small calls; no condition beside those told. -/
namespace Go.Proofs.YtffjkceedbblgaaGreatDoor
open Go.RowKit

/-- The unpacker at ub: its reader, what was unpacked so far, its bound, and the fixed tables, if they are made. -/
def Up (w : World) (ub r : Nat) (v : Value) (out : List Nat) (most : Int) (tl td : Option Addr) : Prop :=
  w.heap[ub]? = some (.cells #[.pointer (some ⟨r, 0, none⟩), v, .int .i64 most, .pointer tl, .pointer td] 148 (0, 0)) ∧ w.ownsRow 0 5 1 v out.length (bytesV out)

theorem up_shape {w : World} {ub r : Nat} {v : Value} {out : List Nat} {most : Int} {tl td : Option Addr} (h : Up w ub r v out most tl td) : ∃ a c, v = .slice a out.length c := by
  rcases h.2.2 with ⟨rfl, h0⟩ | ⟨g, cap, cur, rfl, _⟩
  · exact ⟨none, 0, by rw [h0]⟩
  · exact ⟨_, cap, rfl⟩

theorem up_cells {w : World} {ub r : Nat} {v : Value} {out : List Nat} {most : Int} {tl td : Option Addr} (h : Up w ub r v out most tl td) :
    w.cell? ⟨ub, 0, none⟩ = some (.pointer (some ⟨r, 0, none⟩)) ∧ w.cell? ⟨ub, 1, none⟩ = some v ∧ w.cell? ⟨ub, 2, none⟩ = some (.int .i64 most) ∧ w.cell? ⟨ub, 3, none⟩ = some (.pointer tl) ∧ w.cell? ⟨ub, 4, none⟩ = some (.pointer td) := by
  simp [World.cell?, h.1]

theorem ret_first {a b : Int} {v : Value} (h : a = b) : Ending.returned (.tuple #[.int .i64 a, v]) = .returned (.tuple #[.int .i64 b, v]) := by rw [h]

theorem two_val (a b : Nat) (ha : a < 256) (hb : b < 256) : bits .or .i64 (wrap64 (a : Int)) (wrap64 (wrap64 (b : Int) * 256)) = ((a + 256 * b : Nat) : Int) := by
  have h1 : wrap64 (a : Int) = (a : Int) := by unfold wrap64; omega
  have h2 : wrap64 (wrap64 (b : Int) * 256) = ((b * 256 : Nat) : Int) := by unfold wrap64; omega
  rw [h1, h2, i64_or_nat _ _ (by omega) (by omega), Nat.or_comm, nat_join 8 (b * 256) a (by omega) (by omega), Nat.add_comm, Nat.mul_comm b]

theorem RStep.drewN {w w' : World} {b : Nat} {s : ByteArray} {t : Nat} (h : RStep w w' b s t) (n : Nat) : RStep w (w'.drewN n) b s t := ⟨h.rd, h.touch.drewN n⟩

theorem hasRoom_any (ub r : Nat) (v : Value) (out : List Nat) (most : Int) (tl td : Option Addr) (n : Int) (w : World) (h : Up w ub r v out most tl td) (hm0 : 0 ≤ most) (hm1 : most ≤ 9223372036854775807) (hl : out.length ≤ 140737488355328) :
    Calls Tryz.prog 97 #[.pointer (some ⟨ub, 0, none⟩), .int .i64 n] w fun e w' => e = .returned (.bool (decide (n ≤ most - out.length))) ∧ Still w w' := by
  obtain ⟨a, c, rfl⟩ := up_shape h
  obtain ⟨_, c1, c2, _, _⟩ := up_cells h
  clear h
  generalize out.length = k at *
  go_enter Tryz.func97, Tryz.ntmps97
  go_wp2_with fail
  go_quiet (fail)
  go_wp2
  go_ret
  exact ⟨rfl, (Still.refl w).drewN _⟩

theorem twoBytes_end (ub r : Nat) (v : Value) (out : List Nat) (most : Int) (tl td : Option Addr) (s : ByteArray) (t : Nat) (w : World) (h : Up w ub r v out most tl td) (hr : Rd w r s t) (hs : s.size ≤ 140737488351232) (ht : t ≤ 8 * s.size) (hno : s.size < (t + 7) / 8 + 2) :
    Calls Tryz.prog 96 #[.pointer (some ⟨ub, 0, none⟩)] w fun e w' => e = .returned (.tuple #[.int .i64 0, .int .i64 3]) ∧ w' = w := by
  obtain ⟨c0, _, _, _, _⟩ := up_cells h
  have RB := hid (rbytes_end r s t 2 w hr (by omega) ht (by omega) (by omega))
  clear h hr
  go_enter Tryz.func96, Tryz.ntmps96
  go_wp2_with fail
  refine RB.out.mono ?_
  rintro e w1 ⟨rfl, rfl⟩
  go_wp2
  go_ret2
  exact ⟨rfl, rfl⟩

theorem twoBytes_yes (ub r : Nat) (v : Value) (out : List Nat) (most : Int) (tl td : Option Addr) (s : ByteArray) (t : Nat) (w : World) (h : Up w ub r v out most tl td) (hr : Rd w r s t) (hs : s.size ≤ 140737488351232) (ht : t ≤ 8 * s.size) (hok : (t + 7) / 8 + 2 ≤ s.size) :
    Calls Tryz.prog 96 #[.pointer (some ⟨ub, 0, none⟩)] w fun e w' => e = .returned (.tuple #[.int .i64 (Bt.byteN s ((t + 7) / 8) + 256 * Bt.byteN s ((t + 7) / 8 + 1) : Nat), .int .i64 0]) ∧ RStep w w' r s (8 * ((t + 7) / 8 + 2)) := by
  obtain ⟨c0, _, _, _, _⟩ := up_cells h
  have RB := hid (rbytes_yes r s t 2 w hr (by omega) ht hok)
  clear h hr
  go_enter Tryz.func96, Tryz.ntmps96
  go_wp2_with fail
  refine RB.out.mono ?_
  rintro e w1 ⟨rfl, hst⟩
  have ST := hid hst
  clear hst
  generalize hx : s.extract ((t + 7) / 8) ((t + 7) / 8 + 2) = x
  have hxs : x.size = 2 := by rw [← hx, ByteArray.size_extract]; omega
  have q0 : (0 : Int) < (x.size : Int) := by omega
  have q1 : (1 : Int) < (x.size : Int) := by omega
  have q0' : 0 < x.size := by omega
  have q1' : 1 < x.size := by omega
  have HX := hid hx
  clear hx
  go_wp2_with fail
  go_quiet (fail)
  go_wp2
  go_ret2
  have hxx := HX.out.symm
  have e0 : x[0].toNat = Bt.byteN s ((t + 7) / 8) := by
    rw [← byte_get s _ (by omega)]
    subst hxx
    rw [ByteArray.getElem_extract]
    rfl
  have e1 : x[1].toNat = Bt.byteN s ((t + 7) / 8 + 1) := by
    rw [← byte_get s _ (by omega)]
    subst hxx
    rw [ByteArray.getElem_extract]
  refine ⟨ret_first ?_, ST.out.drewN _⟩
  rw [e0, e1]
  exact two_val _ _ (Bt.byteN_lt _ _) (Bt.byteN_lt _ _)
end Go.Proofs.YtffjkceedbblgaaGreatDoor

/- The bytes of a string appended to a list of bytes that the call owns: where the new list lies; condition: together at most two to the forty-seventh bytes. -/
namespace Go.Proofs.YtffjkceedbblgaaGreatDoor
open Go.RowKit Go.Lib

theorem run_append_string_at {P : Program} (w : World) (t u ty e : TypeId) (i : TypeInfo) (ht : P.underlying t = some (.slice e)) (hu : P.underlying u = some .string) (hi : P.info? e = some i) (hz : i.zero = some (.int .u8 0))
    (hsize : i.size = 1) (hby : i.bytes = 1) (v : Value) (n : Nat) (xs : List Value) (hown : w.ownsRow 0 e 1 v n xs) (s : ByteArray) (h63 : n + s.size ≤ maxLen) (hbytes : n + s.size ≤ 140737488355328) :
    ∃ v' w', (Builtin.append_ #[t, u] ty #[v, .string s]).run P w = .ok v' w' ∧ w'.ownsRow 0 e 1 v' (n + s.size) (xs ++ strCells s) ∧ w.grownBy w' v.ownBlock ∧
      (v'.ownBlock = v.ownBlock ∨ ∃ g, v'.ownBlock = some g ∧ w.heap.size ≤ g) := by
  rcases hown.2 with ⟨rfl, rfl⟩ | ⟨g, cap, cur, rfl, _, hg, hnc, hcm, hcs, htake⟩
  · have hx : xs = [] := List.eq_nil_of_length_eq_zero (by simpa using hown.1)
    subst hx
    obtain ⟨v', w', hr, h2, h3, h4⟩ := run_append_own_string (P := P) w w.heap.size t u ty e i ht hu hi hz hsize hby _ _ _ (World.ownsRow_nil w w.heap.size e 1) s h63 hbytes (Nat.le_refl _)
    refine ⟨v', w', hr, ⟨h2.1, ?_⟩, h3, ?_⟩
    · rcases h2.2 with h | ⟨g, cap, cur, hv, _, hh, r⟩
      · exact .inl h
      · exact .inr ⟨g, cap, cur, hv, Nat.zero_le _, hh, r⟩
    · rcases h2.2 with ⟨rfl, _⟩ | ⟨g, cap, cur, rfl, hg, _⟩
      · exact .inl rfl
      · exact .inr ⟨g, rfl, hg⟩
  · obtain ⟨v', w', hr, h2, h3, h4⟩ := run_append_own_string (P := P) w 0 t u ty e i ht hu hi hz hsize hby _ _ _ hown s h63 hbytes (Nat.zero_le _)
    refine ⟨v', w', hr, h2, h3, ?_⟩
    by_cases hroom : n + s.size ≤ cap
    · have hcs' : cur.size = cap := by simpa using hcs
      have hr2 := run_append_room_string (P := P) w t u ty e i ht hu hi hsize g n cap cur hg s hroom (by omega)
      rw [hr] at hr2
      simp only [Result.ok.injEq] at hr2
      rw [hr2.1]
      exact .inl rfl
    · have holds : ∀ j u, xs[j]? = some u → w.cell? ((⟨g, 0, none⟩ : Addr).add j) = some u := hown.cells (g := g) rfl
      have hr2 := run_append_grow_string (P := P) w t u ty e i (.int .u8 0) ht hu hi hz ⟨g, 0, none⟩ n cap xs (by rw [hsize]; exact hown.1) holds s (by omega) (by unfold maxLen at h63; omega) (by rw [hby]; exact growslice_fits (by omega) (by omega))
      rw [hr] at hr2
      simp only [Result.ok.injEq] at hr2
      rw [hr2.1]
      exact .inr ⟨_, rfl, Nat.le_refl _⟩

theorem wpList_append_string_at {P : Program} (w : World) {ops : Array Oper} {rest : List Oper} {o : Oper} {a : Act} {Q : Exit → Act → World → Prop} (hgd : o.guard = none) (sl x : Operand) (t u : TypeId)
    (ho : o.op = .call { callee := .builtin .append, args := #[sl, x], argTypes := #[t, u] })
    (e : TypeId) (i : TypeInfo) (ht : P.underlying t = some (.slice e)) (hu : P.underlying u = some .string) (hi : P.info? e = some i) (hz : i.zero = some (.int .u8 0)) (hsize : i.size = 1) (hby : i.bytes = 1)
    (v : Value) (n : Nat) (xs : List Value) (hs : a.eval sl = v) (hown : w.ownsRow 0 e 1 v n xs) (s : ByteArray) (hx : a.eval x = .string s) (h63 : n + s.size ≤ maxLen) (hbytes : n + s.size ≤ 140737488355328)
    (h : ∀ v' w', w'.ownsRow 0 e 1 v' (n + s.size) (xs ++ strCells s) → w.grownBy w' v.ownBlock → (v'.ownBlock = v.ownBlock ∨ ∃ g, v'.ownBlock = some g ∧ w.heap.size ≤ g) → wpList P ops Q rest (a.put o.dst v') w') : wpList P ops Q (o :: rest) a w := by
  refine wpList_plain hgd fun K hK => ?_
  obtain ⟨v', w', hr, h2, h3, h4⟩ := run_append_string_at (P := P) w t u o.type e i ht hu hi hz hsize hby v n xs hown s h63 hbytes
  unfold Oper.wp execOp
  simp only [ho, resolve, invoke, builtin, Sem.run_bind, Sem.run_pure, Result.andThen_ok, List.map_toArray, List.map_cons, List.map_nil, hs, hx, hr]
  exact hK _ _ (h v' w' h2 h3 h4)

end Go.Proofs.YtffjkceedbblgaaGreatDoor

/- A stored block is unpacked; conditions: it is whole, and there is room. -/
namespace Go.Proofs.YtffjkceedbblgaaGreatDoor
open Go.RowKit Go.Lib

theorem flip16 (n : Nat) (h : n < 65536) : n ^^^ 65535 = 65535 - n := by
  have h1 : (BitVec.ofNat 16 n ^^^ BitVec.allOnes 16) = ~~~ (BitVec.ofNat 16 n) := BitVec.xor_allOnes
  have h2 := congrArg BitVec.toNat h1
  rw [BitVec.toNat_xor, BitVec.toNat_not, BitVec.toNat_ofNat, BitVec.toNat_allOnes, Nat.mod_eq_of_lt (by omega)] at h2
  exact h2

theorem i64_flip (n : Nat) (h : n < 65536) : bits .xor .i64 (n : Int) 65535 = ((65535 - n : Nat) : Int) := by
  have e := flip16 n h
  have ha : n % 2 ^ 64 = n := Nat.mod_eq_of_lt (by omega)
  have hb : 65535 % 2 ^ 64 = 65535 := by decide
  show IntKind.i64.wrap ((BitVec.ofInt 64 (n : Int) ^^^ BitVec.ofInt 64 65535).toNat : Nat) = _
  rw [show (65535 : Int) = ((65535 : Nat) : Int) by rfl, BitVec.ofInt_natCast, BitVec.ofInt_natCast, BitVec.toNat_xor, BitVec.toNat_ofNat, BitVec.toNat_ofNat, ha, hb, e]
  exact wraps_i64 _ (by omega) (by omega)

theorem up_own {w : World} {ub r : Nat} {v : Value} {out : List Nat} {most : Int} {tl td : Option Addr} {s : ByteArray} {t : Nat} (h : Up w ub r v out most tl td) (hr : Rd w r s t) : ub ≠ r ∧ v.ownBlock ≠ some r ∧ v.ownBlock ≠ some ub := by
  unfold Rd at hr
  refine ⟨?_, ?_, ?_⟩
  · rintro rfl
    have := h.1
    rw [hr] at this
    simp at this
  · intro e
    rcases h.2.2 with ⟨rfl, _⟩ | ⟨g, cap, cur, rfl, _, hh, _⟩
    · simp [Value.ownBlock] at e
    · simp [Value.ownBlock] at e
      subst e
      rw [hr] at hh
      simp at hh
  · intro e
    rcases h.2.2 with ⟨rfl, _⟩ | ⟨g, cap, cur, rfl, _, hh, _⟩
    · simp [Value.ownBlock] at e
    · simp [Value.ownBlock] at e
      subst e
      rw [h.1] at hh
      simp at hh

theorem Up.reads {w w' : World} {ub r : Nat} {v : Value} {out : List Nat} {most : Int} {tl td : Option Addr} {s : ByteArray} {t : Nat} (h : Up w ub r v out most tl td) (hr : Rd w r s t) (ht : Touch (fun k => k = r) w w') : Up w' ub r v out most tl td := by
  obtain ⟨h1, h2, h3⟩ := up_own h hr
  refine ⟨(ht.block ub (lt_of_block h.1) h1).trans h.1, h.2.1, ?_⟩
  rcases h.2.2 with h0 | ⟨g, cap, cur, hv, hg, hh, rest⟩
  · exact .inl h0
  · exact .inr ⟨g, cap, cur, hv, hg, (ht.block g (lt_of_block hh) (fun e => h2 (by rw [hv, ← e]; rfl))).trans hh, rest⟩

theorem i64_flip' (n : Nat) (h : n < 65536) : bits .xor .i64 (n : Int) 65535 = 65535 - (n : Int) := by
  rw [i64_flip n h]
  omega

theorem strCells_eq (s : ByteArray) : strCells s = bytesV (Bt.strNats s) := by
  unfold strCells bytesV Bt.strNats
  rw [List.map_map]
  apply List.ext_getElem
  · simp
  · intro i h1 h2
    have hi : i < s.data.size := by simpa using h1
    simp only [List.getElem_map, List.getElem_range, Function.comp_def, Array.getElem_toList, Bt.byteN, Array.getD]
    rw [dif_pos hi]
    rfl

theorem nats_extract (s : ByteArray) (p n : Nat) (h : p + n ≤ s.size) : Bt.strNats (s.extract p (p + n)) = (List.range n).map fun i => Bt.byteN s (p + i) := by
  unfold Bt.strNats
  rw [ByteArray.size_extract, show min (p + n) s.size - p = n by omega]
  apply List.map_congr_left
  intro i hi
  have hi' : i < n := by simpa using hi
  rw [← byte_get (s.extract p (p + n)) i (by rw [ByteArray.size_extract]; omega), ← byte_get s (p + i) (by omega), ByteArray.getElem_extract]

theorem up_new_out {w w1 : World} {ub r : Nat} {v v' : Value} {out out' : List Nat} {most : Int} {tl td : Option Addr} {s : ByteArray} {t : Nat} (h : Up w ub r v out most tl td) (hr : Rd w r s t) (hg : w.grownBy w1 v.ownBlock) (hown : w1.ownsRow 0 5 1 v' out'.length (bytesV out'))
    (hwhere : v'.ownBlock = v.ownBlock ∨ ∃ g, v'.ownBlock = some g ∧ w.heap.size ≤ g) :
    Up (w1.setCell ⟨ub, 1, none⟩ v') ub r v' out' most tl td ∧ Rd (w1.setCell ⟨ub, 1, none⟩ v') r s t ∧ Touch (fun k => k = ub ∨ v.ownBlock = some k) w (w1.setCell ⟨ub, 1, none⟩ v') := by
  obtain ⟨h1, h2, h3⟩ := up_own h hr
  have hub := lt_of_block h.1
  have hrlt := hr.lt
  have hb1 : w1.heap[ub]? = some (.cells #[.pointer (some ⟨r, 0, none⟩), v, .int .i64 most, .pointer tl, .pointer td] 148 (0, 0)) := by rw [hg.block ub hub (fun e => h3 e.symm)]; exact h.1
  have hvu : v'.ownBlock ≠ some ub := by
    rcases hwhere with e | ⟨g, e, hge⟩
    · rw [e]; exact h3
    · rw [e]; intro e2; simp at e2; omega
  have hlt1 := lt_of_block hb1
  have hb2 : (w1.setCell ⟨ub, 1, none⟩ v').heap[ub]? = some (.cells #[.pointer (some ⟨r, 0, none⟩), v', .int .i64 most, .pointer tl, .pointer td] 148 (0, 0)) := by
    have h' : w1.heap[ub] = .cells #[.pointer (some ⟨r, 0, none⟩), v, .int .i64 most, .pointer tl, .pointer td] 148 (0, 0) := by simpa [Array.getElem?_eq_getElem hlt1] using hb1
    show (w1.heap.modify ub _)[ub]? = _
    rw [Array.getElem?_eq_getElem (by simpa using hlt1), Array.getElem_modify_self, h']
    rfl
  refine ⟨⟨hb2, ownsRow_setCell_other hown hvu _⟩, ?_, ?_⟩
  · unfold Rd at hr ⊢
    rw [Below.heap_setCell _ _ _ _ (fun e => h1 e.symm), hg.block r hrlt (fun e => h2 e.symm)]
    exact hr
  · exact ((Touch.refl _ w).grown hg (fun k e _ => .inr e)).setCell (fun _ => .inl rfl) _

set_option maxRecDepth 100000 in
set_option maxHeartbeats 4000000 in
theorem stored_yes (ub r : Nat) (v : Value) (out : List Nat) (most : Int) (tl td : Option Addr) (s : ByteArray) (t p n : Nat) (w : World) (h : Up w ub r v out most tl td) (hr : Rd w r s t) (hs : s.size ≤ 140737488351232) (ht : t ≤ 8 * s.size)
    (hp : (t + 7) / 8 = p) (h4 : p + 4 + n ≤ s.size) (hn : Bt.byteN s p + 256 * Bt.byteN s (p + 1) = n) (hn' : Bt.byteN s (p + 2) + 256 * Bt.byteN s (p + 3) = 65535 - n) (hm0 : 0 ≤ most) (hm1 : most ≤ 9223372036854775807) (hroom : (n : Int) ≤ most - out.length) (hl : out.length ≤ 70368744177664) :
    Calls Tryz.prog 90 #[.pointer (some ⟨ub, 0, none⟩)] w fun e w' => e = .returned (.int .i64 0) ∧ ∃ v', Up w' ub r v' (out ++ (List.range n).map fun i => Bt.byteN s (p + 4 + i)) most tl td ∧ Rd w' r s (8 * (p + 4 + n)) ∧
      Touch (fun k => k = r ∨ k = ub ∨ v.ownBlock = some k) w w' ∧ (v'.ownBlock = v.ownBlock ∨ ∃ g, v'.ownBlock = some g ∧ w.heap.size ≤ g) := by
  have hn16 : n < 65536 := by have := Bt.byteN_lt s p; have := Bt.byteN_lt s (p + 1); omega
  have T1 := hid (twoBytes_yes ub r v out most tl td s t w h hr hs ht (by omega))
  rw [hp, hn] at T1
  have HU := hid h
  have HR := hid hr
  go_enter Tryz.func90, Tryz.ntmps90
  clear h hr
  go_wp2_with fail
  refine T1.out.mono ?_
  rintro e w1 ⟨rfl, hst⟩
  have R1 := hid hst
  have U1 := hid (HU.out.reads HR.out hst.touch)
  clear hst T1
  have T2 := hid (twoBytes_yes ub r v out most tl td s (8 * (p + 2)) w1 U1.out R1.out.rd hs (by omega) (by omega))
  rw [show (8 * (p + 2) + 7) / 8 = p + 2 by omega, show p + 2 + 1 = p + 3 by omega, hn', show 8 * (p + 2 + 2) = 8 * (p + 4) by omega] at T2
  have hflip := i64_flip' n hn16
  go_wp2_with fail
  refine T2.out.mono ?_
  rintro e w2 ⟨rfl, hst⟩
  have U2 := hid (U1.out.reads R1.out.rd hst.touch)
  have R2 := hid (R1.out.trans hst)
  clear hst T2 U1 R1
  rw [show ((65535 - n : Nat) : Int) = 65535 - (n : Int) by omega]
  have HRM := hid (hasRoom_any ub r v out most tl td n w2 U2.out hm0 hm1 (by omega))
  have hdec : decide ((n : Int) ≤ most - (out.length : Int)) = true := decide_eq_true hroom
  rw [hdec] at HRM
  clear hdec
  go_wp2_with fail
  refine HRM.out.mono ?_
  rintro e w3 ⟨rfl, hst⟩
  have U3 := hid (U2.out.reads R2.out.rd (hst.touch _))
  have R3 := hid (R2.out.trans (hst.rstep R2.out.rd))
  clear hst HRM U2 R2
  have RB := hid (rbytes_yes r s (8 * (p + 4)) n w3 R3.out.rd (by omega) (by omega) (by omega))
  rw [show (8 * (p + 4) + 7) / 8 = p + 4 by omega] at RB
  obtain ⟨x, hx⟩ : ∃ x, x = s.extract (p + 4) (p + 4 + n) := ⟨_, rfl⟩
  have hxs : x.size = n := by rw [hx, ByteArray.size_extract]; omega
  have hxn : Bt.strNats x = (List.range n).map fun i => Bt.byteN s (p + 4 + i) := by rw [hx]; exact nats_extract s (p + 4) n h4
  rw [← hx] at RB
  have HXN := hid hxn
  clear hx hxn
  have c3 := (up_cells U3.out).1
  go_wp2_with fail
  refine RB.out.mono ?_
  rintro e w4 ⟨rfl, hst⟩
  have U4 := hid (U3.out.reads R3.out.rd hst.touch)
  have R4 := hid (R3.out.trans hst)
  clear hst RB c3 U3 R3
  obtain ⟨av, cv, hav⟩ := up_shape U4.out
  have c4 := (up_cells U4.out).2.1
  have f4 : w4.frozen? ⟨ub, 1, none⟩ = false := by simp [World.frozen?, U4.out.1]
  obtain ⟨i0, hin, hz0, hz1, hz2⟩ := info_parts Tryz.info5
  subst hav
  go_wp2_with (first
    | (at_builtin; refine wpList_append_string_at _ rfl _ _ 36 9 rfl 5 i0 Tryz.underlying36 Tryz.underlying9 hin hz0 hz1 hz2 _ _ _ rfl U4.out.2 x rfl (by unfold maxLen; omega) (by omega) ?_))
  intro v' w5 hown hgrow hwh
  rw [strCells_eq, HXN.out] at hown
  have hown' : w5.ownsRow 0 5 1 v' (out ++ (List.range n).map fun i => Bt.byteN s (p + 4 + i)).length (bytesV (out ++ (List.range n).map fun i => Bt.byteN s (p + 4 + i))) := by
    rw [List.length_append, List.length_map, List.length_range]
    unfold bytesV at hown ⊢
    rw [List.map_append]
    exact hown
  have hfin := up_new_out U4.out R4.out.rd hgrow hown' hwh
  have hub := lt_of_block U4.out.1
  have hb5 : w5.heap[ub]? = some (.cells #[.pointer (some ⟨r, 0, none⟩), .slice av out.length cv, .int .i64 most, .pointer tl, .pointer td] 148 (0, 0)) := by
    rw [hgrow.block ub hub (fun e => (up_own U4.out R4.out.rd).2.2 e.symm)]
    exact U4.out.1
  have k5 : w5.cell? ⟨ub, 1, none⟩ = some (.slice av out.length cv) := by simp [World.cell?, hb5]
  have f5 : w5.frozen? ⟨ub, 1, none⟩ = false := by simp [World.frozen?, hb5]
  obtain ⟨a5, L5, c5, hv5⟩ : ∃ a5 L5 c5, v' = .slice a5 L5 c5 := by
    obtain ⟨a5, c5, e⟩ := up_shape hfin.1
    exact ⟨a5, _, c5, e⟩
  subst hv5
  have HFIN := hid hfin
  have HWH := hid hwh
  have TR := hid R4.out.touch
  clear hown hown' hgrow hwh hfin hb5
  go_wp2
  go_ret
  refine ⟨rfl, _, HFIN.out.1, HFIN.out.2.1, (TR.out.mono (S' := fun k => k = r ∨ k = ub ∨ (Value.slice av out.length cv).ownBlock = some k) (fun _ _ e => .inl e)).trans HFIN.out.2.2 (fun _ _ e => .inr e), ?_⟩
  rcases HWH.out with e | ⟨g, e, hge⟩
  · exact .inl e
  · exact .inr ⟨g, e, Nat.le_trans TR.out.size hge⟩
end Go.Proofs.YtffjkceedbblgaaGreatDoor
