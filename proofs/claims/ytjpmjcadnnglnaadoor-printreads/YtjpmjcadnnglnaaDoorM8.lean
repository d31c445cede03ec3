/- Texts of this proof, one behind the other: what each says stands ahead of it. -/
import Derived.Test.YtjpmjcadnnglnaaDoorM7
import Derived.Test.YtjpmjcadnnglnaaDoorM5
import Derived.Deep.RegionLaw
import Derived.Test.YtjpmjcadnnglnaaDoorM4
/- AppendRune of a scalar from 128 on; conditions: the bytes are not too many. -/
namespace Go.Proofs.YtjpmjcadnnglnaaDoor
open Go.RowKit
open Go.Lib

theorem u8_is (n : Nat) (h : n < 256) : n.toUInt8.toNat = n := Nat.mod_eq_of_lt h
set_option maxRecDepth 100000 in
set_option maxHeartbeats 4000000 in
theorem wide_two (x : Nat) (l : Bs) (v : Value) (w : World) (ho : OB w v l) (hl : l.length ≤ 1099511627776) (h1 : 128 ≤ x) (h2 : x < 2048) :
    Calls Tryd.prog 73 #[v, .int .i32 (x : Nat)] w fun e w' => ∃ v', e = .returned v' ∧ Grew w w' v v' (l ++ [(192 + x / 64).toUInt8, (128 + x % 64).toUInt8]) := by
  obtain ⟨i0, hi5, hz0, hz1, hz2⟩ := info_parts info5b
  obtain ⟨ad, cp, hv⟩ := own_shape ho
  subst hv
  obtain ⟨N, hN⟩ : ∃ N, l.length = N := ⟨_, rfl⟩
  have OW := hid (show w.ownsRow 0 5 1 (.slice ad N cp) N (bv l) from by rw [← hN]; exact ho)
  rw [hN]
  rw [hN] at hl
  have HN := hid hN
  clear hN ho
  have HB := hid (show bv [(192 + x / 64).toUInt8, (128 + x % 64).toUInt8] = [.int .u8 (192 + (x : Int) / 64), .int .u8 (128 + (x : Int) % 64)] from by
    simp [bv]
    omega)
  have c1 : (x : Int) ≤ 2047 := by omega
  go_enter Tryd.func73, Tryd.ntmps73
  go_wp2_with (at_builtin; (refine wpList_append_own_at _ rfl _ _ 97 rfl 0 5 i0 (.int .u8 0) 1 1 Tryd.underlying97 hi5 hz0 hz1 hz2 rfl (by decide) _ _ _ rfl (OW.out.alloc _) ⟨w.heap.size, 0, none⟩ 2 2 [.int .u8 (192 + (x : Int) / 64), .int .u8 (128 + (x : Int) % 64)] rfl rfl (row_new w [.int .u8 (192 + (x : Int) / 64), .int .u8 (128 + (x : Int) % 64)] 5) (by intro u hu; simp at hu; rcases hu with rfl | rfl <;> rfl) (by unfold maxLen; omega) (by omega) (by omega) ?_))
  intro v' w2 hown hgrow _ hat
  go_wp2
  go_ret
  exact ⟨v', rfl, grew_of (m := [(192 + x / 64).toUInt8, (128 + x % 64).toUInt8]) (by rw [HN.out, HB.out]; exact hown) hgrow hat⟩
set_option maxRecDepth 100000 in
set_option maxHeartbeats 4000000 in
theorem wide_three (x : Nat) (l : Bs) (v : Value) (w : World) (ho : OB w v l) (hl : l.length ≤ 1099511627776) (h1 : 2048 ≤ x) (h2 : x < 55296) :
    Calls Tryd.prog 73 #[v, .int .i32 (x : Nat)] w fun e w' => ∃ v', e = .returned v' ∧ Grew w w' v v' (l ++ [(224 + x / 4096).toUInt8, (128 + x / 64 % 64).toUInt8, (128 + x % 64).toUInt8]) := by
  obtain ⟨i0, hi5, hz0, hz1, hz2⟩ := info_parts info5b
  obtain ⟨ad, cp, hv⟩ := own_shape ho
  subst hv
  obtain ⟨N, hN⟩ : ∃ N, l.length = N := ⟨_, rfl⟩
  have OW := hid (show w.ownsRow 0 5 1 (.slice ad N cp) N (bv l) from by rw [← hN]; exact ho)
  rw [hN]
  rw [hN] at hl
  have HN := hid hN
  clear hN ho
  have HB := hid (show bv [(224 + x / 4096).toUInt8, (128 + x / 64 % 64).toUInt8, (128 + x % 64).toUInt8] = [.int .u8 (224 + (x : Int) / 4096), .int .u8 (128 + (x : Int) / 64 % 64), .int .u8 (128 + (x : Int) % 64)] from by
    simp [bv]
    omega)
  have c1 : ¬ (x : Int) ≤ 2047 := by omega
  have c2 : (x : Int) < 55296 := by omega
  go_enter Tryd.func73, Tryd.ntmps73
  go_wp2_with (at_builtin; (refine wpList_append_own_at _ rfl _ _ 97 rfl 0 5 i0 (.int .u8 0) 1 1 Tryd.underlying97 hi5 hz0 hz1 hz2 rfl (by decide) _ _ _ rfl (OW.out.alloc _) ⟨w.heap.size, 0, none⟩ 3 3 [.int .u8 (224 + (x : Int) / 4096), .int .u8 (128 + (x : Int) / 64 % 64), .int .u8 (128 + (x : Int) % 64)] rfl rfl (row_new w [.int .u8 (224 + (x : Int) / 4096), .int .u8 (128 + (x : Int) / 64 % 64), .int .u8 (128 + (x : Int) % 64)] 5) (by intro u hu; simp at hu; rcases hu with rfl | rfl | rfl <;> rfl) (by unfold maxLen; omega) (by omega) (by omega) ?_))
  intro v' w2 hown hgrow _ hat
  go_wp2
  go_ret
  exact ⟨v', rfl, grew_of (m := [(224 + x / 4096).toUInt8, (128 + x / 64 % 64).toUInt8, (128 + x % 64).toUInt8]) (by rw [HN.out, HB.out]; exact hown) hgrow hat⟩
set_option maxRecDepth 100000 in
set_option maxHeartbeats 4000000 in
theorem wide_three2 (x : Nat) (l : Bs) (v : Value) (w : World) (ho : OB w v l) (hl : l.length ≤ 1099511627776) (h1 : 57343 < x) (h2 : x < 65536) :
    Calls Tryd.prog 73 #[v, .int .i32 (x : Nat)] w fun e w' => ∃ v', e = .returned v' ∧ Grew w w' v v' (l ++ [(224 + x / 4096).toUInt8, (128 + x / 64 % 64).toUInt8, (128 + x % 64).toUInt8]) := by
  obtain ⟨i0, hi5, hz0, hz1, hz2⟩ := info_parts info5b
  obtain ⟨ad, cp, hv⟩ := own_shape ho
  subst hv
  obtain ⟨N, hN⟩ : ∃ N, l.length = N := ⟨_, rfl⟩
  have OW := hid (show w.ownsRow 0 5 1 (.slice ad N cp) N (bv l) from by rw [← hN]; exact ho)
  rw [hN]
  rw [hN] at hl
  have HN := hid hN
  clear hN ho
  have HB := hid (show bv [(224 + x / 4096).toUInt8, (128 + x / 64 % 64).toUInt8, (128 + x % 64).toUInt8] = [.int .u8 (224 + (x : Int) / 4096), .int .u8 (128 + (x : Int) / 64 % 64), .int .u8 (128 + (x : Int) % 64)] from by
    simp [bv]
    omega)
  have c1 : ¬ (x : Int) ≤ 2047 := by omega
  have c2 : ¬ (x : Int) < 55296 := by omega
  have c3 : (57343 : Int) < (x : Int) := by omega
  have c4 : (x : Int) ≤ 65535 := by omega
  go_enter Tryd.func73, Tryd.ntmps73
  go_wp2_with (at_builtin; (refine wpList_append_own_at _ rfl _ _ 97 rfl 0 5 i0 (.int .u8 0) 1 1 Tryd.underlying97 hi5 hz0 hz1 hz2 rfl (by decide) _ _ _ rfl (OW.out.alloc _) ⟨w.heap.size, 0, none⟩ 3 3 [.int .u8 (224 + (x : Int) / 4096), .int .u8 (128 + (x : Int) / 64 % 64), .int .u8 (128 + (x : Int) % 64)] rfl rfl (row_new w [.int .u8 (224 + (x : Int) / 4096), .int .u8 (128 + (x : Int) / 64 % 64), .int .u8 (128 + (x : Int) % 64)] 5) (by intro u hu; simp at hu; rcases hu with rfl | rfl | rfl <;> rfl) (by unfold maxLen; omega) (by omega) (by omega) ?_))
  intro v' w2 hown hgrow _ hat
  go_wp2
  go_ret
  exact ⟨v', rfl, grew_of (m := [(224 + x / 4096).toUInt8, (128 + x / 64 % 64).toUInt8, (128 + x % 64).toUInt8]) (by rw [HN.out, HB.out]; exact hown) hgrow hat⟩
set_option maxRecDepth 100000 in
set_option maxHeartbeats 4000000 in
theorem wide_four (x : Nat) (l : Bs) (v : Value) (w : World) (ho : OB w v l) (hl : l.length ≤ 1099511627776) (h1 : 65536 ≤ x) (h2 : x ≤ 1114111) :
    Calls Tryd.prog 73 #[v, .int .i32 (x : Nat)] w fun e w' => ∃ v', e = .returned v' ∧ Grew w w' v v' (l ++ [(240 + x / 262144).toUInt8, (128 + x / 4096 % 64).toUInt8, (128 + x / 64 % 64).toUInt8, (128 + x % 64).toUInt8]) := by
  obtain ⟨i0, hi5, hz0, hz1, hz2⟩ := info_parts info5b
  obtain ⟨ad, cp, hv⟩ := own_shape ho
  subst hv
  obtain ⟨N, hN⟩ : ∃ N, l.length = N := ⟨_, rfl⟩
  have OW := hid (show w.ownsRow 0 5 1 (.slice ad N cp) N (bv l) from by rw [← hN]; exact ho)
  rw [hN]
  rw [hN] at hl
  have HN := hid hN
  clear hN ho
  have HB := hid (show bv [(240 + x / 262144).toUInt8, (128 + x / 4096 % 64).toUInt8, (128 + x / 64 % 64).toUInt8, (128 + x % 64).toUInt8] = [.int .u8 (240 + (x : Int) / 262144), .int .u8 (128 + (x : Int) / 4096 % 64), .int .u8 (128 + (x : Int) / 64 % 64), .int .u8 (128 + (x : Int) % 64)] from by
    simp [bv]
    omega)
  have c1 : ¬ (x : Int) ≤ 2047 := by omega
  have c2 : ¬ (x : Int) < 55296 := by omega
  have c3 : (57343 : Int) < (x : Int) := by omega
  have c4 : ¬ (x : Int) ≤ 65535 := by omega
  have c5 : (65535 : Int) < (x : Int) := by omega
  have c6 : (x : Int) ≤ 1114111 := by omega
  go_enter Tryd.func73, Tryd.ntmps73
  go_wp2_with (at_builtin; (refine wpList_append_own_at _ rfl _ _ 97 rfl 0 5 i0 (.int .u8 0) 1 1 Tryd.underlying97 hi5 hz0 hz1 hz2 rfl (by decide) _ _ _ rfl (OW.out.alloc _) ⟨w.heap.size, 0, none⟩ 4 4 [.int .u8 (240 + (x : Int) / 262144), .int .u8 (128 + (x : Int) / 4096 % 64), .int .u8 (128 + (x : Int) / 64 % 64), .int .u8 (128 + (x : Int) % 64)] rfl rfl (row_new w [.int .u8 (240 + (x : Int) / 262144), .int .u8 (128 + (x : Int) / 4096 % 64), .int .u8 (128 + (x : Int) / 64 % 64), .int .u8 (128 + (x : Int) % 64)] 5) (by intro u hu; simp at hu; rcases hu with rfl | rfl | rfl | rfl <;> rfl) (by unfold maxLen; omega) (by omega) (by omega) ?_))
  intro v' w2 hown hgrow _ hat
  go_wp2
  go_ret
  exact ⟨v', rfl, grew_of (m := [(240 + x / 262144).toUInt8, (128 + x / 4096 % 64).toUInt8, (128 + x / 64 % 64).toUInt8, (128 + x % 64).toUInt8]) (by rw [HN.out, HB.out]; exact hown) hgrow hat⟩
set_option maxRecDepth 100000 in
theorem append_wide (x : Nat) (l : Bs) (v : Value) (w : World) (ho : OB w v l) (hl : l.length ≤ 1099511627776) (h1 : 128 ≤ x) (h2 : x ≤ 1114111) (h3 : x < 55296 ∨ 57343 < x) :
    Calls Tryd.prog 70 #[v, .int .i32 (x : Nat)] w fun e w' => ∃ v', e = .returned v' ∧ Grew w w' v v' (l ++ ub x) := by
  have K : Calls Tryd.prog 73 #[v, .int .i32 (x : Nat)] w fun e w' => ∃ v', e = .returned v' ∧ Grew w w' v v' (l ++ ub x) := by
    unfold ub
    rw [if_neg (by omega)]
    by_cases g1 : x < 2048
    · rw [if_pos g1]
      exact wide_two x l v w ho hl h1 g1
    · rw [if_neg g1]
      by_cases g2 : x < 65536
      · rw [if_pos g2]
        rcases h3 with h3 | h3
        · exact wide_three x l v w ho hl (by omega) h3
        · exact wide_three2 x l v w ho hl h3 g2
      · rw [if_neg g2]
        exact wide_four x l v w ho hl (by omega) h2
  obtain ⟨ad, cp, hv⟩ := own_shape ho
  subst hv
  have KH := hid K
  have c1 : ¬ (x : Int) ≤ 127 := by omega
  clear K ho
  go_enter Tryd.func70, Tryd.ntmps70
  go_wp2_with fail
  refine KH.out.mono ?_
  rintro e w1 ⟨v', rfl, g⟩
  have G := hid g
  clear g KH
  go_wp2
  go_ret
  exact ⟨v', rfl, G.out⟩
/-- A scalar. -/
def isSc (x : Nat) : Prop := x < 55296 ∨ (57343 < x ∧ x ≤ 1114111)
end Go.Proofs.YtjpmjcadnnglnaaDoor

/- What a putter writes into: a block that holds a list of bytes of the call's own; put. Conditions: what is put are bytes. -/
namespace Go.Proofs.YtjpmjcadnnglnaaDoor
open Go.RowKit

theorem cstep_append_own {P : Program} (w : World) {ops : Array Oper} {o : Oper} {a : Act} {K : Act → World → Prop} {Q : Exit → Act → World → Prop} {E : Prop} (hgd : o.guard = none) (s x : Operand) (t : TypeId)
    (ho : o.op = .call { callee := .builtin .append, args := #[s, x], argTypes := #[t, t] })
    (base : Nat) (e : TypeId) (i : TypeInfo) (z : Value) (size bytes : Nat) (ht : P.underlying t = some (.slice e)) (hi : P.info? e = some i) (hz : i.zero = some z)
    (hsize : i.size = size) (hby : i.bytes = bytes) (hzs : z.cells.size = size) (hsz : 0 < size)
    (v : Value) (n : Nat) (xs : List Value) (hs : a.eval s = v) (hown : w.ownsRow base e size v n xs)
    (ad : Addr) (m c : Nat) (news : List Value) (hx : a.eval x = .slice (some ad) m c) (hl : news.length = m * size) (hnews : ∀ j u, news[j]? = some u → w.cell? (ad.add j) = some u) (h1 : ∀ u ∈ news, u.oneCell' = true)
    (h63 : n + m ≤ maxLen) (hbytes : (n + m) * bytes ≤ 140737488355328) (hbase : base ≤ w.heap.size) (H : Nat) (hH : w.heap.size = H)
    (h : ∀ v' w', w'.ownsRow base e size v' (n + m) (xs ++ news) → w.grownBy w' v.ownBlock → (v'.ownBlock = v.ownBlock ∨ v'.ownBlock = some H) → K (a.put o.dst v') w') :
    if Region.wanted o (yielded ops a.tmps) = true then Oper.wp P o a w K Q else E := by
  have hw : Region.wanted o (yielded ops a.tmps) = true := by simp [Region.wanted, hgd]
  rw [if_pos hw]
  obtain ⟨v', w', hr, h2, h3, h4, h5⟩ := run_append_own_at (P := P) w base t o.type e i z size bytes ht hi hz hsize hby hzs hsz v n xs hown ad m c news hl hnews h1 h63 hbytes hbase
  unfold Oper.wp execOp
  simp only [ho, resolve, invoke, builtin, Sem.run_bind, Sem.run_pure, Result.andThen_ok, List.map_toArray, List.map_cons, List.map_nil, hs, hx, hr]
  exact h v' w' h2 h3 (by rw [← hH]; exact h5)


def encB (o : List Int) : List Value := o.map (.int .u8)
/-- A block that holds a list of bytes that may be written; P: the older blocks that may be changed. -/
structure Ob (P : Nat → Prop) (W0 wr : World) (q : Nat) (v : Value) (o : List Int) : Prop where
  own : wr.ownsRow 0 5 1 v o.length (encB o)
  new : ∀ g, v.ownBlock = some g → P g ∨ W0.heap.size ≤ g
  blk : wr.heap[q]? = some (.cells #[v] 97 (0, 0))
  touch : Touch P W0 wr
  at_ : P q
theorem own_block5 {w : World} {v : Value} {n : Nat} {xs : List Value} (h : w.ownsRow 0 5 1 v n xs) {g : Nat} (hg : v.ownBlock = some g) : ∃ cur, w.heap[g]? = some (.cells cur 5 (0, 0)) := by
  rcases h.2 with ⟨rfl, _⟩ | ⟨b, cap, cur, rfl, _, hh, _⟩
  · simp [Value.ownBlock] at hg
  · simp [Value.ownBlock] at hg
    subst hg
    exact ⟨cur, hh⟩
theorem own_kept5 {w w' : World} {v : Value} {n : Nat} {xs : List Value} (h : w.ownsRow 0 5 1 v n xs) (hb : ∀ g, v.ownBlock = some g → w'.heap[g]? = w.heap[g]?) : w'.ownsRow 0 5 1 v n xs := by
  refine ⟨h.1, ?_⟩
  rcases h.2 with h0 | ⟨g, cap, cur, rfl, hg, hh, rest⟩
  · exact .inl h0
  · exact .inr ⟨g, cap, cur, rfl, hg, (hb g rfl).trans hh, rest⟩
theorem Ob.ne {P : Nat → Prop} {W0 wr : World} {q : Nat} {v : Value} {o : List Int} (h : Ob P W0 wr q v o) : v.ownBlock ≠ some q := fun e => by
  obtain ⟨cur, hc⟩ := own_block5 h.own e
  rw [h.blk] at hc
  simp at hc
theorem Ob.still {P : Nat → Prop} {W0 wr w' : World} {q : Nat} {v : Value} {o : List Int} (h : Ob P W0 wr q v o) (t : Touch (fun _ => False) wr w') : Ob P W0 w' q v o :=
  ⟨own_kept5 h.own (fun g hg => t.block g (lt_of_block (own_block5 h.own hg).choose_spec) id), h.new, (t.block q (lt_of_block h.blk) id).trans h.blk, h.touch.trans t (fun _ _ e => e.elim), h.at_⟩
/-- The same, seen from its own world. -/
theorem Ob.now {P : Nat → Prop} {W0 wr : World} {q : Nat} {v : Value} {o : List Int} (h : Ob P W0 wr q v o) : Ob (fun k => k = q ∨ v.ownBlock = some k) wr wr q v o :=
  ⟨h.own, fun _ hg => .inl (.inr hg), h.blk, Touch.refl _ _, .inl rfl⟩
theorem Ob.back {P : Nat → Prop} {W0 wr w' : World} {q : Nat} {v v' : Value} {o o' : List Int} (h : Ob P W0 wr q v o) (h' : Ob (fun k => k = q ∨ v.ownBlock = some k) wr w' q v' o') : Ob P W0 w' q v' o' :=
  ⟨h'.own, fun g hg => by
    rcases h'.new g hg with (e | e) | e
    · exact .inl (by rw [e]; exact h.at_)
    · exact h.new g e
    · have := h.touch.size
      exact .inr (by omega), h'.blk, h.touch.trans h'.touch (fun k hk e => by
    rcases e with e | e
    · rw [e]; exact h.at_
    · rcases h.new k e with p | p
      · exact p
      · omega), h.at_⟩
theorem Ob.app {P : Nat → Prop} {W0 wr w1 : World} {q : Nat} {v v' : Value} {o : List Int} {x : Int} {ob : Obj} (h : Ob P W0 wr q v o) (hown : w1.ownsRow 0 5 1 v' (o.length + 1) (encB o ++ [.int .u8 x])) (hg : (wr.alloc ob).grownBy w1 v.ownBlock) (hat : v'.ownBlock = v.ownBlock ∨ v'.ownBlock = some (wr.heap.size + 1)) : Ob P W0 (w1.setCell ⟨q, 0, none⟩ v') q v' (o ++ [x]) := by
  have hq := lt_of_block h.blk
  have key : w1.heap[q]? = wr.heap[q]? := by
    rw [hg.block q (by simp; omega) (fun e => h.ne e.symm), Below.heap_alloc _ _ _ hq]
  have ne' : v'.ownBlock ≠ some q := by
    rcases hat with e | e
    · rw [e]; exact h.ne
    · rw [e]
      intro z
      simp at z
      omega
  refine ⟨own_kept5 ?_ (fun g e => Below.heap_setCell _ _ _ _ (fun z => ne' (by rw [e, z]))), fun g e => ?_, block_set (key.trans h.blk) 0 v', ((h.touch.alloc ob).grown hg (fun k e hk => ?_)).setCell (fun _ => h.at_) v', h.at_⟩
  · rw [List.length_append, encB, List.map_append]
    exact hown
  · rcases hat with z | z
    · exact h.new g (by rw [← z]; exact e)
    · rw [z] at e
      simp at e
      have := h.touch.size
      exact .inr (by omega)
  · rcases h.new k e with p | p
    · exact p
    · omega
theorem Ob.mid {P : Nat → Prop} {W0 wr w1 : World} {q : Nat} {v : Value} {o : List Int} {ob : Obj} (h : Ob P W0 wr q v o) (hg : (wr.alloc ob).grownBy w1 v.ownBlock) : w1.cell? ⟨q, 0, none⟩ = some v ∧ ∀ i, w1.frozen? ⟨q, i, none⟩ = false := by
  have hq := lt_of_block h.blk
  have key : w1.heap[q]? = wr.heap[q]? := by
    rw [hg.block q (by simp; omega) (fun e => h.ne e.symm), Below.heap_alloc _ _ _ hq]
  have := key.trans h.blk
  simp [World.cell?, World.frozen?, this]
theorem Ob.other {P : Nat → Prop} {W0 wr w1 : World} {q k : Nat} {v : Value} {o : List Int} {ob : Obj} (h : Ob P W0 wr q v o) (hk : k < W0.heap.size) (hP : ¬ P k) (hg : (wr.alloc ob).grownBy w1 v.ownBlock) : w1.cell? ⟨k, 0, none⟩ = wr.cell? ⟨k, 0, none⟩ := by
  have hs := h.touch.size
  have key : w1.heap[k]? = wr.heap[k]? := by
    rw [hg.block k (by simp; omega) (fun e => by
      rcases h.new k e.symm with p | p
      · exact hP p
      · omega), Below.heap_alloc _ _ _ (by omega)]
  simp only [World.cell?, key]
theorem info5i : (Tryd.prog.info? 5).map (fun i => (i.zero, i.size, i.bytes)) = some (some (.int .u8 0), 1, 1) := by kernel_rfl
theorem Ob.cell {P : Nat → Prop} {W0 wr : World} {q : Nat} {v : Value} {o : List Int} (h : Ob P W0 wr q v o) : wr.cell? ⟨q, 0, none⟩ = some v ∧ ∀ i, wr.frozen? ⟨q, i, none⟩ = false := by
  simp [World.cell?, World.frozen?, h.blk]
theorem take_more (l : List Int) (i : Nat) (hi : i < l.length) (o : List Int) : o ++ l.take (i + 1) = o ++ l.take i ++ [l[i]] := by
  rw [List.append_assoc, List.take_append_getElem hi]

end Go.Proofs.YtjpmjcadnnglnaaDoor

/- What a putter hands back for Latin1, and what that does; conditions: those told. -/
namespace Go.Proofs.YtjpmjcadnnglnaaDoor
open Go.RowKit
attribute [local go_sem] run_store_func

/-- What a putter does with each number that it may be given, whatever else has been written. -/
def PutOk (lo : Nat) (w : World) (fid b q : Nat) (ok : Int → Prop) (en : Int → List Int) (B : Nat) : Prop := ∀ wq v o r, (∀ k, lo ≤ k → k < w.heap.size → wq.heap[k]? = w.heap[k]?) → w.heap.size ≤ wq.heap.size → (∀ g, v.ownBlock = some g → g < lo ∨ w.heap.size ≤ g) → q < lo → Ob (fun k => k = q ∨ v.ownBlock = some k) wq wq q v o → ok r → o.length ≤ B →
  Calls Tryd.prog fid (#[.int .i64 r] ++ #[.pointer (some ⟨b, 0, none⟩)]) wq fun e w' => e = .returned (.tuple #[]) ∧ ∃ v', Ob (fun k => k = q ∨ v.ownBlock = some k) wq w' q v' (o ++ en r)

theorem cell_heap {w w' : World} {k : Nat} (h : w'.heap[k]? = w.heap[k]?) : w'.cell? ⟨k, 0, none⟩ = w.cell? ⟨k, 0, none⟩ := by
  simp only [World.cell?, h]
theorem ig_new (w : World) (l : List Int) : Ig (w.alloc (.cells (l.map (.int .i64)).toArray 3)) (some ⟨w.heap.size, 0, none⟩) l := by
  refine ⟨_, rfl, by simp, fun i hi => ?_⟩
  unfold World.cell?
  rw [block_new]
  simp [hi]
theorem own_alloc {w : World} {v : Value} {n : Nat} {xs : List Value} (h : w.ownsRow 0 5 1 v n xs) : v.ownBlock ≠ some w.heap.size := fun e => by
  have := lt_of_block (own_block5 h e).choose_spec
  omega

end Go.Proofs.YtjpmjcadnnglnaaDoor
