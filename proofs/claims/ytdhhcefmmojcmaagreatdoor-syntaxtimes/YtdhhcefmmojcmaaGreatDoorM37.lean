/- Texts of this proof, one behind the other: what each says stands ahead of it. -/
import Derived.Test.YtdhhcefmmojcmaaGreatDoorKDd
import Derived.Deep.RegionLaw
import Derived.Test.YtdhhcefmmojcmaaGreatDoorM9
import Derived.Test.YtdhhcefmmojcmaaGreatDoorM10
import Derived.Laws.BytesArg
import Derived.Lib.AppendStr
import Derived.Deep.RegionWith
/- What a putter writes into: a block that holds a list of bytes of the call's own; put. Conditions: what is put are bytes. -/
namespace Go.Proofs.YtdhhcefmmojcmaaGreatDoor
open Go.RowKit

theorem cstep_append_own {P : Program} (w : World) {ops : Array Oper} {o : Oper} {a : Act} {K : Act → World → Prop} {Q : Exit → Act → World → Prop} {E : Prop} (hgd : o.guard = none) (s x : Operand) (t : TypeId)
    (ho : o.op = .call { callee := .builtin .append, args := #[s, x], argTypes := #[t, t] })
    (base : Nat) (e : TypeId) (i : TypeInfo) (z : Value) (size bytes : Nat) (ht : P.underlying t = some (.slice e)) (hi : P.info? e = some i) (hz : i.zero = some z)
    (hsize : i.size = size) (hby : i.bytes = bytes) (hzs : z.cells.size = size) (hsz : 0 < size)
    (v : Value) (n : Nat) (xs : List Value) (hs : a.eval s = v) (hown : w.ownsRow base e size v n xs)
    (ad : Addr) (m c : Nat) (news : List Value) (hx : a.eval x = .slice (some ad) m c) (hl : news.length = m * size) (hnews : ∀ j u, news[j]? = some u → w.cell? (ad.add j) = some u) (h1 : ∀ u ∈ news, u.oneCell' = true)
    (h63 : n + m ≤ maxLen) (hbytes : (n + m) * bytes ≤ 140737488355328) (hbase : base ≤ w.heap.size) (H : Nat) (hH : w.heap.size = H)
    (h : ∀ v' w', w'.ownsRow base e size v' (n + m) (xs ++ news) → w.grownBy w' v.ownBlock → (v'.ownBlock = v.ownBlock ∨ v'.ownBlock = some H) → K (a.put o.dst v') w') :
    if Region.wanted o (yielded ops a.tmps) = true then Oper.wp P o a w K Q else E := by
  have hw : Region.wanted o (yielded ops a.tmps) = true := by simp [Region.wanted, hgd]
  rw [if_pos hw]
  obtain ⟨v', w', hr, h2, h3, h4, h5⟩ := run_append_own_at (P := P) w base t o.type e i z size bytes ht hi hz hsize hby hzs hsz v n xs hown ad m c news hl hnews h1 h63 hbytes hbase
  unfold Oper.wp execOp
  simp only [ho, resolve, invoke, builtin, Sem.run_bind, Sem.run_pure, Result.andThen_ok, List.map_toArray, List.map_cons, List.map_nil, hs, hx, hr]
  exact h v' w' h2 h3 (by rw [← hH]; exact h5)


def encB (o : List Int) : List Value := o.map (.int .u8)
/-- A block that holds a list of bytes that may be written; P: the older blocks that may be changed. -/
structure Ob (P : Nat → Prop) (W0 wr : World) (q : Nat) (v : Value) (o : List Int) : Prop where
  own : wr.ownsRow 0 5 1 v o.length (encB o)
  new : ∀ g, v.ownBlock = some g → P g ∨ W0.heap.size ≤ g
  blk : wr.heap[q]? = some (.cells #[v] 49 (0, 0))
  touch : Touch P W0 wr
  at_ : P q
theorem own_block5 {w : World} {v : Value} {n : Nat} {xs : List Value} (h : w.ownsRow 0 5 1 v n xs) {g : Nat} (hg : v.ownBlock = some g) : ∃ cur, w.heap[g]? = some (.cells cur 5 (0, 0)) := by
  rcases h.2 with ⟨rfl, _⟩ | ⟨b, cap, cur, rfl, _, hh, _⟩
  · simp [Value.ownBlock] at hg
  · simp [Value.ownBlock] at hg
    subst hg
    exact ⟨cur, hh⟩
theorem own_kept5 {w w' : World} {v : Value} {n : Nat} {xs : List Value} (h : w.ownsRow 0 5 1 v n xs) (hb : ∀ g, v.ownBlock = some g → w'.heap[g]? = w.heap[g]?) : w'.ownsRow 0 5 1 v n xs := by
  refine ⟨h.1, ?_⟩
  rcases h.2 with h0 | ⟨g, cap, cur, rfl, hg, hh, rest⟩
  · exact .inl h0
  · exact .inr ⟨g, cap, cur, rfl, hg, (hb g rfl).trans hh, rest⟩
theorem Ob.ne {P : Nat → Prop} {W0 wr : World} {q : Nat} {v : Value} {o : List Int} (h : Ob P W0 wr q v o) : v.ownBlock ≠ some q := fun e => by
  obtain ⟨cur, hc⟩ := own_block5 h.own e
  rw [h.blk] at hc
  simp at hc
theorem Ob.still {P : Nat → Prop} {W0 wr w' : World} {q : Nat} {v : Value} {o : List Int} (h : Ob P W0 wr q v o) (t : Touch (fun _ => False) wr w') : Ob P W0 w' q v o :=
  ⟨own_kept5 h.own (fun g hg => t.block g (lt_of_block (own_block5 h.own hg).choose_spec) id), h.new, (t.block q (lt_of_block h.blk) id).trans h.blk, h.touch.trans t (fun _ _ e => e.elim), h.at_⟩
/-- The same, seen from its own world. -/
theorem Ob.now {P : Nat → Prop} {W0 wr : World} {q : Nat} {v : Value} {o : List Int} (h : Ob P W0 wr q v o) : Ob (fun k => k = q ∨ v.ownBlock = some k) wr wr q v o :=
  ⟨h.own, fun _ hg => .inl (.inr hg), h.blk, Touch.refl _ _, .inl rfl⟩
theorem Ob.back {P : Nat → Prop} {W0 wr w' : World} {q : Nat} {v v' : Value} {o o' : List Int} (h : Ob P W0 wr q v o) (h' : Ob (fun k => k = q ∨ v.ownBlock = some k) wr w' q v' o') : Ob P W0 w' q v' o' :=
  ⟨h'.own, fun g hg => by
    rcases h'.new g hg with (e | e) | e
    · exact .inl (by rw [e]; exact h.at_)
    · exact h.new g e
    · have := h.touch.size
      exact .inr (by omega), h'.blk, h.touch.trans h'.touch (fun k hk e => by
    rcases e with e | e
    · rw [e]; exact h.at_
    · rcases h.new k e with p | p
      · exact p
      · omega), h.at_⟩
theorem Ob.app {P : Nat → Prop} {W0 wr w1 : World} {q : Nat} {v v' : Value} {o : List Int} {x : Int} {ob : Obj} (h : Ob P W0 wr q v o) (hown : w1.ownsRow 0 5 1 v' (o.length + 1) (encB o ++ [.int .u8 x])) (hg : (wr.alloc ob).grownBy w1 v.ownBlock) (hat : v'.ownBlock = v.ownBlock ∨ v'.ownBlock = some (wr.heap.size + 1)) : Ob P W0 (w1.setCell ⟨q, 0, none⟩ v') q v' (o ++ [x]) := by
  have hq := lt_of_block h.blk
  have key : w1.heap[q]? = wr.heap[q]? := by
    rw [hg.block q (by simp; omega) (fun e => h.ne e.symm), Below.heap_alloc _ _ _ hq]
  have ne' : v'.ownBlock ≠ some q := by
    rcases hat with e | e
    · rw [e]; exact h.ne
    · rw [e]
      intro z
      simp at z
      omega
  refine ⟨own_kept5 ?_ (fun g e => Below.heap_setCell _ _ _ _ (fun z => ne' (by rw [e, z]))), fun g e => ?_, block_set (key.trans h.blk) 0 v', ((h.touch.alloc ob).grown hg (fun k e hk => ?_)).setCell (fun _ => h.at_) v', h.at_⟩
  · rw [List.length_append, encB, List.map_append]
    exact hown
  · rcases hat with z | z
    · exact h.new g (by rw [← z]; exact e)
    · rw [z] at e
      simp at e
      have := h.touch.size
      exact .inr (by omega)
  · rcases h.new k e with p | p
    · exact p
    · omega
theorem Ob.mid {P : Nat → Prop} {W0 wr w1 : World} {q : Nat} {v : Value} {o : List Int} {ob : Obj} (h : Ob P W0 wr q v o) (hg : (wr.alloc ob).grownBy w1 v.ownBlock) : w1.cell? ⟨q, 0, none⟩ = some v ∧ ∀ i, w1.frozen? ⟨q, i, none⟩ = false := by
  have hq := lt_of_block h.blk
  have key : w1.heap[q]? = wr.heap[q]? := by
    rw [hg.block q (by simp; omega) (fun e => h.ne e.symm), Below.heap_alloc _ _ _ hq]
  have := key.trans h.blk
  simp [World.cell?, World.frozen?, this]
theorem Ob.other {P : Nat → Prop} {W0 wr w1 : World} {q k : Nat} {v : Value} {o : List Int} {ob : Obj} (h : Ob P W0 wr q v o) (hk : k < W0.heap.size) (hP : ¬ P k) (hg : (wr.alloc ob).grownBy w1 v.ownBlock) : w1.cell? ⟨k, 0, none⟩ = wr.cell? ⟨k, 0, none⟩ := by
  have hs := h.touch.size
  have key : w1.heap[k]? = wr.heap[k]? := by
    rw [hg.block k (by simp; omega) (fun e => by
      rcases h.new k e.symm with p | p
      · exact hP p
      · omega), Below.heap_alloc _ _ _ (by omega)]
  simp only [World.cell?, key]
theorem info5i : (Tryz.prog.info? 5).map (fun i => (i.zero, i.size, i.bytes)) = some (some (.int .u8 0), 1, 1) := by kernel_rfl
theorem Ob.cell {P : Nat → Prop} {W0 wr : World} {q : Nat} {v : Value} {o : List Int} (h : Ob P W0 wr q v o) : wr.cell? ⟨q, 0, none⟩ = some v ∧ ∀ i, wr.frozen? ⟨q, i, none⟩ = false := by
  simp [World.cell?, World.frozen?, h.blk]
theorem take_more (l : List Int) (i : Nat) (hi : i < l.length) (o : List Int) : o ++ l.take (i + 1) = o ++ l.take i ++ [l[i]] := by
  rw [List.append_assoc, List.take_append_getElem hi]

end Go.Proofs.YtdhhcefmmojcmaaGreatDoor

/- What a putter hands back for Latin1, and what that does; conditions: those told. -/
namespace Go.Proofs.YtdhhcefmmojcmaaGreatDoor
open Go.RowKit
attribute [local go_sem] run_store_func

/-- What a putter does with each number that it may be given, whatever else has been written. -/
def PutOk (lo : Nat) (w : World) (fid b q : Nat) (ok : Int → Prop) (en : Int → List Int) (B : Nat) : Prop := ∀ wq v o r, (∀ k, lo ≤ k → k < w.heap.size → wq.heap[k]? = w.heap[k]?) → w.heap.size ≤ wq.heap.size → (∀ g, v.ownBlock = some g → g < lo ∨ w.heap.size ≤ g) → q < lo → Ob (fun k => k = q ∨ v.ownBlock = some k) wq wq q v o → ok r → o.length ≤ B →
  Calls Tryz.prog fid (#[.int .i64 r] ++ #[.pointer (some ⟨b, 0, none⟩)]) wq fun e w' => e = .returned (.tuple #[]) ∧ ∃ v', Ob (fun k => k = q ∨ v.ownBlock = some k) wq w' q v' (o ++ en r)

theorem cell_heap {w w' : World} {k : Nat} (h : w'.heap[k]? = w.heap[k]?) : w'.cell? ⟨k, 0, none⟩ = w.cell? ⟨k, 0, none⟩ := by
  simp only [World.cell?, h]
theorem ig_new (w : World) (l : List Int) : IgK (w.alloc (.cells (l.map (.int .i64)).toArray 3)) (some ⟨w.heap.size, 0, none⟩) l := by
  refine ⟨_, rfl, by simp, fun i hi => ?_⟩
  unfold World.cell?
  rw [block_new]
  simp [hi]
theorem own_alloc {w : World} {v : Value} {n : Nat} {xs : List Value} (h : w.ownsRow 0 5 1 v n xs) : v.ownBlock ≠ some w.heap.size := fun e => by
  have := lt_of_block (own_block5 h e).choose_spec
  omega

end Go.Proofs.YtdhhcefmmojcmaaGreatDoor

/- Encode by Latin1 of numbers that are bytes; conditions: those told. -/
namespace Go.Proofs.YtdhhcefmmojcmaaGreatDoor
open Go.RowKit
open Go.Lib

theorem crun_append_string_at {P : Program} (w : World) (t u ty e : TypeId) (i : TypeInfo) (ht : P.underlying t = some (.slice e)) (hu : P.underlying u = some .string) (hi : P.info? e = some i) (hz : i.zero = some (.int .u8 0))
    (hsize : i.size = 1) (hby : i.bytes = 1) (v : Value) (n : Nat) (xs : List Value) (hown : w.ownsRow 0 e 1 v n xs) (s : ByteArray) (h63 : n + s.size ≤ maxLen) (hbytes : n + s.size ≤ 140737488355328) :
    ∃ v' w', (Builtin.append_ #[t, u] ty #[v, .string s]).run P w = .ok v' w' ∧ w'.ownsRow 0 e 1 v' (n + s.size) (xs ++ strCells s) ∧ w.grownBy w' v.ownBlock ∧
      (v'.ownBlock = v.ownBlock ∨ ∃ g, v'.ownBlock = some g ∧ w.heap.size ≤ g) := by
  rcases hown.2 with ⟨rfl, rfl⟩ | ⟨g, cap, cur, rfl, _, hg, hnc, hcm, hcs, htake⟩
  · have hx : xs = [] := List.eq_nil_of_length_eq_zero (by simpa using hown.1)
    subst hx
    obtain ⟨v', w', hr, h2, h3, h4⟩ := run_append_own_string (P := P) w w.heap.size t u ty e i ht hu hi hz hsize hby _ _ _ (World.ownsRow_nil w w.heap.size e 1) s h63 hbytes (Nat.le_refl _)
    refine ⟨v', w', hr, ⟨h2.1, ?_⟩, h3, ?_⟩
    · rcases h2.2 with h | ⟨g, cap, cur, hv, _, hh, r⟩
      · exact .inl h
      · exact .inr ⟨g, cap, cur, hv, Nat.zero_le _, hh, r⟩
    · rcases h2.2 with ⟨rfl, _⟩ | ⟨g, cap, cur, rfl, hg, _⟩
      · exact .inl rfl
      · exact .inr ⟨g, rfl, hg⟩
  · obtain ⟨v', w', hr, h2, h3, h4⟩ := run_append_own_string (P := P) w 0 t u ty e i ht hu hi hz hsize hby _ _ _ hown s h63 hbytes (Nat.zero_le _)
    refine ⟨v', w', hr, h2, h3, ?_⟩
    by_cases hroom : n + s.size ≤ cap
    · have hcs' : cur.size = cap := by simpa using hcs
      have hr2 := run_append_room_string (P := P) w t u ty e i ht hu hi hsize g n cap cur hg s hroom (by omega)
      rw [hr] at hr2
      simp only [Result.ok.injEq] at hr2
      rw [hr2.1]
      exact .inl rfl
    · have holds : ∀ j u, xs[j]? = some u → w.cell? ((⟨g, 0, none⟩ : Addr).add j) = some u := hown.cells (g := g) rfl
      have hr2 := run_append_grow_string (P := P) w t u ty e i (.int .u8 0) ht hu hi hz ⟨g, 0, none⟩ n cap xs (by rw [hsize]; exact hown.1) holds s (by omega) (by unfold maxLen at h63; omega) (by rw [hby]; exact growslice_fits (by omega) (by omega))
      rw [hr] at hr2
      simp only [Result.ok.injEq] at hr2
      rw [hr2.1]
      exact .inr ⟨_, rfl, Nat.le_refl _⟩

theorem step_append_string {P : Program} (w : World) {ops : Array Oper} {o : Oper} {a : Act} {K : Act → World → Prop} {Q : Exit → Act → World → Prop} {E : Prop} (hgd : o.guard = none) (sl x : Operand) (t u : TypeId)
    (ho : o.op = .call { callee := .builtin .append, args := #[sl, x], argTypes := #[t, u] })
    (e : TypeId) (i : TypeInfo) (ht : P.underlying t = some (.slice e)) (hu : P.underlying u = some .string) (hi : P.info? e = some i) (hz : i.zero = some (.int .u8 0)) (hsize : i.size = 1) (hby : i.bytes = 1)
    (v : Value) (n : Nat) (xs : List Value) (hs : a.eval sl = v) (hown : w.ownsRow 0 e 1 v n xs) (s : ByteArray) (hx : a.eval x = .string s) (h63 : n + s.size ≤ maxLen) (hbytes : n + s.size ≤ 140737488355328)
    (h : ∀ v' w', w'.ownsRow 0 e 1 v' (n + s.size) (xs ++ strCells s) → w.grownBy w' v.ownBlock → (v'.ownBlock = v.ownBlock ∨ ∃ g, v'.ownBlock = some g ∧ w.heap.size ≤ g) → K (a.put o.dst v') w') :
    if Region.wanted o (yielded ops a.tmps) = true then Oper.wp P o a w K Q else E := by
  have hw : Region.wanted o (yielded ops a.tmps) = true := by simp [Region.wanted, hgd]
  rw [if_pos hw]
  obtain ⟨v', w', hr, h2, h3, h4⟩ := crun_append_string_at (P := P) w t u o.type e i ht hu hi hz hsize hby v n xs hown s h63 hbytes
  unfold Oper.wp execOp
  simp only [ho, resolve, invoke, builtin, Sem.run_bind, Sem.run_pure, Result.andThen_ok, List.map_toArray, List.map_cons, List.map_nil, hs, hx, hr]
  exact h v' w' h2 h3 h4

def nums (s : ByteArray) : List Int := s.data.toList.map fun b => (b.toNat : Int)
theorem Ob.appS {P : Nat → Prop} {W0 wr w1 : World} {q : Nat} {v v' : Value} {o : List Int} {s : ByteArray} (h : Ob P W0 wr q v o) (hown : w1.ownsRow 0 5 1 v' (o.length + s.size) (encB o ++ strCells s)) (hg : wr.grownBy w1 v.ownBlock) (hat : v'.ownBlock = v.ownBlock ∨ ∃ g, v'.ownBlock = some g ∧ wr.heap.size ≤ g) : Ob P W0 (w1.setCell ⟨q, 0, none⟩ v') q v' (o ++ nums s) := by
  have hq := lt_of_block h.blk
  have key : w1.heap[q]? = wr.heap[q]? := hg.block q hq (fun e => h.ne e.symm)
  have ne' : v'.ownBlock ≠ some q := by
    rcases hat with e | ⟨g, e, hg⟩
    · rw [e]; exact h.ne
    · rw [e]
      intro z
      simp at z
      omega
  refine ⟨own_kept5 ?_ (fun g e => Below.heap_setCell _ _ _ _ (fun z => ne' (by rw [e, z]))), fun g e => ?_, block_set (key.trans h.blk) 0 v', (h.touch.grown hg (fun k e hk => ?_)).setCell (fun _ => h.at_) v', h.at_⟩
  · have e1 : (nums s).length = s.size := by unfold nums; rw [List.length_map, Array.length_toList]; rfl
    have e2 : encB (nums s) = strCells s := by unfold encB nums strCells; rw [List.map_map]; rfl
    rw [List.length_append, e1, encB, List.map_append]
    rw [← e2] at hown
    exact hown
  · rcases hat with z | ⟨g', z, hz⟩
    · exact h.new g (by rw [← z]; exact e)
    · rw [z] at e
      simp at e
      have := h.touch.size
      exact .inr (by omega)
  · rcases h.new k e with p | p
    · exact p
    · omega
theorem Ob.midS {P : Nat → Prop} {W0 wr w1 : World} {q : Nat} {v : Value} {o : List Int} (h : Ob P W0 wr q v o) (hg : wr.grownBy w1 v.ownBlock) : w1.cell? ⟨q, 0, none⟩ = some v ∧ ∀ i, w1.frozen? ⟨q, i, none⟩ = false := by
  have hq := lt_of_block h.blk
  have := (hg.block q hq (fun e => h.ne e.symm)).trans h.blk
  simp [World.cell?, World.frozen?, this]
theorem conv_own {w : World} {v : Value} {o : List Int} (h : w.ownsRow 0 5 1 v o.length (encB o)) : (convert 49 9 v).run Tryz.prog w = .ok (.string (strOfNums o)) w := by
  rcases h.2 with ⟨rfl, h0⟩ | ⟨g, cap, cur, rfl, hg, hh, rest⟩
  · obtain rfl := List.eq_nil_of_length_eq_zero h0
    rw [run_convert_bytes_string w 49 9 5 _ _ _ Tryz.underlying49 Tryz.underlying5 Tryz.underlying9]
    simp [Conv.bytesToString, strOfNums]
    rfl
  · refine run_convert_bytes_arg w 49 5 Tryz.underlying49 Tryz.underlying5 g 0 o.length cap o rfl (fun i hi => ?_) 9 Tryz.underlying9
    have := h.cells (g := g) rfl i (.int .u8 (o.getD i 0)) (by simp [encB, hi])
    rw [add_gK] at this
    rwa [Nat.zero_add]
theorem Ob.start (w : World) : Ob (fun k => k = w.heap.size) (w.alloc (.cells #[.slice none 0 0] 49)) (w.alloc (.cells #[.slice none 0 0] 49)) w.heap.size (.slice none 0 0) [] :=
  ⟨by simpa [encB] using World.ownsRow_nil _ _ _ _, fun g hg => by simp [Value.ownBlock] at hg, block_new w _ 49, Touch.refl _ _, rfl⟩

end Go.Proofs.YtdhhcefmmojcmaaGreatDoor

/- The putters of two bytes; conditions: those told. -/
namespace Go.Proofs.YtdhhcefmmojcmaaGreatDoor
open Go.RowKit
attribute [local go_sem] run_store_func

theorem and_low (r : Int) (k : Nat) (h0 : 0 ≤ r) (h1 : r < 4611686018427387904) (hk : k ≤ 20) : bits .and .i64 r ((2 ^ k - 1 : Nat) : Int) = r % ((2 ^ k : Nat) : Int) := by
  obtain ⟨n, rfl⟩ := Int.eq_ofNat_of_zero_le h0
  have hp : 2 ^ k ≤ 2 ^ 20 := Nat.pow_le_pow_right (by decide) hk
  rw [(bits_nat .i64 62 (by decide) wraps_i64 n (2 ^ k - 1) (by omega) (by omega)).1, Nat.and_two_pow_sub_one_eq_mod]
  rfl
theorem and255 (r : Int) (h0 : 0 ≤ r) (h1 : r < 4611686018427387904) : bits .and .i64 r 255 = r % 256 := and_low r 8 h0 h1 (by decide)
theorem and1023 (r : Int) (h0 : 0 ≤ r) (h1 : r < 4611686018427387904) : bits .and .i64 r 1023 = r % 1024 := and_low r 10 h0 h1 (by decide)

/-- The bytes of a scalar by a coding of two bytes a unit. -/
def enU (f : Nat) (r : Int) : List Int := if f = 50 then [r % 256, r / 256] else [r / 256, r % 256]
def en16 (f : Nat) (r : Int) : List Int := if r < 65536 then enU f r else enU f (55296 + (r - 65536) / 1024) ++ enU f (56320 + (r - 65536) % 1024)
/-- A later world of the same. -/
theorem Ob.chain {P : Nat → Prop} {W0 wr : World} {q : Nat} {v : Value} {o : List Int} {lo : Nat} {w : World} (h : Ob P W0 wr q v o) (hP : ∀ k, P k → k < lo ∨ w.heap.size ≤ k) (hk : ∀ k, lo ≤ k → k < w.heap.size → W0.heap[k]? = w.heap[k]?) (hs : w.heap.size ≤ W0.heap.size) :
    (∀ k, lo ≤ k → k < w.heap.size → wr.heap[k]? = w.heap[k]?) ∧ w.heap.size ≤ wr.heap.size ∧ (∀ g, v.ownBlock = some g → g < lo ∨ w.heap.size ≤ g) := by
  refine ⟨fun k h1 h2 => ?_, Nat.le_trans hs h.touch.size, fun g hg => ?_⟩
  · rw [h.touch.block k (by omega) (fun e => by rcases hP k e with p | p <;> omega)]
    exact hk k h1 h2
  · rcases h.new g hg with p | p
    · exact hP g p
    · exact .inr (by omega)

end Go.Proofs.YtdhhcefmmojcmaaGreatDoor

/- A further byte of UTF-8; conditions: those told. -/
namespace Go.Proofs.YtdhhcefmmojcmaaGreatDoor
open Go.RowKit

theorem and63 (r : Int) (h0 : 0 ≤ r) (h1 : r < 4611686018427387904) : bits .and .i64 r 63 = r % 64 := and_low r 6 h0 h1 (by decide)
theorem or_head (n : Int) (hd k : Nat) (h0 : 0 ≤ n) (h1 : n < ((2 ^ k : Nat) : Int)) (hk : k ≤ 8) (hd1 : hd ≤ 255) : bits .or .i64 ((2 ^ k * hd : Nat) : Int) n = ((2 ^ k * hd : Nat) : Int) + n := by
  obtain ⟨m, rfl⟩ := Int.eq_ofNat_of_zero_le h0
  have hp : 2 ^ k ≤ 2 ^ 8 := Nat.pow_le_pow_right (by decide) hk
  have hm : m < 2 ^ k := by omega
  have h3 : 2 ^ k * hd ≤ 2 ^ 8 * 255 := Nat.mul_le_mul hp hd1
  rw [(bits_nat .i64 62 (by decide) wraps_i64 (2 ^ k * hd) m (by omega) (by omega)).2, ← Nat.two_pow_add_eq_or_of_lt hm]
  rfl
theorem or128 (n : Int) (h0 : 0 ≤ n) (h1 : n < 64) : bits .or .i64 128 n = 128 + n := or_head n 2 6 h0 h1 (by decide) (by decide)
theorem or192 (n : Int) (h0 : 0 ≤ n) (h1 : n < 64) : bits .or .i64 192 n = 192 + n := or_head n 3 6 h0 h1 (by decide) (by decide)
theorem or224 (n : Int) (h0 : 0 ≤ n) (h1 : n < 32) : bits .or .i64 224 n = 224 + n := or_head n 7 5 h0 h1 (by decide) (by decide)
theorem or240 (n : Int) (h0 : 0 ≤ n) (h1 : n < 16) : bits .or .i64 240 n = 240 + n := or_head n 15 4 h0 h1 (by decide) (by decide)

end Go.Proofs.YtdhhcefmmojcmaaGreatDoor

/- putUTF8; conditions: those told. -/
namespace Go.Proofs.YtdhhcefmmojcmaaGreatDoor
open Go.RowKit

end Go.Proofs.YtdhhcefmmojcmaaGreatDoor

/- The putter of UTF-8; conditions: those told. -/
namespace Go.Proofs.YtdhhcefmmojcmaaGreatDoor
open Go.RowKit
attribute [local go_sem] run_store_func

/-- The bytes of a scalar by UTF-8. -/
def en8 (r : Int) : List Int := if r < 128 then [r] else if r < 2048 then [192 + r / 64, 128 + r % 64] else if r < 65536 then [224 + r / 4096, 128 + r / 64 % 64, 128 + r % 64] else [240 + r / 262144, 128 + r / 4096 % 64, 128 + r / 64 % 64, 128 + r % 64]
end Go.Proofs.YtdhhcefmmojcmaaGreatDoor

/- Encode of any numbers in every coding; conditions: those told. -/
namespace Go.Proofs.YtdhhcefmmojcmaaGreatDoor
open Go.RowKit
open Go.Lib

def scB (r : Int) : Bool := decide (0 ≤ r) && (decide (r ≤ 1114111) && !(decide (55296 ≤ r) && decide (r < 57344)))
theorem scB_iff (r : Int) : scB r = true ↔ 0 ≤ r ∧ r ≤ 1114111 ∧ (r < 55296 ∨ 57344 ≤ r) := by
  unfold scB
  simp only [Bool.and_eq_true, decide_eq_true_eq, Bool.not_eq_true', Bool.and_eq_false_iff, decide_eq_false_iff_not]
  omega
def enc (c : Nat) (r : Int) : List Int := if c = 1 then en8 r else if c = 2 then en16 50 r else if c = 3 then en16 51 r else [r]
def okc (c : Nat) (r : Int) : Bool := scB r && (decide (c ≠ 4) || decide (r ≤ 255))
def topc (c : Nat) : Int := if c = 4 then 255 else 1114111
theorem enc_len (c : Nat) (r : Int) : (enc c r).length ≤ 4 := by
  unfold enc en8 en16 enU
  repeat' split
  all_goals simp
theorem flat_len (c : Nat) : ∀ l : List Int, (l.flatMap (enc c)).length ≤ 4 * l.length
  | [] => by simp
  | x :: l => by
    have := enc_len c x
    have := flat_len c l
    simp only [List.flatMap_cons, List.length_append, List.length_cons]
    omega
theorem flat_more (c : Nat) (l : List Int) (i : Nat) (hi : i < l.length) (o : List Int) : o ++ (l.take (i + 1)).flatMap (enc c) = o ++ (l.take i).flatMap (enc c) ++ enc c l[i] := by
  rw [List.take_succ_eq_append_getElem hi, List.flatMap_append, ← List.append_assoc]
  simp
theorem okc_in {c : Nat} {r : Int} (h : okc c r = true) : 0 ≤ r ∧ r ≤ topc c := by
  unfold okc at h
  rw [Bool.and_eq_true, scB_iff] at h
  unfold topc
  split
  · rename_i e
    subst e
    simp at h
    omega
  · omega
def encRK (c : Nat) (mark : Bool) (l : List Int) : Value := if l.all (okc c) = true then .tuple #[.string (strOfNums ((if mark then nums (mk c) else []) ++ l.flatMap (enc c))), .int .i64 0] else .tuple #[.string ⟨#[]⟩, .int .i64 17]
theorem encR_bad {c : Nat} {mark : Bool} {l : List Int} (i : Nat) (hi : i < l.length) (h : okc c l[i] = false) : encRK c mark l = .tuple #[.string ⟨#[]⟩, .int .i64 17] := by
  unfold encRK
  rw [if_neg]
  intro e
  rw [List.all_eq_true] at e
  have := e _ (List.getElem_mem hi)
  rw [h] at this
  cases this
theorem all_take {p : Int → Bool} {l : List Int} {i : Nat} (hi : i < l.length) (h : (l.take i).all p = true) (hx : p l[i] = true) : (l.take (i + 1)).all p = true := by
  rw [List.take_succ_eq_append_getElem hi, List.all_append, h, List.all_cons, hx]
  rfl
end Go.Proofs.YtdhhcefmmojcmaaGreatDoor
