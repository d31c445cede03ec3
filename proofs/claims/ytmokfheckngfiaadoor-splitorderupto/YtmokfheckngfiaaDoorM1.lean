/- Texts of this proof, one behind the other: what each says stands ahead of it. -/
import Derived.Test.YtmokfheckngfiaaDoorM0
import Derived.Deep.RegionLaw
import Derived.Laws.BytesArg
import Derived.Lib.AppendStr
/- What a putter writes into: a block that holds a list of bytes of the call's own; put. Conditions: what is put are bytes. -/
namespace Go.Proofs.YtmokfheckngfiaaDoor
open Go.RowKit

theorem step_append_own {P : Program} (w : World) {ops : Array Oper} {o : Oper} {a : Act} {K : Act → World → Prop} {Q : Exit → Act → World → Prop} {E : Prop} (hgd : o.guard = none) (s x : Operand) (t : TypeId)
    (ho : o.op = .call { callee := .builtin .append, args := #[s, x], argTypes := #[t, t] })
    (base : Nat) (e : TypeId) (i : TypeInfo) (z : Value) (size bytes : Nat) (ht : P.underlying t = some (.slice e)) (hi : P.info? e = some i) (hz : i.zero = some z)
    (hsize : i.size = size) (hby : i.bytes = bytes) (hzs : z.cells.size = size) (hsz : 0 < size)
    (v : Value) (n : Nat) (xs : List Value) (hs : a.eval s = v) (hown : w.ownsRow base e size v n xs)
    (ad : Addr) (m c : Nat) (news : List Value) (hx : a.eval x = .slice (some ad) m c) (hl : news.length = m * size) (hnews : ∀ j u, news[j]? = some u → w.cell? (ad.add j) = some u) (h1 : ∀ u ∈ news, u.oneCell' = true)
    (h63 : n + m ≤ maxLen) (hbytes : (n + m) * bytes ≤ 140737488355328) (hbase : base ≤ w.heap.size) (H : Nat) (hH : w.heap.size = H)
    (h : ∀ v' w', w'.ownsRow base e size v' (n + m) (xs ++ news) → w.grownBy w' v.ownBlock → (v'.ownBlock = v.ownBlock ∨ v'.ownBlock = some H) → K (a.put o.dst v') w') :
    if Region.wanted o (yielded ops a.tmps) = true then Oper.wp P o a w K Q else E := by
  have hw : Region.wanted o (yielded ops a.tmps) = true := by simp [Region.wanted, hgd]
  rw [if_pos hw]
  obtain ⟨v', w', hr, h2, h3, h4, h5⟩ := run_append_own_at (P := P) w base t o.type e i z size bytes ht hi hz hsize hby hzs hsz v n xs hown ad m c news hl hnews h1 h63 hbytes hbase
  unfold Oper.wp execOp
  simp only [ho, resolve, invoke, builtin, Sem.run_bind, Sem.run_pure, Result.andThen_ok, List.map_toArray, List.map_cons, List.map_nil, hs, hx, hr]
  exact h v' w' h2 h3 (by rw [← hH]; exact h5)


def encB (o : List Int) : List Value := o.map (.int .u8)
/-- A block that holds a list of bytes that may be written; P: the older blocks that may be changed. -/
structure Ob (P : Nat → Prop) (W0 wr : World) (q : Nat) (v : Value) (o : List Int) : Prop where
  own : wr.ownsRow 0 5 1 v o.length (encB o)
  new : ∀ g, v.ownBlock = some g → P g ∨ W0.heap.size ≤ g
  blk : wr.heap[q]? = some (.cells #[v] 23 (0, 0))
  touch : Touch P W0 wr
  at_ : P q
theorem own_block5 {w : World} {v : Value} {n : Nat} {xs : List Value} (h : w.ownsRow 0 5 1 v n xs) {g : Nat} (hg : v.ownBlock = some g) : ∃ cur, w.heap[g]? = some (.cells cur 5 (0, 0)) := by
  rcases h.2 with ⟨rfl, _⟩ | ⟨b, cap, cur, rfl, _, hh, _⟩
  · simp [Value.ownBlock] at hg
  · simp [Value.ownBlock] at hg
    subst hg
    exact ⟨cur, hh⟩
theorem own_kept5 {w w' : World} {v : Value} {n : Nat} {xs : List Value} (h : w.ownsRow 0 5 1 v n xs) (hb : ∀ g, v.ownBlock = some g → w'.heap[g]? = w.heap[g]?) : w'.ownsRow 0 5 1 v n xs := by
  refine ⟨h.1, ?_⟩
  rcases h.2 with h0 | ⟨g, cap, cur, rfl, hg, hh, rest⟩
  · exact .inl h0
  · exact .inr ⟨g, cap, cur, rfl, hg, (hb g rfl).trans hh, rest⟩
theorem Ob.ne {P : Nat → Prop} {W0 wr : World} {q : Nat} {v : Value} {o : List Int} (h : Ob P W0 wr q v o) : v.ownBlock ≠ some q := fun e => by
  obtain ⟨cur, hc⟩ := own_block5 h.own e
  rw [h.blk] at hc
  simp at hc
theorem Ob.still {P : Nat → Prop} {W0 wr w' : World} {q : Nat} {v : Value} {o : List Int} (h : Ob P W0 wr q v o) (t : Touch (fun _ => False) wr w') : Ob P W0 w' q v o :=
  ⟨own_kept5 h.own (fun g hg => t.block g (lt_of_block (own_block5 h.own hg).choose_spec) id), h.new, (t.block q (lt_of_block h.blk) id).trans h.blk, h.touch.trans t (fun _ _ e => e.elim), h.at_⟩
/-- The same, seen from its own world. -/
theorem Ob.now {P : Nat → Prop} {W0 wr : World} {q : Nat} {v : Value} {o : List Int} (h : Ob P W0 wr q v o) : Ob (fun k => k = q ∨ v.ownBlock = some k) wr wr q v o :=
  ⟨h.own, fun _ hg => .inl (.inr hg), h.blk, Touch.refl _ _, .inl rfl⟩
theorem Ob.back {P : Nat → Prop} {W0 wr w' : World} {q : Nat} {v v' : Value} {o o' : List Int} (h : Ob P W0 wr q v o) (h' : Ob (fun k => k = q ∨ v.ownBlock = some k) wr w' q v' o') : Ob P W0 w' q v' o' :=
  ⟨h'.own, fun g hg => by
    rcases h'.new g hg with (e | e) | e
    · exact .inl (by rw [e]; exact h.at_)
    · exact h.new g e
    · have := h.touch.size
      exact .inr (by omega), h'.blk, h.touch.trans h'.touch (fun k hk e => by
    rcases e with e | e
    · rw [e]; exact h.at_
    · rcases h.new k e with p | p
      · exact p
      · omega), h.at_⟩
theorem Ob.app {P : Nat → Prop} {W0 wr w1 : World} {q : Nat} {v v' : Value} {o : List Int} {x : Int} {ob : Obj} (h : Ob P W0 wr q v o) (hown : w1.ownsRow 0 5 1 v' (o.length + 1) (encB o ++ [.int .u8 x])) (hg : (wr.alloc ob).grownBy w1 v.ownBlock) (hat : v'.ownBlock = v.ownBlock ∨ v'.ownBlock = some (wr.heap.size + 1)) : Ob P W0 (w1.setCell ⟨q, 0, none⟩ v') q v' (o ++ [x]) := by
  have hq := lt_of_block h.blk
  have key : w1.heap[q]? = wr.heap[q]? := by
    rw [hg.block q (by simp; omega) (fun e => h.ne e.symm), Below.heap_alloc _ _ _ hq]
  have ne' : v'.ownBlock ≠ some q := by
    rcases hat with e | e
    · rw [e]; exact h.ne
    · rw [e]
      intro z
      simp at z
      omega
  refine ⟨own_kept5 ?_ (fun g e => Below.heap_setCell _ _ _ _ (fun z => ne' (by rw [e, z]))), fun g e => ?_, block_set (key.trans h.blk) 0 v', ((h.touch.alloc ob).grown hg (fun k e hk => ?_)).setCell (fun _ => h.at_) v', h.at_⟩
  · rw [List.length_append, encB, List.map_append]
    exact hown
  · rcases hat with z | z
    · exact h.new g (by rw [← z]; exact e)
    · rw [z] at e
      simp at e
      have := h.touch.size
      exact .inr (by omega)
  · rcases h.new k e with p | p
    · exact p
    · omega
theorem Ob.mid {P : Nat → Prop} {W0 wr w1 : World} {q : Nat} {v : Value} {o : List Int} {ob : Obj} (h : Ob P W0 wr q v o) (hg : (wr.alloc ob).grownBy w1 v.ownBlock) : w1.cell? ⟨q, 0, none⟩ = some v ∧ ∀ i, w1.frozen? ⟨q, i, none⟩ = false := by
  have hq := lt_of_block h.blk
  have key : w1.heap[q]? = wr.heap[q]? := by
    rw [hg.block q (by simp; omega) (fun e => h.ne e.symm), Below.heap_alloc _ _ _ hq]
  have := key.trans h.blk
  simp [World.cell?, World.frozen?, this]
theorem Ob.other {P : Nat → Prop} {W0 wr w1 : World} {q k : Nat} {v : Value} {o : List Int} {ob : Obj} (h : Ob P W0 wr q v o) (hk : k < W0.heap.size) (hP : ¬ P k) (hg : (wr.alloc ob).grownBy w1 v.ownBlock) : w1.cell? ⟨k, 0, none⟩ = wr.cell? ⟨k, 0, none⟩ := by
  have hs := h.touch.size
  have key : w1.heap[k]? = wr.heap[k]? := by
    rw [hg.block k (by simp; omega) (fun e => by
      rcases h.new k e.symm with p | p
      · exact hP p
      · omega), Below.heap_alloc _ _ _ (by omega)]
  simp only [World.cell?, key]
theorem info5i : (Tryd.prog.info? 5).map (fun i => (i.zero, i.size, i.bytes)) = some (some (.int .u8 0), 1, 1) := by kernel_rfl
theorem Ob.cell {P : Nat → Prop} {W0 wr : World} {q : Nat} {v : Value} {o : List Int} (h : Ob P W0 wr q v o) : wr.cell? ⟨q, 0, none⟩ = some v ∧ ∀ i, wr.frozen? ⟨q, i, none⟩ = false := by
  simp [World.cell?, World.frozen?, h.blk]
theorem take_more (l : List Int) (i : Nat) (hi : i < l.length) (o : List Int) : o ++ l.take (i + 1) = o ++ l.take i ++ [l[i]] := by
  rw [List.append_assoc, List.take_append_getElem hi]

set_option maxRecDepth 100000 in
set_option maxHeartbeats 4000000 in
theorem put_any (b k bo q : Nat) (l o : List Int) (v : Value) (w : World) (hl : Ig w (some ⟨b, 0, none⟩) l) (hin : ∀ x ∈ l, 0 ≤ x ∧ x ≤ 255) (hbo : w.cell? ⟨bo, 0, none⟩ = some (.pointer (some ⟨q, 0, none⟩))) (hlb : bo < w.heap.size) (hbq : bo ≠ q ∧ v.ownBlock ≠ some bo) (hna : b ≠ q ∧ v.ownBlock ≠ some b) (h : Ob (fun k => k = q ∨ v.ownBlock = some k) w w q v o) (hlen : o.length + l.length ≤ 1099511627776) :
    Calls Tryd.prog 103 #[.slice (some ⟨b, 0, none⟩) l.length k, .pointer (some ⟨bo, 0, none⟩)] w fun e w' => e = .returned (.tuple #[]) ∧ ∃ v', Ob (fun k => k = q ∨ v.ownBlock = some k) w w' q v' (o ++ l) := by
  obtain ⟨i0, hi5, hz0, hz1, hz2⟩ := info_parts info5i
  obtain ⟨b', hb', hlt, hc⟩ := hl
  cases hb'
  have HC := hid hc
  have HB := hid hbo
  have H := hid h
  have HIN := hid hin
  clear hbo h hc hin
  go_enter Tryd.func103, Tryd.ntmps103
  go_wp2_with fail
  go_loopg [7] l.length (fun gk v7 wq => ∃ (i : Nat) (v' : Value), i + gk = l.length ∧ v7 = .int .i64 (i : Nat) ∧ Ob (fun k => k = q ∨ v.ownBlock = some k) w wq q v' (o ++ l.take i))
  case atStart => exact ⟨0, v, by omega, rfl, by simpa using H.out⟩
  case round =>
    obtain ⟨i, v', hi, rfl, hob⟩ := hrel
    obtain ⟨o', ho'⟩ : ∃ o', o' = o ++ l.take i := ⟨_, rfl⟩
    have hol : o'.length ≤ 1099511627776 := by rw [ho', List.length_append, List.length_take]; omega
    rw [← ho'] at hob
    have HO := hid ho'
    clear ho'
    have O := hid hob
    have hbo : wr.cell? ⟨bo, 0, none⟩ = some (.pointer (some ⟨q, 0, none⟩)) := (hob.touch.cell (p := ⟨bo, 0, none⟩) hlb (fun e => e.elim hbq.1 hbq.2)).trans HB.out
    obtain ⟨a', k', hv'⟩ := own_shape hob.own
    subst hv'
    obtain ⟨hq0, hqf⟩ := hob.cell
    clear hob
    by_cases hlt2 : i < l.length
    · obtain ⟨gk, rfl⟩ : ∃ j, gk = j + 1 := ⟨gk - 1, by omega⟩
      have hltI : (i : Int) < (l.length : Int) := by omega
      have hx := (O.out.touch.cell (p := ⟨b, i, none⟩) hlt (fun e => e.elim hna.1 hna.2)).trans (HC.out i hlt2)
      have hxin := HIN.out l[i] (List.getElem_mem hlt2)
      have HT := hid (take_more l i hlt2 o)
      obtain ⟨x, hxe⟩ : ∃ x, l[i] = x := ⟨_, rfl⟩
      rw [hxe, ← HO.out] at HT
      rw [hxe] at hx hxin
      clear hxe HO HB HC HIN H
      go_upto_region 3 with fail
      have HW := hid (show IntKind.u8.wrap x = x by rw [IntKind.wrap_u8]; omega)
      clear hxin
      have hq1 : (wr.alloc (.cells #[.int .u8 (IntKind.u8.wrap x)] 5)).cell? ⟨q, 0, none⟩ = some (.slice a' o'.length k') := by
        rw [← hq0]
        simp only [World.cell?, Below.heap_alloc _ _ _ (lt_of_block O.out.blk)]
      have hb1 : (wr.alloc (.cells #[.int .u8 (IntKind.u8.wrap x)] 5)).cell? ⟨bo, 0, none⟩ = some (.pointer (some ⟨q, 0, none⟩)) := by
        rw [← hbo]
        simp only [World.cell?, Below.heap_alloc _ _ _ (Nat.lt_of_lt_of_le hlb O.out.touch.size)]
      go_region_law ((refine step_append_own _ (by rfl) _ _ _ (by rfl) 0 5 i0 _ 1 1 Tryd.underlying23 hi5 hz0 hz1 hz2 rfl (by decide) _ _ _ (by rfl) ((O.out.own.alloc _).drew) ⟨wr.heap.size, 0, none⟩ 1 1 [.int .u8 (IntKind.u8.wrap x)] (by rfl) (by rfl) (row_new wr [.int .u8 (IntKind.u8.wrap x)] 5) (by intro u hu; simp at hu; subst hu; rfl) (by unfold maxLen; omega) (by omega) (Nat.zero_le _) (wr.heap.size + 1) (by simp) ?_; intro v' w4 hown hgrow hat; clear hq0 hqf; obtain ⟨hq0, hqf⟩ := O.out.mid ⟨hgrow.os, hgrow.tape, hgrow.output, hgrow.size, hgrow.block⟩; replace hbo := (O.out.other hlb (fun e => e.elim hbq.1 hbq.2) ⟨hgrow.os, hgrow.tape, hgrow.output, hgrow.size, hgrow.block⟩).trans hbo; obtain ⟨a2, k2, hv2⟩ := own_shape hown; subst hv2))
      all_goals
        have O2 := hid (O.out.app hown ⟨hgrow.os, hgrow.tape, hgrow.output, hgrow.size, hgrow.block⟩ hat)
        rw [HW.out, ← HT.out] at O2
        clear hown hgrow hat hq0 hqf hq1 hb1 O hbo HT HW
        go_wp2
        go_roundg gk
        case measure => omega
        case rel => exact ⟨i + 1, _, by omega, by go_num, O2.out⟩
    · have hltI : ¬ ((i : Int) < (l.length : Int)) := by omega
      go_wp2
      refine bodyPost_end (results_none rfl _ _ _) rfl ?_
      exact ⟨rfl, _, by have := O.out; rwa [HO.out, List.take_of_length_le (by omega)] at this⟩
end Go.Proofs.YtmokfheckngfiaaDoor

/- What a putter hands back for Latin1, and what that does; conditions: those told. -/
namespace Go.Proofs.YtmokfheckngfiaaDoor
open Go.RowKit
attribute [local go_sem] run_store_func

/-- What a putter does with each number that it may be given, whatever else has been written. -/
def PutOk (lo : Nat) (w : World) (fid b q : Nat) (ok : Int → Prop) (en : Int → List Int) (B : Nat) : Prop := ∀ wq v o r, (∀ k, lo ≤ k → k < w.heap.size → wq.heap[k]? = w.heap[k]?) → w.heap.size ≤ wq.heap.size → (∀ g, v.ownBlock = some g → g < lo ∨ w.heap.size ≤ g) → q < lo → Ob (fun k => k = q ∨ v.ownBlock = some k) wq wq q v o → ok r → o.length ≤ B →
  Calls Tryd.prog fid (#[.int .i64 r] ++ #[.pointer (some ⟨b, 0, none⟩)]) wq fun e w' => e = .returned (.tuple #[]) ∧ ∃ v', Ob (fun k => k = q ∨ v.ownBlock = some k) wq w' q v' (o ++ en r)

set_option maxRecDepth 100000 in
theorem putter_four (q : Nat) (w : World) : Calls Tryd.prog 84 #[.pointer (some ⟨q, 0, none⟩), .int .i64 4] w fun e w' => ∃ bo b5, e = .returned (.func (.func 107) #[] #[.pointer (some ⟨b5, 0, none⟩)]) ∧ Own1 w.heap.size w' bo (.pointer (some ⟨q, 0, none⟩)) ∧ Own1 w.heap.size w' b5 (.func (.func 103) #[] #[.pointer (some ⟨bo, 0, none⟩)]) ∧ Touch (fun _ => False) w w' := by
  go_enter Tryd.func84, Tryd.ntmps84
  go_wp2
  go_ret
  exact ⟨_, _, rfl, (Own1.made rfl (Nat.le_refl _)).alloc _, Own1.made (by simp) (by omega), ((Touch.refl _ w).alloc _).alloc _⟩

theorem cell_heap {w w' : World} {k : Nat} (h : w'.heap[k]? = w.heap[k]?) : w'.cell? ⟨k, 0, none⟩ = w.cell? ⟨k, 0, none⟩ := by
  simp only [World.cell?, h]
theorem ig_new (w : World) (l : List Int) : Ig (w.alloc (.cells (l.map (.int .i64)).toArray 3)) (some ⟨w.heap.size, 0, none⟩) l := by
  refine ⟨_, rfl, by simp, fun i hi => ?_⟩
  unfold World.cell?
  rw [block_new]
  simp [hi]
theorem own_alloc {w : World} {v : Value} {n : Nat} {xs : List Value} (h : w.ownsRow 0 5 1 v n xs) : v.ownBlock ≠ some w.heap.size := fun e => by
  have := lt_of_block (own_block5 h e).choose_spec
  omega

set_option maxRecDepth 100000 in
set_option maxHeartbeats 4000000 in
theorem put_latin {lo : Nat} {w : World} {bo b5 q : Nat} (h1 : Own1 lo w bo (.pointer (some ⟨q, 0, none⟩))) (h2 : Own1 lo w b5 (.func (.func 103) #[] #[.pointer (some ⟨bo, 0, none⟩)])) : PutOk lo w 107 b5 q (fun r => 0 ≤ r ∧ r ≤ 255) (fun r => [r]) 549755813888 := by
  intro wq v o r hk hs hv hq hob hr ho
  have c5 : wq.cell? ⟨b5, 0, none⟩ = some (.func (.func 103) #[] #[.pointer (some ⟨bo, 0, none⟩)]) := (cell_heap (hk b5 h2.ge h2.lt)).trans h2.cell
  have tA : Touch (fun _ => False) wq (wq.alloc (.cells #[.int .i64 r] 3)) := (Touch.refl _ wq).alloc _
  have hne : ∀ g, lo ≤ g → g < w.heap.size → v.ownBlock ≠ some g := fun g h3 h4 e => by
    rcases hv g e with p | p <;> omega
  have b1 := h1.ge
  have b2 := h1.lt
  have hbl := lt_of_block hob.blk
  have hoo := hob.still tA
  have K := hid (put_any wq.heap.size 1 bo q [r] o v (wq.alloc (.cells #[.int .i64 r] 3)) (ig_new wq [r]) (fun x hx => by simp at hx; subst hx; exact hr)
    (by rw [tA.cell (p := ⟨bo, 0, none⟩) (show bo < wq.heap.size by omega) id, cell_heap (hk bo h1.ge h1.lt)]; exact h1.cell) (by simp; omega)
    ⟨by omega, hne bo h1.ge h1.lt⟩ ⟨by omega, own_alloc hob.own⟩ hoo.now (by simp; omega))
  have HB := hid hoo
  clear hk hv hob h1 h2 tA hoo hne
  go_enter Tryd.func107, Tryd.ntmps107
  go_wp2_with fail
  refine K.out.mono ?_
  rintro e w2 ⟨rfl, v', hb⟩
  have H2 := hid (HB.out.back hb)
  clear hb K HB
  go_wp2
  refine bodyPost_end (results_none rfl _ _ _) rfl ?_
  exact ⟨rfl, v', H2.out⟩
end Go.Proofs.YtmokfheckngfiaaDoor

/- Encode by Latin1 of numbers that are bytes; conditions: those told. -/
namespace Go.Proofs.YtmokfheckngfiaaDoor
open Go.RowKit
open Go.Lib

set_option maxRecDepth 100000 in
theorem scalar_low (r : Int) (w : World) (h : 0 ≤ r ∧ r ≤ 255) : Calls Tryd.prog 85 #[.int .i64 r] w fun e w' => e = .returned (.bool true) ∧ w = w' := by
  have K := hid (isHalf_any r w)
  have h1 : r ≤ 1114111 := by omega
  have h2 : decide (55296 ≤ r) = false := decide_eq_false (by omega)
  rw [h2] at K
  clear h2
  go_enter Tryd.func85, Tryd.ntmps85
  go_wp2_with fail
  refine K.out.mono ?_
  rintro e w1 ⟨rfl, rfl⟩
  go_wp2
  go_ret
  exact ⟨rfl, rfl⟩

theorem run_append_string_at {P : Program} (w : World) (t u ty e : TypeId) (i : TypeInfo) (ht : P.underlying t = some (.slice e)) (hu : P.underlying u = some .string) (hi : P.info? e = some i) (hz : i.zero = some (.int .u8 0))
    (hsize : i.size = 1) (hby : i.bytes = 1) (v : Value) (n : Nat) (xs : List Value) (hown : w.ownsRow 0 e 1 v n xs) (s : ByteArray) (h63 : n + s.size ≤ maxLen) (hbytes : n + s.size ≤ 140737488355328) :
    ∃ v' w', (Builtin.append_ #[t, u] ty #[v, .string s]).run P w = .ok v' w' ∧ w'.ownsRow 0 e 1 v' (n + s.size) (xs ++ strCells s) ∧ w.grownBy w' v.ownBlock ∧
      (v'.ownBlock = v.ownBlock ∨ ∃ g, v'.ownBlock = some g ∧ w.heap.size ≤ g) := by
  rcases hown.2 with ⟨rfl, rfl⟩ | ⟨g, cap, cur, rfl, _, hg, hnc, hcm, hcs, htake⟩
  · have hx : xs = [] := List.eq_nil_of_length_eq_zero (by simpa using hown.1)
    subst hx
    obtain ⟨v', w', hr, h2, h3, h4⟩ := run_append_own_string (P := P) w w.heap.size t u ty e i ht hu hi hz hsize hby _ _ _ (World.ownsRow_nil w w.heap.size e 1) s h63 hbytes (Nat.le_refl _)
    refine ⟨v', w', hr, ⟨h2.1, ?_⟩, h3, ?_⟩
    · rcases h2.2 with h | ⟨g, cap, cur, hv, _, hh, r⟩
      · exact .inl h
      · exact .inr ⟨g, cap, cur, hv, Nat.zero_le _, hh, r⟩
    · rcases h2.2 with ⟨rfl, _⟩ | ⟨g, cap, cur, rfl, hg, _⟩
      · exact .inl rfl
      · exact .inr ⟨g, rfl, hg⟩
  · obtain ⟨v', w', hr, h2, h3, h4⟩ := run_append_own_string (P := P) w 0 t u ty e i ht hu hi hz hsize hby _ _ _ hown s h63 hbytes (Nat.zero_le _)
    refine ⟨v', w', hr, h2, h3, ?_⟩
    by_cases hroom : n + s.size ≤ cap
    · have hcs' : cur.size = cap := by simpa using hcs
      have hr2 := run_append_room_string (P := P) w t u ty e i ht hu hi hsize g n cap cur hg s hroom (by omega)
      rw [hr] at hr2
      simp only [Result.ok.injEq] at hr2
      rw [hr2.1]
      exact .inl rfl
    · have holds : ∀ j u, xs[j]? = some u → w.cell? ((⟨g, 0, none⟩ : Addr).add j) = some u := hown.cells (g := g) rfl
      have hr2 := run_append_grow_string (P := P) w t u ty e i (.int .u8 0) ht hu hi hz ⟨g, 0, none⟩ n cap xs (by rw [hsize]; exact hown.1) holds s (by omega) (by unfold maxLen at h63; omega) (by rw [hby]; exact growslice_fits (by omega) (by omega))
      rw [hr] at hr2
      simp only [Result.ok.injEq] at hr2
      rw [hr2.1]
      exact .inr ⟨_, rfl, Nat.le_refl _⟩

theorem step_append_string {P : Program} (w : World) {ops : Array Oper} {o : Oper} {a : Act} {K : Act → World → Prop} {Q : Exit → Act → World → Prop} {E : Prop} (hgd : o.guard = none) (sl x : Operand) (t u : TypeId)
    (ho : o.op = .call { callee := .builtin .append, args := #[sl, x], argTypes := #[t, u] })
    (e : TypeId) (i : TypeInfo) (ht : P.underlying t = some (.slice e)) (hu : P.underlying u = some .string) (hi : P.info? e = some i) (hz : i.zero = some (.int .u8 0)) (hsize : i.size = 1) (hby : i.bytes = 1)
    (v : Value) (n : Nat) (xs : List Value) (hs : a.eval sl = v) (hown : w.ownsRow 0 e 1 v n xs) (s : ByteArray) (hx : a.eval x = .string s) (h63 : n + s.size ≤ maxLen) (hbytes : n + s.size ≤ 140737488355328)
    (h : ∀ v' w', w'.ownsRow 0 e 1 v' (n + s.size) (xs ++ strCells s) → w.grownBy w' v.ownBlock → (v'.ownBlock = v.ownBlock ∨ ∃ g, v'.ownBlock = some g ∧ w.heap.size ≤ g) → K (a.put o.dst v') w') :
    if Region.wanted o (yielded ops a.tmps) = true then Oper.wp P o a w K Q else E := by
  have hw : Region.wanted o (yielded ops a.tmps) = true := by simp [Region.wanted, hgd]
  rw [if_pos hw]
  obtain ⟨v', w', hr, h2, h3, h4⟩ := run_append_string_at (P := P) w t u o.type e i ht hu hi hz hsize hby v n xs hown s h63 hbytes
  unfold Oper.wp execOp
  simp only [ho, resolve, invoke, builtin, Sem.run_bind, Sem.run_pure, Result.andThen_ok, List.map_toArray, List.map_cons, List.map_nil, hs, hx, hr]
  exact h v' w' h2 h3 h4

def nums (s : ByteArray) : List Int := s.data.toList.map fun b => (b.toNat : Int)
theorem Ob.appS {P : Nat → Prop} {W0 wr w1 : World} {q : Nat} {v v' : Value} {o : List Int} {s : ByteArray} (h : Ob P W0 wr q v o) (hown : w1.ownsRow 0 5 1 v' (o.length + s.size) (encB o ++ strCells s)) (hg : wr.grownBy w1 v.ownBlock) (hat : v'.ownBlock = v.ownBlock ∨ ∃ g, v'.ownBlock = some g ∧ wr.heap.size ≤ g) : Ob P W0 (w1.setCell ⟨q, 0, none⟩ v') q v' (o ++ nums s) := by
  have hq := lt_of_block h.blk
  have key : w1.heap[q]? = wr.heap[q]? := hg.block q hq (fun e => h.ne e.symm)
  have ne' : v'.ownBlock ≠ some q := by
    rcases hat with e | ⟨g, e, hg⟩
    · rw [e]; exact h.ne
    · rw [e]
      intro z
      simp at z
      omega
  refine ⟨own_kept5 ?_ (fun g e => Below.heap_setCell _ _ _ _ (fun z => ne' (by rw [e, z]))), fun g e => ?_, block_set (key.trans h.blk) 0 v', (h.touch.grown hg (fun k e hk => ?_)).setCell (fun _ => h.at_) v', h.at_⟩
  · have e1 : (nums s).length = s.size := by unfold nums; rw [List.length_map, Array.length_toList]; rfl
    have e2 : encB (nums s) = strCells s := by unfold encB nums strCells; rw [List.map_map]; rfl
    rw [List.length_append, e1, encB, List.map_append]
    rw [← e2] at hown
    exact hown
  · rcases hat with z | ⟨g', z, hz⟩
    · exact h.new g (by rw [← z]; exact e)
    · rw [z] at e
      simp at e
      have := h.touch.size
      exact .inr (by omega)
  · rcases h.new k e with p | p
    · exact p
    · omega
theorem Ob.midS {P : Nat → Prop} {W0 wr w1 : World} {q : Nat} {v : Value} {o : List Int} (h : Ob P W0 wr q v o) (hg : wr.grownBy w1 v.ownBlock) : w1.cell? ⟨q, 0, none⟩ = some v ∧ ∀ i, w1.frozen? ⟨q, i, none⟩ = false := by
  have hq := lt_of_block h.blk
  have := (hg.block q hq (fun e => h.ne e.symm)).trans h.blk
  simp [World.cell?, World.frozen?, this]
theorem conv_own {w : World} {v : Value} {o : List Int} (h : w.ownsRow 0 5 1 v o.length (encB o)) : (convert 23 9 v).run Tryd.prog w = .ok (.string (strOfNums o)) w := by
  rcases h.2 with ⟨rfl, h0⟩ | ⟨g, cap, cur, rfl, hg, hh, rest⟩
  · obtain rfl := List.eq_nil_of_length_eq_zero h0
    rw [run_convert_bytes_string w 23 9 5 _ _ _ Tryd.underlying23 Tryd.underlying5 Tryd.underlying9]
    simp [Conv.bytesToString, strOfNums]
    rfl
  · refine run_convert_bytes_arg w 23 5 Tryd.underlying23 Tryd.underlying5 g 0 o.length cap o rfl (fun i hi => ?_) 9 Tryd.underlying9
    have := h.cells (g := g) rfl i (.int .u8 (o.getD i 0)) (by simp [encB, hi])
    rw [add_g] at this
    rwa [Nat.zero_add]
theorem Ob.start (w : World) : Ob (fun k => k = w.heap.size) (w.alloc (.cells #[.slice none 0 0] 23)) (w.alloc (.cells #[.slice none 0 0] 23)) w.heap.size (.slice none 0 0) [] :=
  ⟨by simpa [encB] using World.ownsRow_nil _ _ _ _, fun g hg => by simp [Value.ownBlock] at hg, block_new w _ 23, Touch.refl _ _, rfl⟩

end Go.Proofs.YtmokfheckngfiaaDoor
