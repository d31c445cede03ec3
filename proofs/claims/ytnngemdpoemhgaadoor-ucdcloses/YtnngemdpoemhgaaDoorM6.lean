/- Texts of this proof, one behind the other: what each says stands ahead of it. -/
import Derived.Test.YtnngemdpoemhgaaDoorM2
import Derived.Test.YtnngemdpoemhgaaDoorM0
import Derived.Test.YtnngemdpoemhgaaDoorM5
/- made and speaks of the laws on sets; conditions: the ranges fit into memory. -/
namespace Go.Proofs.YtnngemdpoemhgaaDoor
open Go.RowKit

/-- Ranges of a type in a list of the call's own. -/
structure OwE (W0 wr : World) (e : TypeId) (v : Value) (s : List R2) : Prop where
  own : wr.ownsRow 0 e 2 v s.length (flatR s)
  new : ∀ g, v.ownBlock = some g → W0.heap.size ≤ g
  touch : Touch (fun _ => False) W0 wr

theorem OwE.ow {W0 wr : World} {v : Value} {s : List R2} (h : OwE W0 wr 33 v s) (ty : TypeId) : Ow W0 wr ty v s := ⟨h.own, h.new, h.touch⟩
theorem OwE.nil (w : World) (e : TypeId) : OwE w w e (.slice none 0 0) [] := ⟨by simpa [flatR] using World.ownsRow_nil _ _ _ _, by intro g h; simp [Value.ownBlock] at h, Touch.refl _ _⟩
theorem OwE.rg {W0 wr : World} {e : TypeId} {v : Value} {s : List R2} (h : OwE W0 wr e v s) : ∃ a c, v = .slice a s.length c ∧ Rg wr a s := own_rg h.own
theorem OwE.still {W0 wr w' : World} {e : TypeId} {v : Value} {s : List R2} (h : OwE W0 wr e v s) (tc : Touch (fun _ => False) wr w') : OwE W0 w' e v s := by
  refine ⟨⟨h.own.1, ?_⟩, h.new, h.touch.trans tc (fun _ _ e => e)⟩
  rcases h.own.2 with h0 | ⟨g, cap, cur, hv, hg, hh, rest⟩
  · exact .inl h0
  · exact .inr ⟨g, cap, cur, hv, hg, (tc.block g (lt_of_block hh) id).trans hh, rest⟩
theorem OwE.more {W0 wr w1 : World} {e : TypeId} {v v' : Value} {s : List R2} {xs : List R2} {o : Obj} (h : OwE W0 wr e v s) (hown : w1.ownsRow 0 e 2 v' (s.length + xs.length) (flatR s ++ flatR xs)) (hg : (wr.alloc o).grownBy w1 v.ownBlock) (hat : v'.ownBlock = v.ownBlock ∨ v'.ownBlock = some (wr.heap.size + 1)) : OwE W0 w1 e v' (s ++ xs) := by
  refine ⟨?_, fun g hg' => ?_, (h.touch.alloc o).grown hg (fun k e hk => by have := h.new k e; omega)⟩
  · rw [List.length_append, flatR_append]
    exact hown
  · rcases hat with e | e
    · exact h.new g (by rw [← e]; exact hg')
    · rw [e] at hg'
      simp at hg'
      have := h.touch.size
      omega
/-- A list of another type stays. -/
theorem OwE.beside {W0 wr w1 : World} {e e' : TypeId} {v v4 : Value} {s s4 : List R2} {o : Obj} (h : OwE W0 wr e v s) (h4 : OwE W0 wr e' v4 s4) (hne : e ≠ e') (hg : (wr.alloc o).grownBy w1 v4.ownBlock) : OwE W0 w1 e v s := by
  refine ⟨⟨h.own.1, ?_⟩, h.new, (h.touch.alloc o).grown hg (fun k e hk => by have := h4.new k e; omega)⟩
  rcases h.own.2 with h0 | ⟨g, cap, cur, hv, hg', hh, rest⟩
  · exact .inl h0
  · have hlt := lt_of_block hh
    refine .inr ⟨g, cap, cur, hv, hg', ?_, rest⟩
    rw [hg.block g (by simp; omega) (fun k => ?_), Below.heap_alloc _ _ _ hlt]
    · exact hh
    · rcases h4.own.2 with ⟨rfl, _⟩ | ⟨g4, cap4, cur4, rfl, _, hh4, _⟩
      · simp [Value.ownBlock] at k
      · simp [Value.ownBlock] at k
        subst k
        rw [hh] at hh4
        simp at hh4
        exact hne hh4.2

end Go.Proofs.YtnngemdpoemhgaaDoor

/- Grow of no list, and Concat of two lists of ranges; condition: they fit into memory. -/
namespace Go.Proofs.YtnngemdpoemhgaaDoor
open Go.RowKit

theorem add_o (b o j : Nat) : (⟨b, o, none⟩ : Addr).add j = ⟨b, o + j, none⟩ := by
  unfold Addr.add
  split
  · rename_i h; rw [h, Nat.add_zero]
  · rfl

theorem rg_cells {w : World} {b o : Nat} {l : List R2} (h : ∀ i (h : i < l.length), w.cell? ⟨b, o + i * 2, none⟩ = some (.int .i64 (l[i]).1) ∧ w.cell? ⟨b, o + i * 2 + 1, none⟩ = some (.int .i64 (l[i]).2)) :
    ∀ j u, (flatR l)[j]? = some u → w.cell? ((⟨b, o, none⟩ : Addr).add j) = some u := by
  intro j u hj
  have hlt : j < (flatR l).length := by
    rcases Nat.lt_or_ge j (flatR l).length with k | k
    · exact k
    · rw [List.getElem?_eq_none k] at hj; cases hj
  rw [length_flatR] at hlt
  rw [add_o]
  have hi : j / 2 < l.length := by omega
  rcases (show j % 2 = 0 ∨ j % 2 = 1 by omega) with h0 | h0
  · have := flatR_get0 l (j / 2) hi
    rw [show 2 * (j / 2) = j by omega, hj] at this
    rw [this, show o + j = o + j / 2 * 2 by omega]
    exact (h _ hi).1
  · have := flatR_get1 l (j / 2) hi
    rw [show 2 * (j / 2) + 1 = j by omega, hj] at this
    rw [this, show o + j = o + j / 2 * 2 + 1 by omega]
    exact (h _ hi).2

theorem run_append_none (w : World) (ty : TypeId) (v : Value) (n : Nat) (xs : List Value) (hown : w.ownsRow 0 33 2 v n xs) (a : Option Addr) (c : Nat) :
    (Builtin.append_ #[27, 27] ty #[v, .slice a 0 c]).run Tryd.prog w = .ok v w := by
  obtain ⟨i0, hin, hz0, hz1, hz2⟩ := info_parts info33
  have hld : ∀ ad, (loadCells ad 0).run Tryd.prog w = .ok #[] w := fun ad => rfl
  rcases hown.2 with ⟨rfl, rfl⟩ | ⟨g, cap, cur, rfl, hbg, hg, hnc, hcm, hcs, htake⟩ <;> cases a <;>
    simp [Builtin.append_, run_underlying Tryd.underlying27, sizeOf, typeInfo, Builtin.lenOf, Builtin.firstCells, storeCells, *]

theorem run_append_rg (w : World) (ty : TypeId) (v : Value) (n : Nat) (xs : List Value) (hown : w.ownsRow 0 33 2 v n xs) (a : Option Addr) (c : Nat) (l : List R2) (hl : Rg w a l) (hb : (n + l.length) * 16 ≤ 140737488355328) :
    ∃ v' w', (Builtin.append_ #[27, 27] ty #[v, .slice a l.length c]).run Tryd.prog w = .ok v' w' ∧ w'.ownsRow 0 33 2 v' (n + l.length) (xs ++ flatR l) ∧ w.grownBy w' v.ownBlock ∧ (v'.ownBlock = v.ownBlock ∨ v'.ownBlock = some w.heap.size) := by
  obtain ⟨i0, hin, hz0, hz1, hz2⟩ := info_parts info33
  rcases hl with rfl | ⟨b, o, rfl, _, hc⟩
  · refine ⟨v, w, run_append_none w ty v n xs hown a c, ?_, ⟨rfl, rfl, rfl, Nat.le_refl _, fun _ _ _ => rfl⟩, .inl rfl⟩
    rw [show flatR [] = [] from rfl, List.append_nil]
    exact hown
  · obtain ⟨v', w', h1, h2, h3, _, h4⟩ := run_append_own_at (P := Tryd.prog) w 0 27 ty 33 i0 (.agg #[.int .i64 0, .int .i64 0]) 2 16 Tryd.underlying27 hin hz0 hz1 hz2 rfl (by decide) v n xs hown ⟨b, o, none⟩ l.length c (flatR l) (length_flatR l) (rg_cells hc) (flatR_one l) (by unfold maxLen; omega) hb (Nat.zero_le _)
    exact ⟨v', w', h1, h2, h3, h4⟩

theorem wpList_append_rg (w : World) {ops : Array Oper} {rest : List Oper} {o : Oper} {a : Act} {Q : Exit → Act → World → Prop} (hgd : o.guard = none) (s x : Operand)
    (ho : o.op = .call { callee := .builtin .append, args := #[s, x], argTypes := #[27, 27] })
    (v : Value) (n : Nat) (xs : List Value) (hs : a.eval s = v) (hown : w.ownsRow 0 33 2 v n xs) (ad : Option Addr) (c : Nat) (l : List R2) (hx : a.eval x = .slice ad l.length c) (hl : Rg w ad l) (hb : (n + l.length) * 16 ≤ 140737488355328)
    (h : ∀ v' w', w'.ownsRow 0 33 2 v' (n + l.length) (xs ++ flatR l) → w.grownBy w' v.ownBlock → (v'.ownBlock = v.ownBlock ∨ v'.ownBlock = some w.heap.size) → wpList Tryd.prog ops Q rest (a.put o.dst v') w') : wpList Tryd.prog ops Q (o :: rest) a w := by
  refine wpList_plain hgd fun K hK => ?_
  obtain ⟨v', w', hr, h2, h3, h4⟩ := run_append_rg w o.type v n xs hown ad c l hl hb
  unfold Oper.wp execOp
  simp only [ho, resolve, invoke, builtin, Sem.run_bind, Sem.run_pure, Result.andThen_ok, List.map_toArray, List.map_cons, List.map_nil, hs, hx, hr]
  exact hK _ _ (h v' w' h2 h3 h4)

/-! ### Grow of nil -/
theorem run_room_nil (w : World) (ty : TypeId) (n : Nat) (h0 : 0 < n) (hb : n * 16 ≤ 140737488355328) :
    (Builtin.append_ #[27, 3] ty #[.slice none 0 0, .int .i64 n]).run Tryd.prog w =
      .ok (.slice (some ⟨w.heap.size, 0, none⟩) n (grownCap w n 0 33))
        (w.drew.alloc (.cells (Builtin.zeroCells #[.int .i64 0, .int .i64 0] n ++ Builtin.zeroCells #[.int .i64 0, .int .i64 0] (grownCap w n 0 33 - n)) 33)) := by
  obtain ⟨i0, hin, hz0, hz1, hz2⟩ := info_parts info33
  have h48 : Builtin.nextslicecap n 0 * 16 ≤ 281474976710656 := growslice_fits (by omega) (by omega)
  have h48' : ¬ (281474976710656 < Builtin.nextslicecap n 0 * 16) := by omega
  have hwr : IntKind.i64.wrap (n : Int) = n := by rw [IntKind.wrap_i64]; omega
  have hn0 : ¬ n = 0 := by omega
  have hn1 : ¬ ((n : Int) < 0) := by omega
  have hn2 : ¬ (281474976710656 < (n : Int) * 16) := by omega
  have hn3 : ¬ (9223372036854775807 < (n : Int)) := by omega
  have hn4 : ¬ (n * 2 = 0) := by omega
  have hfo : (Builtin.firstCells 2 0 (.slice none 0 0)).run Tryd.prog w.drew = .ok #[] w.drew := by simp [Builtin.firstCells]
  simp [Builtin.append_, run_underlying Tryd.underlying27, run_underlying Tryd.underlying3, sizeOf, typeInfo, zeroValue, hin, hz0, hz1, hz2, h48', Question.forced, hfo, newRow, grownCap, asInt, asIntOf, hwr, Value.cells, hn0, hn1, hn2, hn3]
  intro h
  exact absurd h hn4

theorem wpList_room_nil (w : World) {ops : Array Oper} {rest : List Oper} {o : Oper} {a : Act} {Q : Exit → Act → World → Prop} (hgd : o.guard = none) (s x : Operand)
    (ho : o.op = .call { callee := .builtin .append, args := #[s, x], argTypes := #[27, 3] }) (n : Nat) (hs : a.eval s = .slice none 0 0) (hx : a.eval x = .int .i64 n) (h0 : 0 < n) (hb : n * 16 ≤ 140737488355328)
    (h : ∀ cap w', n ≤ cap → w'.ownsRow 0 33 2 (.slice (some ⟨w.heap.size, 0, none⟩) 0 cap) 0 [] → Touch (fun _ => False) w w' → wpList Tryd.prog ops Q rest (a.put o.dst (.slice (some ⟨w.heap.size, 0, none⟩) n cap)) w') : wpList Tryd.prog ops Q (o :: rest) a w := by
  refine wpList_plain hgd fun K hK => ?_
  have hr := run_room_nil w o.type n h0 hb
  have hge := grownCap_ge w n 0 33
  unfold Oper.wp execOp
  simp only [ho, resolve, invoke, builtin, Sem.run_bind, Sem.run_pure, Result.andThen_ok, List.map_toArray, List.map_cons, List.map_nil, hs, hx, hr]
  refine hK _ _ (h (grownCap w n 0 33) _ hge ⟨rfl, .inr ⟨w.heap.size, _, _, rfl, Nat.zero_le _, heap_alloc_new w.drew _, Nat.zero_le _, grownCap_le_maxLen w n 0 33 (by unfold maxLen; omega), ?_, rfl⟩⟩ ((Touch.refl _ w).drew.alloc _))
  simp only [Array.size_append, size_zeroCells]
  have : (#[Value.int IntKind.i64 0, .int .i64 0] : Array Value).size = 2 := rfl
  rw [this]
  omega

set_option maxRecDepth 100000 in
set_option maxHeartbeats 4000000 in
theorem grow_any (n : Nat) (w : World) (hb : n * 16 ≤ 140737488355328) :
    Calls Tryd.prog 52 #[.slice none 0 0, .int .i64 n] w fun e w' => ∃ a cap, e = .returned (.slice a 0 cap) ∧ w'.ownsRow 0 33 2 (.slice a 0 cap) 0 [] ∧ (∀ g, (Value.slice a 0 cap).ownBlock = some g → w.heap.size ≤ g) ∧ Touch (fun _ => False) w w' := by
  go_enter Tryd.func52, Tryd.ntmps52
  by_cases h0 : n = 0
  · subst h0
    go_wp2
    go_ret
    exact ⟨none, 0, rfl, World.ownsRow_nil _ _ _ _, by intro g h; simp [Value.ownBlock] at h, Touch.refl _ _⟩
  · have h1 : (0 : Int) < (n : Int) := by omega
    go_wp2_with (at_builtin; refine wpList_room_nil _ rfl _ _ rfl n rfl rfl (by omega) hb ?_)
    intro cap w1 hc hown tc
    have OW := hid hown
    have TC := hid tc
    clear hown tc
    have h2 : (0 : Int) < (cap : Int) := by omega
    go_wp2
    go_ret
    exact ⟨_, _, rfl, OW.out, by intro g h; simp [Value.ownBlock] at h; omega, TC.out⟩

def tot (k n m : Nat) : Nat := if k = 0 then 0 else if k = 1 then n else n + m
def pre2 (k : Nat) (s t : List R2) : List R2 := if k = 0 then [] else if k = 1 then s else s ++ t

set_option maxRecDepth 100000 in
set_option maxHeartbeats 4000000 in
theorem concat_any (bb : Nat) (a1 a2 : Option Addr) (c1 c2 : Nat) (s t : List R2) (w : World) (hb0 : bb < w.heap.size) (g0 : w.cell? ⟨bb, 0, none⟩ = some (.slice a1 s.length c1)) (g1 : w.cell? ⟨bb, 1, none⟩ = some (.slice a2 t.length c2))
    (h1 : Rg w a1 s) (h2 : Rg w a2 t) (hb : (s.length + t.length) * 16 ≤ 140737488355328) :
    Calls Tryd.prog 41 #[.slice (some ⟨bb, 0, none⟩) 2 2] w fun e w' => ∃ v, e = .returned v ∧ w'.ownsRow 0 33 2 v (s ++ t).length (flatR (s ++ t)) ∧ (∀ g, v.ownBlock = some g → w.heap.size ≤ g) ∧ Touch (fun _ => False) w w' := by
  have H1 := hid h1
  have H2 := hid h2
  have G0 := hid g0
  have G1 := hid g1
  clear h1 h2
  go_enter Tryd.func41, Tryd.ntmps41
  go_wp2_with fail
  go_loopg [3, 11] 2 (fun gk sz i wr => ∃ k : Nat, k + gk = 2 ∧ i = .int .i64 (k : Nat) ∧ sz = .int .i64 (tot k s.length t.length : Nat) ∧ w = wr)
  case atStart => exact ⟨0, rfl, rfl, rfl, rfl⟩
  case round =>
    obtain ⟨k, hk, rfl, rfl, rfl⟩ := hrel
    rcases (show k = 0 ∨ k = 1 ∨ k = 2 by omega) with rfl | rfl | rfl
    · simp only [show tot 0 s.length t.length = 0 from rfl]
      go_wp2_with fail
      go_roundg (gk - 1)
      case measure => omega
      case rel => exact ⟨1, by omega, by go_num, by go_num, rfl⟩
    · simp only [show tot 1 s.length t.length = s.length from rfl]
      go_wp2_with fail
      go_roundg (gk - 1)
      case measure => omega
      case rel => exact ⟨2, by omega, by go_num, by go_num, rfl⟩
    · simp only [show tot 2 s.length t.length = s.length + t.length from rfl]
      have K := hid (grow_any (s.length + t.length) w hb)
      clear g0 g1
      go_wp2_with fail
      refine K.out.mono ?_
      rintro e w1 ⟨av, cv, rfl, hown, hnew, tc⟩
      have OW := hid hown
      have NW := hid hnew
      have TC := hid tc
      clear hown hnew tc K
      go_wp2_with fail
      go_loopg [6, 27] 2 (fun gk v i wr => ∃ k : Nat, k + gk = 2 ∧ i = .int .i64 (k : Nat) ∧ wr.ownsRow 0 33 2 v (pre2 k s t).length (flatR (pre2 k s t)) ∧ (∀ g, v.ownBlock = some g → w.heap.size ≤ g) ∧ Touch (fun _ => False) w wr)
      case atStart => exact ⟨0, rfl, rfl, OW.out, NW.out, TC.out⟩
      case round =>
        obtain ⟨k, hk, rfl, how, hnw, htc⟩ := hrel
        have OW2 := hid how
        have NW2 := hid hnw
        have TC2 := hid htc
        have R1 := hid (H1.out.new htc)
        have R2 := hid (H2.out.new htc)
        have g0 : wr.cell? ⟨bb, 0, none⟩ = some (.slice a1 s.length c1) := (htc.cell (p := ⟨bb, 0, none⟩) hb0 id).trans G0.out
        have g1 : wr.cell? ⟨bb, 1, none⟩ = some (.slice a2 t.length c2) := (htc.cell (p := ⟨bb, 1, none⟩) hb0 id).trans G1.out
        obtain ⟨a3, c3, hv⟩ := own_shape how
        subst hv
        clear how hnw htc
        rcases (show k = 0 ∨ k = 1 ∨ k = 2 by omega) with rfl | rfl | rfl
        · simp only [show pre2 0 s t = [] from rfl] at OW2 NW2 ⊢
          go_wp2_with (at_builtin; refine wpList_append_rg _ rfl _ _ rfl _ 0 [] rfl OW2.out a1 c1 s rfl R1.out (by omega) ?_)
          intro v' w4 hown hgrow hat
          have OW3 := hid hown
          have HG := hid hgrow
          have HA := hid hat
          clear hown hgrow hat
          go_wp2
          go_roundg (gk - 1)
          case measure => omega
          case rel =>
            refine ⟨1, by omega, by go_num, ?_, ?_, ?_⟩
            · exact OW3.out
            · intro g hg
              rcases HA.out with e | e
              · rw [e] at hg
                exact NW2.out g hg
              · rw [e] at hg
                simp at hg
                have := TC2.out.size
                omega
            · exact TC2.out.grown HG.out (fun k e hk => by have := NW2.out k e; omega)
        · simp only [show pre2 1 s t = s from rfl] at OW2 NW2 ⊢
          go_wp2_with (at_builtin; refine wpList_append_rg _ rfl _ _ rfl _ _ _ rfl OW2.out a2 c2 t rfl R2.out (by omega) ?_)
          intro v' w4 hown hgrow hat
          have OW3 := hid hown
          have HG := hid hgrow
          have HA := hid hat
          clear hown hgrow hat
          go_wp2
          go_roundg (gk - 1)
          case measure => omega
          case rel =>
            refine ⟨2, by omega, by go_num, ?_, ?_, ?_⟩
            · have := OW3.out
              rw [show pre2 2 s t = s ++ t from rfl, List.length_append, flatR_append]
              exact this
            · intro g hg
              rcases HA.out with e | e
              · rw [e] at hg
                exact NW2.out g hg
              · rw [e] at hg
                simp at hg
                have := TC2.out.size
                omega
            · exact TC2.out.grown HG.out (fun k e hk => by have := NW2.out k e; omega)
        · simp only [show pre2 2 s t = s ++ t from rfl] at OW2 NW2 ⊢
          go_wp2
          go_ret
          exact ⟨_, rfl, OW2.out, NW2.out, TC2.out⟩
end Go.Proofs.YtnngemdpoemhgaaDoor

/- Or of two sets: what it answers; no condition beside those told. -/
namespace Go.Proofs.YtnngemdpoemhgaaDoor
open Go.RowKit

set_option maxRecDepth 100000 in
set_option maxHeartbeats 4000000 in
theorem or_says (a1 a2 : Option Addr) (c1 c2 : Nat) (s t : List R2) (w : World) (h1 : Rg w a1 s) (h2 : Rg w a2 t) (hs : Canon s) (ht : Canon t) :
    Calls Tryd.prog 20 #[.slice a1 s.length c1, .slice a2 t.length c2] w fun e w' => ∃ v n, e = .returned v ∧ Canon n ∧ (∀ x, In x n ↔ In x s ∨ In x t) ∧ OwE w w' 33 v n := by
  have l1 := canon_len hs
  have l2 := canon_len ht
  have H1 := hid h1
  have H2 := hid h2
  have HS := hid hs
  have HT := hid ht
  have T0 := hid ((Touch.refl (fun _ => False) w).alloc (.cells #[.slice a1 s.length c1, .slice a2 t.length c2] 27))
  have B := hid (show (w.alloc (.cells #[.slice a1 s.length c1, .slice a2 t.length c2] 27)).heap[w.heap.size]? = some (.cells #[.slice a1 s.length c1, .slice a2 t.length c2] 27 (0, 0)) from by show (w.heap.push _)[_]? = _; simp)
  clear h1 h2 hs ht
  go_enter Tryd.func20, Tryd.ntmps20
  go_wp2_with fail
  generalize (w.alloc (.cells #[.slice a1 s.length c1, .slice a2 t.length c2] 27)) = w1 at *
  refine (concat_any w.heap.size a1 a2 c1 c2 s t w1 (lt_of_block B.out) (cell_two0 B.out) (cell_two1 B.out) (H1.out.new T0.out) (H2.out.new T0.out) (by omega)).mono ?_
  rintro e w2 ⟨v, rfl, hown, hnew, tc⟩
  have T2 := hid (T0.out.trans tc (fun _ _ e => e))
  have hlen : (s ++ t).length = s.length + t.length := List.length_append
  obtain ⟨u, hu⟩ : ∃ u, u = s ++ t := ⟨_, rfl⟩
  rw [← hu] at hlen hown
  have HU := hid hu
  clear hu
  obtain ⟨a3, c3, hv, hrg⟩ := own_rg hown
  subst hv
  have K := hid (of_says a3 c3 u w2 hrg (by omega))
  clear hown hnew tc hrg hlen
  go_wp2_with fail
  refine K.out.mono ?_
  rintro e w3 ⟨v, n, rfl, hcn, hin, ow⟩
  have OW := hid ow
  have HCN := hid hcn
  have HIN := hid hin
  obtain ⟨a4, c4, hv⟩ := own_shape ow.own
  subst hv
  clear ow hcn hin K
  go_wp2
  go_ret
  refine ⟨_, n, rfl, HCN.out, fun x => ?_, ⟨OW.out.own, fun g e => Nat.le_trans T2.out.size (OW.out.new g e), T2.out.trans OW.out.touch (fun _ _ e => e)⟩⟩
  rw [HIN.out x, HU.out, in_append]
  refine ⟨fun h => h.2, fun h => ⟨?_, h⟩⟩
  rcases h with ⟨r, hr, q1, q2⟩ | ⟨r, hr, q1, q2⟩
  · have := HS.out.in_ r hr
    unfold inB at this
    omega
  · have := HT.out.in_ r hr
    unfold inB at this
    omega
end Go.Proofs.YtnngemdpoemhgaaDoor
