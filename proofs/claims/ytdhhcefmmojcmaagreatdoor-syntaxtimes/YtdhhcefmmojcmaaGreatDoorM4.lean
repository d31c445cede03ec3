/- Texts of this proof, one behind the other: what each says stands ahead of it. -/
import Derived.Test.YtdhhcefmmojcmaaGreatDoorM0
import Derived.Test.YtdhhcefmmojcmaaGreatDoorM3
/- Grow of no list, and Concat of two lists of ranges; condition: they fit into memory. -/
namespace Go.Proofs.YtdhhcefmmojcmaaGreatDoor
open Go.RowKit

theorem add_o (b o j : Nat) : (⟨b, o, none⟩ : Addr).add j = ⟨b, o + j, none⟩ := by
  unfold Addr.add
  split
  · rename_i h; rw [h, Nat.add_zero]
  · rfl

theorem rg_cells {w : World} {b o : Nat} {l : List R2} (h : ∀ i (h : i < l.length), w.cell? ⟨b, o + i * 2, none⟩ = some (.int .i64 (l[i]).1) ∧ w.cell? ⟨b, o + i * 2 + 1, none⟩ = some (.int .i64 (l[i]).2)) :
    ∀ j u, (flatR l)[j]? = some u → w.cell? ((⟨b, o, none⟩ : Addr).add j) = some u := by
  intro j u hj
  have hlt : j < (flatR l).length := by
    rcases Nat.lt_or_ge j (flatR l).length with k | k
    · exact k
    · rw [List.getElem?_eq_none k] at hj; cases hj
  rw [length_flatR] at hlt
  rw [add_o]
  have hi : j / 2 < l.length := by omega
  rcases (show j % 2 = 0 ∨ j % 2 = 1 by omega) with h0 | h0
  · have := flatR_get0 l (j / 2) hi
    rw [show 2 * (j / 2) = j by omega, hj] at this
    rw [this, show o + j = o + j / 2 * 2 by omega]
    exact (h _ hi).1
  · have := flatR_get1 l (j / 2) hi
    rw [show 2 * (j / 2) + 1 = j by omega, hj] at this
    rw [this, show o + j = o + j / 2 * 2 + 1 by omega]
    exact (h _ hi).2

theorem run_append_none (w : World) (ty : TypeId) (v : Value) (n : Nat) (xs : List Value) (hown : w.ownsRow 0 60 2 v n xs) (a : Option Addr) (c : Nat) :
    (Builtin.append_ #[25, 25] ty #[v, .slice a 0 c]).run Tryz.prog w = .ok v w := by
  obtain ⟨i0, hin, hz0, hz1, hz2⟩ := info_parts info33
  have hld : ∀ ad, (loadCells ad 0).run Tryz.prog w = .ok #[] w := fun ad => rfl
  rcases hown.2 with ⟨rfl, rfl⟩ | ⟨g, cap, cur, rfl, hbg, hg, hnc, hcm, hcs, htake⟩ <;> cases a <;>
    simp [Builtin.append_, run_underlying Tryz.underlying25, sizeOf, typeInfo, Builtin.lenOf, Builtin.firstCells, storeCells, *]

theorem run_append_rg (w : World) (ty : TypeId) (v : Value) (n : Nat) (xs : List Value) (hown : w.ownsRow 0 60 2 v n xs) (a : Option Addr) (c : Nat) (l : List R2) (hl : Rg w a l) (hb : (n + l.length) * 16 ≤ 140737488355328) :
    ∃ v' w', (Builtin.append_ #[25, 25] ty #[v, .slice a l.length c]).run Tryz.prog w = .ok v' w' ∧ w'.ownsRow 0 60 2 v' (n + l.length) (xs ++ flatR l) ∧ w.grownBy w' v.ownBlock ∧ (v'.ownBlock = v.ownBlock ∨ v'.ownBlock = some w.heap.size) := by
  obtain ⟨i0, hin, hz0, hz1, hz2⟩ := info_parts info33
  rcases hl with rfl | ⟨b, o, rfl, _, hc⟩
  · refine ⟨v, w, run_append_none w ty v n xs hown a c, ?_, ⟨rfl, rfl, rfl, Nat.le_refl _, fun _ _ _ => rfl⟩, .inl rfl⟩
    rw [show flatR [] = [] from rfl, List.append_nil]
    exact hown
  · obtain ⟨v', w', h1, h2, h3, _, h4⟩ := run_append_own_at (P := Tryz.prog) w 0 25 ty 60 i0 (.agg #[.int .i64 0, .int .i64 0]) 2 16 Tryz.underlying25 hin hz0 hz1 hz2 rfl (by decide) v n xs hown ⟨b, o, none⟩ l.length c (flatR l) (length_flatR l) (rg_cells hc) (flatR_one l) (by unfold maxLen; omega) hb (Nat.zero_le _)
    exact ⟨v', w', h1, h2, h3, h4⟩

theorem wpList_append_rg (w : World) {ops : Array Oper} {rest : List Oper} {o : Oper} {a : Act} {Q : Exit → Act → World → Prop} (hgd : o.guard = none) (s x : Operand)
    (ho : o.op = .call { callee := .builtin .append, args := #[s, x], argTypes := #[25, 25] })
    (v : Value) (n : Nat) (xs : List Value) (hs : a.eval s = v) (hown : w.ownsRow 0 60 2 v n xs) (ad : Option Addr) (c : Nat) (l : List R2) (hx : a.eval x = .slice ad l.length c) (hl : Rg w ad l) (hb : (n + l.length) * 16 ≤ 140737488355328)
    (h : ∀ v' w', w'.ownsRow 0 60 2 v' (n + l.length) (xs ++ flatR l) → w.grownBy w' v.ownBlock → (v'.ownBlock = v.ownBlock ∨ v'.ownBlock = some w.heap.size) → wpList Tryz.prog ops Q rest (a.put o.dst v') w') : wpList Tryz.prog ops Q (o :: rest) a w := by
  refine wpList_plain hgd fun K hK => ?_
  obtain ⟨v', w', hr, h2, h3, h4⟩ := run_append_rg w o.type v n xs hown ad c l hl hb
  unfold Oper.wp execOp
  simp only [ho, resolve, invoke, builtin, Sem.run_bind, Sem.run_pure, Result.andThen_ok, List.map_toArray, List.map_cons, List.map_nil, hs, hx, hr]
  exact hK _ _ (h v' w' h2 h3 h4)

/-! ### Grow of nil -/
theorem run_room_nil (w : World) (ty : TypeId) (n : Nat) (h0 : 0 < n) (hb : n * 16 ≤ 140737488355328) :
    (Builtin.append_ #[25, 3] ty #[.slice none 0 0, .int .i64 n]).run Tryz.prog w =
      .ok (.slice (some ⟨w.heap.size, 0, none⟩) n (grownCap w n 0 60))
        (w.drew.alloc (.cells (Builtin.zeroCells #[.int .i64 0, .int .i64 0] n ++ Builtin.zeroCells #[.int .i64 0, .int .i64 0] (grownCap w n 0 60 - n)) 60)) := by
  obtain ⟨i0, hin, hz0, hz1, hz2⟩ := info_parts info33
  have h48 : Builtin.nextslicecap n 0 * 16 ≤ 281474976710656 := growslice_fits (by omega) (by omega)
  have h48' : ¬ (281474976710656 < Builtin.nextslicecap n 0 * 16) := by omega
  have hwr : IntKind.i64.wrap (n : Int) = n := by rw [IntKind.wrap_i64]; omega
  have hn0 : ¬ n = 0 := by omega
  have hn1 : ¬ ((n : Int) < 0) := by omega
  have hn2 : ¬ (281474976710656 < (n : Int) * 16) := by omega
  have hn3 : ¬ (9223372036854775807 < (n : Int)) := by omega
  have hn4 : ¬ (n * 2 = 0) := by omega
  have hfo : (Builtin.firstCells 2 0 (.slice none 0 0)).run Tryz.prog w.drew = .ok #[] w.drew := by simp [Builtin.firstCells]
  simp [Builtin.append_, run_underlying Tryz.underlying25, run_underlying Tryz.underlying3, sizeOf, typeInfo, zeroValue, hin, hz0, hz1, hz2, h48', Question.forced, hfo, newRow, grownCap, asInt, asIntOf, hwr, Value.cells, hn0, hn1, hn2, hn3]
  intro h
  exact absurd h hn4

theorem wpList_room_nil (w : World) {ops : Array Oper} {rest : List Oper} {o : Oper} {a : Act} {Q : Exit → Act → World → Prop} (hgd : o.guard = none) (s x : Operand)
    (ho : o.op = .call { callee := .builtin .append, args := #[s, x], argTypes := #[25, 3] }) (n : Nat) (hs : a.eval s = .slice none 0 0) (hx : a.eval x = .int .i64 n) (h0 : 0 < n) (hb : n * 16 ≤ 140737488355328)
    (h : ∀ cap w', n ≤ cap → w'.ownsRow 0 60 2 (.slice (some ⟨w.heap.size, 0, none⟩) 0 cap) 0 [] → Touch (fun _ => False) w w' → wpList Tryz.prog ops Q rest (a.put o.dst (.slice (some ⟨w.heap.size, 0, none⟩) n cap)) w') : wpList Tryz.prog ops Q (o :: rest) a w := by
  refine wpList_plain hgd fun K hK => ?_
  have hr := run_room_nil w o.type n h0 hb
  have hge := grownCap_ge w n 0 60
  unfold Oper.wp execOp
  simp only [ho, resolve, invoke, builtin, Sem.run_bind, Sem.run_pure, Result.andThen_ok, List.map_toArray, List.map_cons, List.map_nil, hs, hx, hr]
  refine hK _ _ (h (grownCap w n 0 60) _ hge ⟨rfl, .inr ⟨w.heap.size, _, _, rfl, Nat.zero_le _, heap_alloc_new w.drew _, Nat.zero_le _, grownCap_le_maxLen w n 0 60 (by unfold maxLen; omega), ?_, rfl⟩⟩ ((Touch.refl _ w).drew.alloc _))
  simp only [Array.size_append, size_zeroCells]
  have : (#[Value.int IntKind.i64 0, .int .i64 0] : Array Value).size = 2 := rfl
  rw [this]
  omega

set_option maxRecDepth 100000 in
set_option maxHeartbeats 4000000 in
theorem grow_any (n : Nat) (w : World) (hb : n * 16 ≤ 140737488355328) :
    Calls Tryz.prog 54 #[.slice none 0 0, .int .i64 n] w fun e w' => ∃ a cap, e = .returned (.slice a 0 cap) ∧ w'.ownsRow 0 60 2 (.slice a 0 cap) 0 [] ∧ (∀ g, (Value.slice a 0 cap).ownBlock = some g → w.heap.size ≤ g) ∧ Touch (fun _ => False) w w' := by
  go_enter Tryz.func54, Tryz.ntmps54
  by_cases h0 : n = 0
  · subst h0
    go_wp2
    go_ret
    exact ⟨none, 0, rfl, World.ownsRow_nil _ _ _ _, by intro g h; simp [Value.ownBlock] at h, Touch.refl _ _⟩
  · have h1 : (0 : Int) < (n : Int) := by omega
    go_wp2_with (at_builtin; refine wpList_room_nil _ rfl _ _ rfl n rfl rfl (by omega) hb ?_)
    intro cap w1 hc hown tc
    have OW := hid hown
    have TC := hid tc
    clear hown tc
    have h2 : (0 : Int) < (cap : Int) := by omega
    go_wp2
    go_ret
    exact ⟨_, _, rfl, OW.out, by intro g h; simp [Value.ownBlock] at h; omega, TC.out⟩

def tot (k n m : Nat) : Nat := if k = 0 then 0 else if k = 1 then n else n + m
def pre2 (k : Nat) (s t : List R2) : List R2 := if k = 0 then [] else if k = 1 then s else s ++ t

set_option maxRecDepth 100000 in
set_option maxHeartbeats 4000000 in
theorem concat_any (bb : Nat) (a1 a2 : Option Addr) (c1 c2 : Nat) (s t : List R2) (w : World) (hb0 : bb < w.heap.size) (g0 : w.cell? ⟨bb, 0, none⟩ = some (.slice a1 s.length c1)) (g1 : w.cell? ⟨bb, 1, none⟩ = some (.slice a2 t.length c2))
    (h1 : Rg w a1 s) (h2 : Rg w a2 t) (hb : (s.length + t.length) * 16 ≤ 140737488355328) :
    Calls Tryz.prog 32 #[.slice (some ⟨bb, 0, none⟩) 2 2] w fun e w' => ∃ v, e = .returned v ∧ w'.ownsRow 0 60 2 v (s ++ t).length (flatR (s ++ t)) ∧ (∀ g, v.ownBlock = some g → w.heap.size ≤ g) ∧ Touch (fun _ => False) w w' := by
  have H1 := hid h1
  have H2 := hid h2
  have G0 := hid g0
  have G1 := hid g1
  clear h1 h2
  go_enter Tryz.func32, Tryz.ntmps32
  go_wp2_with fail
  go_loopg [3, 11] 2 (fun gk sz i wr => ∃ k : Nat, k + gk = 2 ∧ i = .int .i64 (k : Nat) ∧ sz = .int .i64 (tot k s.length t.length : Nat) ∧ w = wr)
  case atStart => exact ⟨0, rfl, rfl, rfl, rfl⟩
  case round =>
    obtain ⟨k, hk, rfl, rfl, rfl⟩ := hrel
    rcases (show k = 0 ∨ k = 1 ∨ k = 2 by omega) with rfl | rfl | rfl
    · simp only [show tot 0 s.length t.length = 0 from rfl]
      go_wp2_with fail
      go_roundg (gk - 1)
      case measure => omega
      case rel => exact ⟨1, by omega, by go_num, by go_num, rfl⟩
    · simp only [show tot 1 s.length t.length = s.length from rfl]
      go_wp2_with fail
      go_roundg (gk - 1)
      case measure => omega
      case rel => exact ⟨2, by omega, by go_num, by go_num, rfl⟩
    · simp only [show tot 2 s.length t.length = s.length + t.length from rfl]
      have K := hid (grow_any (s.length + t.length) w hb)
      clear g0 g1
      go_wp2_with fail
      refine K.out.mono ?_
      rintro e w1 ⟨av, cv, rfl, hown, hnew, tc⟩
      have OW := hid hown
      have NW := hid hnew
      have TC := hid tc
      clear hown hnew tc K
      go_wp2_with fail
      go_loopg [6, 27] 2 (fun gk v i wr => ∃ k : Nat, k + gk = 2 ∧ i = .int .i64 (k : Nat) ∧ wr.ownsRow 0 60 2 v (pre2 k s t).length (flatR (pre2 k s t)) ∧ (∀ g, v.ownBlock = some g → w.heap.size ≤ g) ∧ Touch (fun _ => False) w wr)
      case atStart => exact ⟨0, rfl, rfl, OW.out, NW.out, TC.out⟩
      case round =>
        obtain ⟨k, hk, rfl, how, hnw, htc⟩ := hrel
        have OW2 := hid how
        have NW2 := hid hnw
        have TC2 := hid htc
        have R1 := hid (H1.out.new htc)
        have R2 := hid (H2.out.new htc)
        have g0 : wr.cell? ⟨bb, 0, none⟩ = some (.slice a1 s.length c1) := (htc.cell (p := ⟨bb, 0, none⟩) hb0 id).trans G0.out
        have g1 : wr.cell? ⟨bb, 1, none⟩ = some (.slice a2 t.length c2) := (htc.cell (p := ⟨bb, 1, none⟩) hb0 id).trans G1.out
        obtain ⟨a3, c3, hv⟩ := own_shape how
        subst hv
        clear how hnw htc
        rcases (show k = 0 ∨ k = 1 ∨ k = 2 by omega) with rfl | rfl | rfl
        · simp only [show pre2 0 s t = [] from rfl] at OW2 NW2 ⊢
          go_wp2_with (at_builtin; refine wpList_append_rg _ rfl _ _ rfl _ 0 [] rfl OW2.out a1 c1 s rfl R1.out (by omega) ?_)
          intro v' w4 hown hgrow hat
          have OW3 := hid hown
          have HG := hid hgrow
          have HA := hid hat
          clear hown hgrow hat
          go_wp2
          go_roundg (gk - 1)
          case measure => omega
          case rel =>
            refine ⟨1, by omega, by go_num, ?_, ?_, ?_⟩
            · exact OW3.out
            · intro g hg
              rcases HA.out with e | e
              · rw [e] at hg
                exact NW2.out g hg
              · rw [e] at hg
                simp at hg
                have := TC2.out.size
                omega
            · exact TC2.out.grown HG.out (fun k e hk => by have := NW2.out k e; omega)
        · simp only [show pre2 1 s t = s from rfl] at OW2 NW2 ⊢
          go_wp2_with (at_builtin; refine wpList_append_rg _ rfl _ _ rfl _ _ _ rfl OW2.out a2 c2 t rfl R2.out (by omega) ?_)
          intro v' w4 hown hgrow hat
          have OW3 := hid hown
          have HG := hid hgrow
          have HA := hid hat
          clear hown hgrow hat
          go_wp2
          go_roundg (gk - 1)
          case measure => omega
          case rel =>
            refine ⟨2, by omega, by go_num, ?_, ?_, ?_⟩
            · have := OW3.out
              rw [show pre2 2 s t = s ++ t from rfl, List.length_append, flatR_append]
              exact this
            · intro g hg
              rcases HA.out with e | e
              · rw [e] at hg
                exact NW2.out g hg
              · rw [e] at hg
                simp at hg
                have := TC2.out.size
                omega
            · exact TC2.out.grown HG.out (fun k e hk => by have := NW2.out k e; omega)
        · simp only [show pre2 2 s t = s ++ t from rfl] at OW2 NW2 ⊢
          go_wp2
          go_ret
          exact ⟨_, rfl, OW2.out, NW2.out, TC2.out⟩
end Go.Proofs.YtdhhcefmmojcmaaGreatDoor

/- made and speaks of the laws on sets; conditions: the ranges fit into memory. -/
namespace Go.Proofs.YtdhhcefmmojcmaaGreatDoor
open Go.RowKit

/-- Ranges of a type in a list of the call's own. -/
structure OwE (W0 wr : World) (e : TypeId) (v : Value) (s : List R2) : Prop where
  own : wr.ownsRow 0 e 2 v s.length (flatR s)
  new : ∀ g, v.ownBlock = some g → W0.heap.size ≤ g
  touch : Touch (fun _ => False) W0 wr

theorem OwE.ow {W0 wr : World} {v : Value} {s : List R2} (h : OwE W0 wr 60 v s) (ty : TypeId) : Ow W0 wr ty v s := ⟨h.own, h.new, h.touch⟩
theorem OwE.nil (w : World) (e : TypeId) : OwE w w e (.slice none 0 0) [] := ⟨by simpa [flatR] using World.ownsRow_nil _ _ _ _, by intro g h; simp [Value.ownBlock] at h, Touch.refl _ _⟩
theorem OwE.rg {W0 wr : World} {e : TypeId} {v : Value} {s : List R2} (h : OwE W0 wr e v s) : ∃ a c, v = .slice a s.length c ∧ Rg wr a s := own_rg h.own
theorem OwE.still {W0 wr w' : World} {e : TypeId} {v : Value} {s : List R2} (h : OwE W0 wr e v s) (tc : Touch (fun _ => False) wr w') : OwE W0 w' e v s := by
  refine ⟨⟨h.own.1, ?_⟩, h.new, h.touch.trans tc (fun _ _ e => e)⟩
  rcases h.own.2 with h0 | ⟨g, cap, cur, hv, hg, hh, rest⟩
  · exact .inl h0
  · exact .inr ⟨g, cap, cur, hv, hg, (tc.block g (lt_of_block hh) id).trans hh, rest⟩
theorem OwE.more {W0 wr w1 : World} {e : TypeId} {v v' : Value} {s : List R2} {xs : List R2} {o : Obj} (h : OwE W0 wr e v s) (hown : w1.ownsRow 0 e 2 v' (s.length + xs.length) (flatR s ++ flatR xs)) (hg : (wr.alloc o).grownBy w1 v.ownBlock) (hat : v'.ownBlock = v.ownBlock ∨ v'.ownBlock = some (wr.heap.size + 1)) : OwE W0 w1 e v' (s ++ xs) := by
  refine ⟨?_, fun g hg' => ?_, (h.touch.alloc o).grown hg (fun k e hk => by have := h.new k e; omega)⟩
  · rw [List.length_append, flatR_append]
    exact hown
  · rcases hat with e | e
    · exact h.new g (by rw [← e]; exact hg')
    · rw [e] at hg'
      simp at hg'
      have := h.touch.size
      omega
/-- A list of another type stays. -/
theorem OwE.beside {W0 wr w1 : World} {e e' : TypeId} {v v4 : Value} {s s4 : List R2} {o : Obj} (h : OwE W0 wr e v s) (h4 : OwE W0 wr e' v4 s4) (hne : e ≠ e') (hg : (wr.alloc o).grownBy w1 v4.ownBlock) : OwE W0 w1 e v s := by
  refine ⟨⟨h.own.1, ?_⟩, h.new, (h.touch.alloc o).grown hg (fun k e hk => by have := h4.new k e; omega)⟩
  rcases h.own.2 with h0 | ⟨g, cap, cur, hv, hg', hh, rest⟩
  · exact .inl h0
  · have hlt := lt_of_block hh
    refine .inr ⟨g, cap, cur, hv, hg', ?_, rest⟩
    rw [hg.block g (by simp; omega) (fun k => ?_), Below.heap_alloc _ _ _ hlt]
    · exact hh
    · rcases h4.own.2 with ⟨rfl, _⟩ | ⟨g4, cap4, cur4, rfl, _, hh4, _⟩
      · simp [Value.ownBlock] at k
      · simp [Value.ownBlock] at k
        subst k
        rw [hh] at hh4
        simp at hh4
        exact hne hh4.2

end Go.Proofs.YtdhhcefmmojcmaaGreatDoor

/- Concat of lists of spans; condition: they are few. -/
namespace Go.Proofs.YtdhhcefmmojcmaaGreatDoor
open Go.RowKit

theorem info76 : (Tryz.prog.info? 119).map (fun i => (i.zero, i.size, i.bytes)) = some (some (.agg #[.int .i64 0, .int .i64 0]), 2, 16) := by kernel_rfl
theorem run_append_noneS (w : World) (ty : TypeId) (v : Value) (n : Nat) (xs : List Value) (hown : w.ownsRow 0 119 2 v n xs) (a : Option Addr) (c : Nat) :
    (Builtin.append_ #[96, 96] ty #[v, .slice a 0 c]).run Tryz.prog w = .ok v w := by
  obtain ⟨i0, hin, hz0, hz1, hz2⟩ := info_parts info76
  have hld : ∀ ad, (loadCells ad 0).run Tryz.prog w = .ok #[] w := fun ad => rfl
  rcases hown.2 with ⟨rfl, rfl⟩ | ⟨g, cap, cur, rfl, hbg, hg, hnc, hcm, hcs, htake⟩ <;> cases a <;>
    simp [Builtin.append_, run_underlying Tryz.underlying96, sizeOf, typeInfo, Builtin.lenOf, Builtin.firstCells, storeCells, *]

theorem run_append_rgS (w : World) (ty : TypeId) (v : Value) (n : Nat) (xs : List Value) (hown : w.ownsRow 0 119 2 v n xs) (a : Option Addr) (c : Nat) (l : List R2) (hl : Rg w a l) (hb : (n + l.length) * 16 ≤ 140737488355328) :
    ∃ v' w', (Builtin.append_ #[96, 96] ty #[v, .slice a l.length c]).run Tryz.prog w = .ok v' w' ∧ w'.ownsRow 0 119 2 v' (n + l.length) (xs ++ flatR l) ∧ w.grownBy w' v.ownBlock ∧ (v'.ownBlock = v.ownBlock ∨ v'.ownBlock = some w.heap.size) := by
  obtain ⟨i0, hin, hz0, hz1, hz2⟩ := info_parts info76
  rcases hl with rfl | ⟨b, o, rfl, _, hc⟩
  · refine ⟨v, w, run_append_noneS w ty v n xs hown a c, ?_, ⟨rfl, rfl, rfl, Nat.le_refl _, fun _ _ _ => rfl⟩, .inl rfl⟩
    rw [show flatR [] = [] from rfl, List.append_nil]
    exact hown
  · obtain ⟨v', w', h1, h2, h3, _, h4⟩ := run_append_own_at (P := Tryz.prog) w 0 96 ty 119 i0 (.agg #[.int .i64 0, .int .i64 0]) 2 16 Tryz.underlying96 hin hz0 hz1 hz2 rfl (by decide) v n xs hown ⟨b, o, none⟩ l.length c (flatR l) (length_flatR l) (rg_cells hc) (flatR_one l) (by unfold maxLen; omega) hb (Nat.zero_le _)
    exact ⟨v', w', h1, h2, h3, h4⟩

theorem wpList_append_rgS (w : World) {ops : Array Oper} {rest : List Oper} {o : Oper} {a : Act} {Q : Exit → Act → World → Prop} (hgd : o.guard = none) (s x : Operand)
    (ho : o.op = .call { callee := .builtin .append, args := #[s, x], argTypes := #[96, 96] })
    (v : Value) (n : Nat) (xs : List Value) (hs : a.eval s = v) (hown : w.ownsRow 0 119 2 v n xs) (ad : Option Addr) (c : Nat) (l : List R2) (hx : a.eval x = .slice ad l.length c) (hl : Rg w ad l) (hb : (n + l.length) * 16 ≤ 140737488355328)
    (h : ∀ v' w', w'.ownsRow 0 119 2 v' (n + l.length) (xs ++ flatR l) → w.grownBy w' v.ownBlock → (v'.ownBlock = v.ownBlock ∨ v'.ownBlock = some w.heap.size) → wpList Tryz.prog ops Q rest (a.put o.dst v') w') : wpList Tryz.prog ops Q (o :: rest) a w := by
  refine wpList_plain hgd fun K hK => ?_
  obtain ⟨v', w', hr, h2, h3, h4⟩ := run_append_rgS w o.type v n xs hown ad c l hl hb
  unfold Oper.wp execOp
  simp only [ho, resolve, invoke, builtin, Sem.run_bind, Sem.run_pure, Result.andThen_ok, List.map_toArray, List.map_cons, List.map_nil, hs, hx, hr]
  exact hK _ _ (h v' w' h2 h3 h4)

/-! ### Grow of nil -/
theorem run_room_nilS (w : World) (ty : TypeId) (n : Nat) (h0 : 0 < n) (hb : n * 16 ≤ 140737488355328) :
    (Builtin.append_ #[96, 3] ty #[.slice none 0 0, .int .i64 n]).run Tryz.prog w =
      .ok (.slice (some ⟨w.heap.size, 0, none⟩) n (grownCap w n 0 119))
        (w.drew.alloc (.cells (Builtin.zeroCells #[.int .i64 0, .int .i64 0] n ++ Builtin.zeroCells #[.int .i64 0, .int .i64 0] (grownCap w n 0 119 - n)) 119)) := by
  obtain ⟨i0, hin, hz0, hz1, hz2⟩ := info_parts info76
  have h48 : Builtin.nextslicecap n 0 * 16 ≤ 281474976710656 := growslice_fits (by omega) (by omega)
  have h48' : ¬ (281474976710656 < Builtin.nextslicecap n 0 * 16) := by omega
  have hwr : IntKind.i64.wrap (n : Int) = n := by rw [IntKind.wrap_i64]; omega
  have hn0 : ¬ n = 0 := by omega
  have hn1 : ¬ ((n : Int) < 0) := by omega
  have hn2 : ¬ (281474976710656 < (n : Int) * 16) := by omega
  have hn3 : ¬ (9223372036854775807 < (n : Int)) := by omega
  have hn4 : ¬ (n * 2 = 0) := by omega
  have hfo : (Builtin.firstCells 2 0 (.slice none 0 0)).run Tryz.prog w.drew = .ok #[] w.drew := by simp [Builtin.firstCells]
  simp [Builtin.append_, run_underlying Tryz.underlying96, run_underlying Tryz.underlying3, sizeOf, typeInfo, zeroValue, hin, hz0, hz1, hz2, h48', Question.forced, hfo, newRow, grownCap, asInt, asIntOf, hwr, Value.cells, hn0, hn1, hn2, hn3]
  intro h
  exact absurd h hn4

theorem wpList_room_nilS (w : World) {ops : Array Oper} {rest : List Oper} {o : Oper} {a : Act} {Q : Exit → Act → World → Prop} (hgd : o.guard = none) (s x : Operand)
    (ho : o.op = .call { callee := .builtin .append, args := #[s, x], argTypes := #[96, 3] }) (n : Nat) (hs : a.eval s = .slice none 0 0) (hx : a.eval x = .int .i64 n) (h0 : 0 < n) (hb : n * 16 ≤ 140737488355328)
    (h : ∀ cap w', n ≤ cap → w'.ownsRow 0 119 2 (.slice (some ⟨w.heap.size, 0, none⟩) 0 cap) 0 [] → Touch (fun _ => False) w w' → wpList Tryz.prog ops Q rest (a.put o.dst (.slice (some ⟨w.heap.size, 0, none⟩) n cap)) w') : wpList Tryz.prog ops Q (o :: rest) a w := by
  refine wpList_plain hgd fun K hK => ?_
  have hr := run_room_nilS w o.type n h0 hb
  have hge := grownCap_ge w n 0 119
  unfold Oper.wp execOp
  simp only [ho, resolve, invoke, builtin, Sem.run_bind, Sem.run_pure, Result.andThen_ok, List.map_toArray, List.map_cons, List.map_nil, hs, hx, hr]
  refine hK _ _ (h (grownCap w n 0 119) _ hge ⟨rfl, .inr ⟨w.heap.size, _, _, rfl, Nat.zero_le _, heap_alloc_new w.drew _, Nat.zero_le _, grownCap_le_maxLen w n 0 119 (by unfold maxLen; omega), ?_, rfl⟩⟩ ((Touch.refl _ w).drew.alloc _))
  simp only [Array.size_append, size_zeroCells]
  have : (#[Value.int IntKind.i64 0, .int .i64 0] : Array Value).size = 2 := rfl
  rw [this]
  omega

set_option maxRecDepth 100000 in
set_option maxHeartbeats 4000000 in
theorem grow_anyS (n : Nat) (w : World) (hb : n * 16 ≤ 140737488355328) :
    Calls Tryz.prog 88 #[.slice none 0 0, .int .i64 n] w fun e w' => ∃ a cap, e = .returned (.slice a 0 cap) ∧ w'.ownsRow 0 119 2 (.slice a 0 cap) 0 [] ∧ (∀ g, (Value.slice a 0 cap).ownBlock = some g → w.heap.size ≤ g) ∧ Touch (fun _ => False) w w' := by
  go_enter Tryz.func88, Tryz.ntmps88
  by_cases h0 : n = 0
  · subst h0
    go_wp2
    go_ret
    exact ⟨none, 0, rfl, World.ownsRow_nil _ _ _ _, by intro g h; simp [Value.ownBlock] at h, Touch.refl _ _⟩
  · have h1 : (0 : Int) < (n : Int) := by omega
    go_wp2_with (at_builtin; refine wpList_room_nilS _ rfl _ _ rfl n rfl rfl (by omega) hb ?_)
    intro cap w1 hc hown tc
    have OW := hid hown
    have TC := hid tc
    clear hown tc
    have h2 : (0 : Int) < (cap : Int) := by omega
    go_wp2
    go_ret
    exact ⟨_, _, rfl, OW.out, by intro g h; simp [Value.ownBlock] at h; omega, TC.out⟩

/-- Lists of spans in a list. -/
structure Ls (w : World) (bb : Nat) (ls : List (List R2)) : Prop where
  lt : bb < w.heap.size
  at_ : ∀ i (h : i < ls.length), ∃ a c, w.cell? ⟨bb, i, none⟩ = some (.slice a (ls[i]).length c) ∧ Rg w a ls[i]
theorem Ls.new {w w' : World} {bb : Nat} {ls : List (List R2)} (h : Ls w bb ls) (t : Touch (fun _ => False) w w') : Ls w' bb ls := by
  refine ⟨Nat.lt_of_lt_of_le h.lt t.size, fun i hi => ?_⟩
  obtain ⟨a, c, h1, h2⟩ := h.at_ i hi
  exact ⟨a, c, (t.cell (p := ⟨bb, i, none⟩) h.lt id).trans h1, h2.new t⟩
theorem flat_step (ls : List (List R2)) (k : Nat) (h : k < ls.length) : (ls.take (k + 1)).flatten = (ls.take k).flatten ++ ls[k] := by
  rw [List.take_succ_eq_append_getElem h, List.flatten_append]
  simp
theorem flat_le (ls : List (List R2)) : ∀ k, ((ls.take k).flatten).length ≤ ls.flatten.length := by
  intro k
  have : ls.flatten = (ls.take k).flatten ++ (ls.drop k).flatten := by rw [← List.flatten_append, List.take_append_drop]
  rw [this, List.length_append]
  omega

set_option maxRecDepth 100000 in
set_option maxHeartbeats 4000000 in
theorem concatS_any (bb cc : Nat) (ls : List (List R2)) (w : World) (hls : Ls w bb ls) (hn : ls.length ≤ 100) (hb : ls.flatten.length ≤ 100000) :
    Calls Tryz.prog 58 #[.slice (some ⟨bb, 0, none⟩) ls.length cc] w fun e w' => ∃ v, e = .returned v ∧ OwE w w' 119 v ls.flatten := by
  have HLS := hid hls
  clear hls
  go_enter Tryz.func58, Tryz.ntmps58
  go_wp2_with fail
  go_loopg [3, 11] ls.length (fun gk sz i wr => ∃ k : Nat, k + gk = ls.length ∧ i = .int .i64 (k : Nat) ∧ sz = .int .i64 (((ls.take k).flatten).length : Nat) ∧ w = wr)
  case atStart => exact ⟨0, by omega, rfl, rfl, rfl⟩
  case round =>
    obtain ⟨k, hk, rfl, rfl, rfl⟩ := hrel
    by_cases hlt : k < ls.length
    · obtain ⟨a, c, g0, hrg⟩ := HLS.out.at_ k hlt
      have h1 := flat_le ls (k + 1)
      have HST := hid (show ((ls.take (k + 1)).flatten).length = ((ls.take k).flatten).length + (ls[k]).length by rw [flat_step ls k hlt, List.length_append])
      rw [HST.out] at h1
      generalize ((ls.take k).flatten).length = A at *
      generalize (ls[k]).length = B at *
      have hkI : (k : Int) < (ls.length : Int) := by omega
      clear hrg
      go_wp2_with fail
      go_roundg (gk - 1)
      case measure => omega
      case rel => exact ⟨k + 1, by omega, by go_num, by rw [HST.out]; go_num, rfl⟩
    · obtain rfl : k = ls.length := by omega
      rw [List.take_length]
      obtain ⟨N, hN⟩ : ∃ N, N = ls.flatten.length := ⟨_, rfl⟩
      rw [← hN]
      have K := hid (grow_anyS N w (by omega))
      have HN := hid hN
      clear hN
      go_wp2_with fail
      refine K.out.mono ?_
      rintro e w1 ⟨av, cv, rfl, hown, hnew, tc⟩
      have OW := hid (show OwE w w1 119 (.slice av 0 cv) [] from ⟨hown, hnew, tc⟩)
      clear hown hnew tc K
      go_wp2_with fail
      go_loopg [6, 27] ls.length (fun gk v i wr => ∃ k : Nat, k + gk = ls.length ∧ i = .int .i64 (k : Nat) ∧ OwE w wr 119 v (ls.take k).flatten)
      case atStart => exact ⟨0, by omega, rfl, OW.out⟩
      case round =>
        obtain ⟨k, hk, rfl, how⟩ := hrel
        have OW2 := hid how
        obtain ⟨a3, c3, hv⟩ := own_shape how.own
        subst hv
        have h2 := flat_le ls k
        by_cases hlt : k < ls.length
        · obtain ⟨a, c, g0, hrg⟩ := (HLS.out.new how.touch).at_ k hlt
          have h1 := flat_le ls (k + 1)
          have HST := hid (flat_step ls k hlt)
          have R1 := hid hrg
          have hl2 : ((ls.take k).flatten).length + (ls[k]).length ≤ 100000 := by
            rw [flat_step ls k hlt, List.length_append] at h1
            omega
          generalize (ls.take k).flatten = A at *
          generalize ls[k] = B at *
          have hkI : (k : Int) < (ls.length : Int) := by omega
          clear how hrg h1
          go_wp2_with (at_builtin; refine wpList_append_rgS _ rfl _ _ rfl _ _ _ rfl OW2.out.own a c B rfl R1.out (by omega) ?_)
          intro v' w4 hown hgrow hat
          have OC := hid (show OwE w w4 119 v' (A ++ B) from by
            refine ⟨?_, fun g hg' => ?_, OW2.out.touch.grown hgrow (fun k e hk => by have := OW2.out.new k e; omega)⟩
            · rw [List.length_append, flatR_append]
              exact hown
            · rcases hat with e | e
              · rw [e] at hg'
                exact OW2.out.new g hg'
              · rw [e] at hg'
                simp at hg'
                have := OW2.out.touch.size
                omega)
          clear hown hgrow hat
          go_wp2
          go_roundg (gk - 1)
          case measure => omega
          case rel => exact ⟨k + 1, by omega, by go_num, by rw [HST.out]; exact OC.out⟩
        · obtain rfl : k = ls.length := by omega
          rw [List.take_length] at OW2 ⊢
          go_wp2
          go_ret
          exact ⟨_, rfl, OW2.out⟩
end Go.Proofs.YtdhhcefmmojcmaaGreatDoor
