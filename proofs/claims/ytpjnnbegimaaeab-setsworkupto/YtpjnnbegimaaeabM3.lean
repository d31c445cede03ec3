/- Texts of this proof, one behind the other: what each says stands ahead of it. -/
import Derived.Test.YtpjnnbegimaaeabM0
import Derived.Test.YtpjnnbegimaaeabM2
/- Grow of no list, and Concat of two lists of ranges; condition: they fit into memory. -/
namespace Go.Proofs.Ytpjnnbegimaaeab
open Go.RowKit

theorem add_o (b o j : Nat) : (⟨b, o, none⟩ : Addr).add j = ⟨b, o + j, none⟩ := by
  unfold Addr.add
  split
  · rename_i h; rw [h, Nat.add_zero]
  · rfl

theorem rg_cells {w : World} {b o : Nat} {l : List R2} (h : ∀ i (h : i < l.length), w.cell? ⟨b, o + i * 2, none⟩ = some (.int .i64 (l[i]).1) ∧ w.cell? ⟨b, o + i * 2 + 1, none⟩ = some (.int .i64 (l[i]).2)) :
    ∀ j u, (flatR l)[j]? = some u → w.cell? ((⟨b, o, none⟩ : Addr).add j) = some u := by
  intro j u hj
  have hlt : j < (flatR l).length := by
    rcases Nat.lt_or_ge j (flatR l).length with k | k
    · exact k
    · rw [List.getElem?_eq_none k] at hj; cases hj
  rw [length_flatR] at hlt
  rw [add_o]
  have hi : j / 2 < l.length := by omega
  rcases (show j % 2 = 0 ∨ j % 2 = 1 by omega) with h0 | h0
  · have := flatR_get0 l (j / 2) hi
    rw [show 2 * (j / 2) = j by omega, hj] at this
    rw [this, show o + j = o + j / 2 * 2 by omega]
    exact (h _ hi).1
  · have := flatR_get1 l (j / 2) hi
    rw [show 2 * (j / 2) + 1 = j by omega, hj] at this
    rw [this, show o + j = o + j / 2 * 2 + 1 by omega]
    exact (h _ hi).2

theorem run_append_none (w : World) (ty : TypeId) (v : Value) (n : Nat) (xs : List Value) (hown : w.ownsRow 0 33 2 v n xs) (a : Option Addr) (c : Nat) :
    (Builtin.append_ #[25, 25] ty #[v, .slice a 0 c]).run Try.prog w = .ok v w := by
  obtain ⟨i0, hin, hz0, hz1, hz2⟩ := info_parts info33
  have hld : ∀ ad, (loadCells ad 0).run Try.prog w = .ok #[] w := fun ad => rfl
  rcases hown.2 with ⟨rfl, rfl⟩ | ⟨g, cap, cur, rfl, hbg, hg, hnc, hcm, hcs, htake⟩ <;> cases a <;>
    simp [Builtin.append_, run_underlying Try.underlying25, sizeOf, typeInfo, Builtin.lenOf, Builtin.firstCells, storeCells, *]

theorem run_append_rg (w : World) (ty : TypeId) (v : Value) (n : Nat) (xs : List Value) (hown : w.ownsRow 0 33 2 v n xs) (a : Option Addr) (c : Nat) (l : List R2) (hl : Rg w a l) (hb : (n + l.length) * 16 ≤ 140737488355328) :
    ∃ v' w', (Builtin.append_ #[25, 25] ty #[v, .slice a l.length c]).run Try.prog w = .ok v' w' ∧ w'.ownsRow 0 33 2 v' (n + l.length) (xs ++ flatR l) ∧ w.grownBy w' v.ownBlock ∧ (v'.ownBlock = v.ownBlock ∨ v'.ownBlock = some w.heap.size) := by
  obtain ⟨i0, hin, hz0, hz1, hz2⟩ := info_parts info33
  rcases hl with rfl | ⟨b, o, rfl, _, hc⟩
  · refine ⟨v, w, run_append_none w ty v n xs hown a c, ?_, ⟨rfl, rfl, rfl, Nat.le_refl _, fun _ _ _ => rfl⟩, .inl rfl⟩
    rw [show flatR [] = [] from rfl, List.append_nil]
    exact hown
  · obtain ⟨v', w', h1, h2, h3, _, h4⟩ := run_append_own_at (P := Try.prog) w 0 25 ty 33 i0 (.agg #[.int .i64 0, .int .i64 0]) 2 16 Try.underlying25 hin hz0 hz1 hz2 rfl (by decide) v n xs hown ⟨b, o, none⟩ l.length c (flatR l) (length_flatR l) (rg_cells hc) (flatR_one l) (by unfold maxLen; omega) hb (Nat.zero_le _)
    exact ⟨v', w', h1, h2, h3, h4⟩

theorem wpList_append_rg (w : World) {ops : Array Oper} {rest : List Oper} {o : Oper} {a : Act} {Q : Exit → Act → World → Prop} (hgd : o.guard = none) (s x : Operand)
    (ho : o.op = .call { callee := .builtin .append, args := #[s, x], argTypes := #[25, 25] })
    (v : Value) (n : Nat) (xs : List Value) (hs : a.eval s = v) (hown : w.ownsRow 0 33 2 v n xs) (ad : Option Addr) (c : Nat) (l : List R2) (hx : a.eval x = .slice ad l.length c) (hl : Rg w ad l) (hb : (n + l.length) * 16 ≤ 140737488355328)
    (h : ∀ v' w', w'.ownsRow 0 33 2 v' (n + l.length) (xs ++ flatR l) → w.grownBy w' v.ownBlock → (v'.ownBlock = v.ownBlock ∨ v'.ownBlock = some w.heap.size) → wpList Try.prog ops Q rest (a.put o.dst v') w') : wpList Try.prog ops Q (o :: rest) a w := by
  refine wpList_plain hgd fun K hK => ?_
  obtain ⟨v', w', hr, h2, h3, h4⟩ := run_append_rg w o.type v n xs hown ad c l hl hb
  unfold Oper.wp execOp
  simp only [ho, resolve, invoke, builtin, Sem.run_bind, Sem.run_pure, Result.andThen_ok, List.map_toArray, List.map_cons, List.map_nil, hs, hx, hr]
  exact hK _ _ (h v' w' h2 h3 h4)

/-! ### Grow of nil -/
theorem run_room_nil (w : World) (ty : TypeId) (n : Nat) (h0 : 0 < n) (hb : n * 16 ≤ 140737488355328) :
    (Builtin.append_ #[25, 3] ty #[.slice none 0 0, .int .i64 n]).run Try.prog w =
      .ok (.slice (some ⟨w.heap.size, 0, none⟩) n (grownCap w n 0 33))
        (w.drew.alloc (.cells (Builtin.zeroCells #[.int .i64 0, .int .i64 0] n ++ Builtin.zeroCells #[.int .i64 0, .int .i64 0] (grownCap w n 0 33 - n)) 33)) := by
  obtain ⟨i0, hin, hz0, hz1, hz2⟩ := info_parts info33
  have h48 : Builtin.nextslicecap n 0 * 16 ≤ 281474976710656 := growslice_fits (by omega) (by omega)
  have h48' : ¬ (281474976710656 < Builtin.nextslicecap n 0 * 16) := by omega
  have hwr : IntKind.i64.wrap (n : Int) = n := by rw [IntKind.wrap_i64]; omega
  have hn0 : ¬ n = 0 := by omega
  have hn1 : ¬ ((n : Int) < 0) := by omega
  have hn2 : ¬ (281474976710656 < (n : Int) * 16) := by omega
  have hn3 : ¬ (9223372036854775807 < (n : Int)) := by omega
  have hn4 : ¬ (n * 2 = 0) := by omega
  have hfo : (Builtin.firstCells 2 0 (.slice none 0 0)).run Try.prog w.drew = .ok #[] w.drew := by simp [Builtin.firstCells]
  simp [Builtin.append_, run_underlying Try.underlying25, run_underlying Try.underlying3, sizeOf, typeInfo, zeroValue, hin, hz0, hz1, hz2, h48', Question.forced, hfo, newRow, grownCap, asInt, asIntOf, hwr, Value.cells, hn0, hn1, hn2, hn3]
  intro h
  exact absurd h hn4

theorem wpList_room_nil (w : World) {ops : Array Oper} {rest : List Oper} {o : Oper} {a : Act} {Q : Exit → Act → World → Prop} (hgd : o.guard = none) (s x : Operand)
    (ho : o.op = .call { callee := .builtin .append, args := #[s, x], argTypes := #[25, 3] }) (n : Nat) (hs : a.eval s = .slice none 0 0) (hx : a.eval x = .int .i64 n) (h0 : 0 < n) (hb : n * 16 ≤ 140737488355328)
    (h : ∀ cap w', n ≤ cap → w'.ownsRow 0 33 2 (.slice (some ⟨w.heap.size, 0, none⟩) 0 cap) 0 [] → Touch (fun _ => False) w w' → wpList Try.prog ops Q rest (a.put o.dst (.slice (some ⟨w.heap.size, 0, none⟩) n cap)) w') : wpList Try.prog ops Q (o :: rest) a w := by
  refine wpList_plain hgd fun K hK => ?_
  have hr := run_room_nil w o.type n h0 hb
  have hge := grownCap_ge w n 0 33
  unfold Oper.wp execOp
  simp only [ho, resolve, invoke, builtin, Sem.run_bind, Sem.run_pure, Result.andThen_ok, List.map_toArray, List.map_cons, List.map_nil, hs, hx, hr]
  refine hK _ _ (h (grownCap w n 0 33) _ hge ⟨rfl, .inr ⟨w.heap.size, _, _, rfl, Nat.zero_le _, heap_alloc_new w.drew _, Nat.zero_le _, grownCap_le_maxLen w n 0 33 (by unfold maxLen; omega), ?_, rfl⟩⟩ ((Touch.refl _ w).drew.alloc _))
  simp only [Array.size_append, size_zeroCells]
  have : (#[Value.int IntKind.i64 0, .int .i64 0] : Array Value).size = 2 := rfl
  rw [this]
  omega

set_option maxRecDepth 100000 in
set_option maxHeartbeats 4000000 in
theorem grow_any (n : Nat) (w : World) (hb : n * 16 ≤ 140737488355328) :
    Calls Try.prog 31 #[.slice none 0 0, .int .i64 n] w fun e w' => ∃ a cap, e = .returned (.slice a 0 cap) ∧ w'.ownsRow 0 33 2 (.slice a 0 cap) 0 [] ∧ (∀ g, (Value.slice a 0 cap).ownBlock = some g → w.heap.size ≤ g) ∧ Touch (fun _ => False) w w' := by
  go_enter Try.func31, Try.ntmps31
  by_cases h0 : n = 0
  · subst h0
    go_wp2
    go_ret
    exact ⟨none, 0, rfl, World.ownsRow_nil _ _ _ _, by intro g h; simp [Value.ownBlock] at h, Touch.refl _ _⟩
  · have h1 : (0 : Int) < (n : Int) := by omega
    go_wp2_with (at_builtin; refine wpList_room_nil _ rfl _ _ rfl n rfl rfl (by omega) hb ?_)
    intro cap w1 hc hown tc
    have OW := hid hown
    have TC := hid tc
    clear hown tc
    have h2 : (0 : Int) < (cap : Int) := by omega
    go_wp2
    go_ret
    exact ⟨_, _, rfl, OW.out, by intro g h; simp [Value.ownBlock] at h; omega, TC.out⟩

def tot (k n m : Nat) : Nat := if k = 0 then 0 else if k = 1 then n else n + m
def pre2 (k : Nat) (s t : List R2) : List R2 := if k = 0 then [] else if k = 1 then s else s ++ t

set_option maxRecDepth 100000 in
set_option maxHeartbeats 4000000 in
theorem concat_any (bb : Nat) (a1 a2 : Option Addr) (c1 c2 : Nat) (s t : List R2) (w : World) (hb0 : bb < w.heap.size) (g0 : w.cell? ⟨bb, 0, none⟩ = some (.slice a1 s.length c1)) (g1 : w.cell? ⟨bb, 1, none⟩ = some (.slice a2 t.length c2))
    (h1 : Rg w a1 s) (h2 : Rg w a2 t) (hb : (s.length + t.length) * 16 ≤ 140737488355328) :
    Calls Try.prog 21 #[.slice (some ⟨bb, 0, none⟩) 2 2] w fun e w' => ∃ v, e = .returned v ∧ w'.ownsRow 0 33 2 v (s ++ t).length (flatR (s ++ t)) ∧ (∀ g, v.ownBlock = some g → w.heap.size ≤ g) ∧ Touch (fun _ => False) w w' := by
  have H1 := hid h1
  have H2 := hid h2
  have G0 := hid g0
  have G1 := hid g1
  clear h1 h2
  go_enter Try.func21, Try.ntmps21
  go_wp2_with fail
  go_loopg [3, 11] 2 (fun gk sz i wr => ∃ k : Nat, k + gk = 2 ∧ i = .int .i64 (k : Nat) ∧ sz = .int .i64 (tot k s.length t.length : Nat) ∧ w = wr)
  case atStart => exact ⟨0, rfl, rfl, rfl, rfl⟩
  case round =>
    obtain ⟨k, hk, rfl, rfl, rfl⟩ := hrel
    rcases (show k = 0 ∨ k = 1 ∨ k = 2 by omega) with rfl | rfl | rfl
    · simp only [show tot 0 s.length t.length = 0 from rfl]
      go_wp2_with fail
      go_roundg (gk - 1)
      case measure => omega
      case rel => exact ⟨1, by omega, by go_num, by go_num, rfl⟩
    · simp only [show tot 1 s.length t.length = s.length from rfl]
      go_wp2_with fail
      go_roundg (gk - 1)
      case measure => omega
      case rel => exact ⟨2, by omega, by go_num, by go_num, rfl⟩
    · simp only [show tot 2 s.length t.length = s.length + t.length from rfl]
      have K := hid (grow_any (s.length + t.length) w hb)
      clear g0 g1
      go_wp2_with fail
      refine K.out.mono ?_
      rintro e w1 ⟨av, cv, rfl, hown, hnew, tc⟩
      have OW := hid hown
      have NW := hid hnew
      have TC := hid tc
      clear hown hnew tc K
      go_wp2_with fail
      go_loopg [6, 27] 2 (fun gk v i wr => ∃ k : Nat, k + gk = 2 ∧ i = .int .i64 (k : Nat) ∧ wr.ownsRow 0 33 2 v (pre2 k s t).length (flatR (pre2 k s t)) ∧ (∀ g, v.ownBlock = some g → w.heap.size ≤ g) ∧ Touch (fun _ => False) w wr)
      case atStart => exact ⟨0, rfl, rfl, OW.out, NW.out, TC.out⟩
      case round =>
        obtain ⟨k, hk, rfl, how, hnw, htc⟩ := hrel
        have OW2 := hid how
        have NW2 := hid hnw
        have TC2 := hid htc
        have R1 := hid (H1.out.new htc)
        have R2 := hid (H2.out.new htc)
        have g0 : wr.cell? ⟨bb, 0, none⟩ = some (.slice a1 s.length c1) := (htc.cell (p := ⟨bb, 0, none⟩) hb0 id).trans G0.out
        have g1 : wr.cell? ⟨bb, 1, none⟩ = some (.slice a2 t.length c2) := (htc.cell (p := ⟨bb, 1, none⟩) hb0 id).trans G1.out
        obtain ⟨a3, c3, hv⟩ := own_shape how
        subst hv
        clear how hnw htc
        rcases (show k = 0 ∨ k = 1 ∨ k = 2 by omega) with rfl | rfl | rfl
        · simp only [show pre2 0 s t = [] from rfl] at OW2 NW2 ⊢
          go_wp2_with (at_builtin; refine wpList_append_rg _ rfl _ _ rfl _ 0 [] rfl OW2.out a1 c1 s rfl R1.out (by omega) ?_)
          intro v' w4 hown hgrow hat
          have OW3 := hid hown
          have HG := hid hgrow
          have HA := hid hat
          clear hown hgrow hat
          go_wp2
          go_roundg (gk - 1)
          case measure => omega
          case rel =>
            refine ⟨1, by omega, by go_num, ?_, ?_, ?_⟩
            · exact OW3.out
            · intro g hg
              rcases HA.out with e | e
              · rw [e] at hg
                exact NW2.out g hg
              · rw [e] at hg
                simp at hg
                have := TC2.out.size
                omega
            · exact TC2.out.grown HG.out (fun k e hk => by have := NW2.out k e; omega)
        · simp only [show pre2 1 s t = s from rfl] at OW2 NW2 ⊢
          go_wp2_with (at_builtin; refine wpList_append_rg _ rfl _ _ rfl _ _ _ rfl OW2.out a2 c2 t rfl R2.out (by omega) ?_)
          intro v' w4 hown hgrow hat
          have OW3 := hid hown
          have HG := hid hgrow
          have HA := hid hat
          clear hown hgrow hat
          go_wp2
          go_roundg (gk - 1)
          case measure => omega
          case rel =>
            refine ⟨2, by omega, by go_num, ?_, ?_, ?_⟩
            · have := OW3.out
              rw [show pre2 2 s t = s ++ t from rfl, List.length_append, flatR_append]
              exact this
            · intro g hg
              rcases HA.out with e | e
              · rw [e] at hg
                exact NW2.out g hg
              · rw [e] at hg
                simp at hg
                have := TC2.out.size
                omega
            · exact TC2.out.grown HG.out (fun k e hk => by have := NW2.out k e; omega)
        · simp only [show pre2 2 s t = s ++ t from rfl] at OW2 NW2 ⊢
          go_wp2
          go_ret
          exact ⟨_, rfl, OW2.out, NW2.out, TC2.out⟩
end Go.Proofs.Ytpjnnbegimaaeab

/- Or of two sets: what it answers; no condition beside those told. -/
namespace Go.Proofs.Ytpjnnbegimaaeab
open Go.RowKit

set_option maxRecDepth 100000 in
set_option maxHeartbeats 4000000 in
theorem or_says (a1 a2 : Option Addr) (c1 c2 : Nat) (s t : List R2) (w : World) (h1 : Rg w a1 s) (h2 : Rg w a2 t) (hs : Canon s) (ht : Canon t) :
    Calls Try.prog 10 #[.slice a1 s.length c1, .slice a2 t.length c2] w fun e w' => ∃ v n, e = .returned v ∧ Canon n ∧ (∀ x, In x n ↔ In x s ∨ In x t) ∧ OwE w w' 33 v n := by
  have l1 := canon_len hs
  have l2 := canon_len ht
  have H1 := hid h1
  have H2 := hid h2
  have HS := hid hs
  have HT := hid ht
  have T0 := hid ((Touch.refl (fun _ => False) w).alloc (.cells #[.slice a1 s.length c1, .slice a2 t.length c2] 25))
  have B := hid (show (w.alloc (.cells #[.slice a1 s.length c1, .slice a2 t.length c2] 25)).heap[w.heap.size]? = some (.cells #[.slice a1 s.length c1, .slice a2 t.length c2] 25 (0, 0)) from by show (w.heap.push _)[_]? = _; simp)
  clear h1 h2 hs ht
  go_enter Try.func10, Try.ntmps10
  go_wp2_with fail
  generalize (w.alloc (.cells #[.slice a1 s.length c1, .slice a2 t.length c2] 25)) = w1 at *
  refine (concat_any w.heap.size a1 a2 c1 c2 s t w1 (lt_of_block B.out) (cell_two0 B.out) (cell_two1 B.out) (H1.out.new T0.out) (H2.out.new T0.out) (by omega)).mono ?_
  rintro e w2 ⟨v, rfl, hown, hnew, tc⟩
  have T2 := hid (T0.out.trans tc (fun _ _ e => e))
  have hlen : (s ++ t).length = s.length + t.length := List.length_append
  obtain ⟨u, hu⟩ : ∃ u, u = s ++ t := ⟨_, rfl⟩
  rw [← hu] at hlen hown
  have HU := hid hu
  clear hu
  obtain ⟨a3, c3, hv, hrg⟩ := own_rg hown
  subst hv
  have K := hid (of_says a3 c3 u w2 hrg (by omega))
  clear hown hnew tc hrg hlen
  go_wp2_with fail
  refine K.out.mono ?_
  rintro e w3 ⟨v, n, rfl, hcn, hin, ow⟩
  have OW := hid ow
  have HCN := hid hcn
  have HIN := hid hin
  obtain ⟨a4, c4, hv⟩ := own_shape ow.own
  subst hv
  clear ow hcn hin K
  go_wp2
  go_ret
  refine ⟨_, n, rfl, HCN.out, fun x => ?_, ⟨OW.out.own, fun g e => Nat.le_trans T2.out.size (OW.out.new g e), T2.out.trans OW.out.touch (fun _ _ e => e)⟩⟩
  rw [HIN.out x, HU.out, in_append]
  refine ⟨fun h => h.2, fun h => ⟨?_, h⟩⟩
  rcases h with ⟨r, hr, q1, q2⟩ | ⟨r, hr, q1, q2⟩
  · have := HS.out.in_ r hr
    unfold inB at this
    omega
  · have := HT.out.in_ r hr
    unfold inB at this
    omega
end Go.Proofs.Ytpjnnbegimaaeab

/- How many numbers a list of ranges has, plain facts; no condition beside those told. -/
namespace Go.Proofs.Ytpjnnbegimaaeab

def hasB (x : Int) (s : List R2) : Bool := s.any fun r => decide (r.1 ≤ x) && decide (x ≤ r.2)
theorem hasB_iff {x : Int} {s : List R2} : hasB x s = true ↔ In x s := by
  unfold hasB In
  simp [List.any_eq_true]
theorem hasB_eq {x : Int} {s : List R2} {p : Bool} (h : In x s ↔ p = true) : hasB x s = p := by
  rw [Bool.eq_iff_iff, hasB_iff, h]

def cnt (N : Nat) (p : Nat → Bool) : Nat := (List.range N).countP p
theorem cnt_zero (p : Nat → Bool) : cnt 0 p = 0 := rfl
theorem cnt_succ (N : Nat) (p : Nat → Bool) : cnt (N + 1) p = cnt N p + (if p N = true then 1 else 0) := by
  unfold cnt
  rw [List.range_succ, List.countP_append, List.countP_singleton]
theorem cnt_or (p q : Nat → Bool) : ∀ N, cnt N (fun i => p i || q i) + cnt N (fun i => p i && q i) = cnt N p + cnt N q
  | 0 => rfl
  | N + 1 => by
    have := cnt_or p q N
    rw [cnt_succ, cnt_succ, cnt_succ, cnt_succ]
    cases p N <;> cases q N <;> simp <;> omega
theorem cnt_not (p : Nat → Bool) : ∀ N, cnt N p + cnt N (fun i => !p i) = N
  | 0 => rfl
  | N + 1 => by
    have := cnt_not p N
    rw [cnt_succ, cnt_succ]
    cases p N <;> simp <;> omega
theorem cnt_none (p : Nat → Bool) (h : ∀ i, p i = false) : ∀ N, cnt N p = 0
  | 0 => rfl
  | N + 1 => by rw [cnt_succ, cnt_none p h N, h N]; rfl
theorem cnt_same (p q : Nat → Bool) : ∀ N, (∀ i, i < N → p i = q i) → cnt N p = cnt N q
  | 0, _ => rfl
  | N + 1, h => by rw [cnt_succ, cnt_succ, cnt_same p q N (fun i hi => h i (by omega)), h N (by omega)]
theorem cnt_le (p q : Nat → Bool) : ∀ N, (∀ i, i < N → p i = true → q i = true) → cnt N p ≤ cnt N q
  | 0, _ => Nat.le_refl _
  | N + 1, h => by
    have h1 := cnt_le p q N (fun i hi => h i (by omega))
    have h2 := h N (by omega)
    rw [cnt_succ, cnt_succ]
    cases hp : p N
    · simp; omega
    · rw [h2 hp]; simp; omega
theorem cnt_iv_at (a b : Int) (ha : 0 ≤ a) (hab : a ≤ b + 1) : ∀ N : Nat, (cnt N (fun i => decide (a ≤ (i : Int)) && decide ((i : Int) ≤ b)) : Int) = min (N : Int) (b + 1) - min (N : Int) a
  | 0 => by rw [cnt_zero]; omega
  | N + 1 => by
    have := cnt_iv_at a b ha hab N
    rw [cnt_succ]
    by_cases h1 : a ≤ (N : Int) <;> by_cases h2 : (N : Int) ≤ b
    · simp only [h1, h2, decide_true, Bool.and_self, if_true]
      omega
    · simp only [h1, h2, decide_true, decide_false, Bool.and_false, Bool.false_eq_true, if_false]
      omega
    · simp only [h1, h2, decide_true, decide_false, Bool.false_and, Bool.false_eq_true, if_false]
      omega
    · simp only [h1, h2, decide_false, Bool.false_and, Bool.false_eq_true, if_false]
      omega
def sizeL (s : List R2) : Int := (s.map fun r => r.2 - r.1 + 1).sum
theorem sizeL_nil : sizeL [] = 0 := rfl
theorem sizeL_cons (r : R2) (s : List R2) : sizeL (r :: s) = (r.2 - r.1 + 1) + sizeL s := by simp [sizeL]
theorem sizeL_append (s t : List R2) : sizeL (s ++ t) = sizeL s + sizeL t := by simp [sizeL]

theorem size_cnt_at (N : Nat) : ∀ s : List R2, (∀ r ∈ s, 0 ≤ r.1 ∧ r.1 ≤ r.2 ∧ r.2 < N) → s.Pairwise (fun a b => a.2 + 1 < b.1) → sizeL s = (cnt N (fun i => hasB i s) : Nat)
  | [], _, _ => by
    rw [cnt_none _ (fun i => by simp [hasB]) N]
    rfl
  | r :: s, hin, hup => by
    have hp := List.pairwise_cons.1 hup
    have hr := hin r (by simp)
    have ih := size_cnt_at N s (fun a ha => hin a (by simp [ha])) hp.2
    have h1 := cnt_or (fun i => decide (r.1 ≤ (i : Int)) && decide ((i : Int) ≤ r.2)) (fun i => hasB i s) N
    have h2 : cnt N (fun i => (decide (r.1 ≤ (i : Int)) && decide ((i : Int) ≤ r.2)) && hasB i s) = 0 := by
      refine cnt_none _ (fun i => ?_) N
      by_cases h : (decide (r.1 ≤ (i : Int)) && decide ((i : Int) ≤ r.2)) = true
      · by_cases k : hasB (i : Int) s = true
        · obtain ⟨q, hq, h3, _⟩ := hasB_iff.1 k
          have := hp.1 q hq
          simp only [Bool.and_eq_true, decide_eq_true_eq] at h
          omega
        · simp [k]
      · rw [Bool.not_eq_true] at h
        simp [h]
    have h3 := cnt_iv_at r.1 r.2 hr.1 (by omega) N
    have h4 : cnt N (fun i => hasB i (r :: s)) = cnt N (fun i => (decide (r.1 ≤ (i : Int)) && decide ((i : Int) ≤ r.2)) || hasB i s) := by
      refine cnt_same _ _ N (fun i _ => ?_)
      simp [hasB]
    rw [sizeL_cons, h4, ih]
    rw [h2] at h1
    omega

theorem size_cnt {s : List R2} (h : Canon s) : sizeL s = (cnt 1114112 (fun i => hasB i s) : Nat) := by
  refine size_cnt_at 1114112 s (fun r hr => ?_) h.up
  have := h.in_ r hr
  unfold inB at this
  exact ⟨this.1, by omega, by omega⟩
theorem cnt_top (N : Nat) (p : Nat → Bool) : cnt N p ≤ N := by
  have := cnt_not p N
  omega
theorem sizeL_pos {s : List R2} (h : Canon s) : 0 ≤ sizeL s ∧ sizeL s ≤ 1114112 := by
  rw [size_cnt h]
  have := cnt_top 1114112 (fun i => hasB i s)
  omega
theorem size_not {s n : List R2} (h : Canon s) (k : Canon n) (hn : ∀ x, In x n ↔ (0 ≤ x ∧ x ≤ 1114111) ∧ ¬ In x s) : sizeL s + sizeL n = 1114112 := by
  rw [size_cnt h, size_cnt k, cnt_same (fun i => hasB i n) (fun i => !hasB i s) 1114112 (fun i hi => ?_)]
  · have := cnt_not (fun i => hasB i s) 1114112
    omega
  · refine hasB_eq ?_
    rw [hn, Bool.not_eq_true', ← Bool.not_eq_true, hasB_iff]
    constructor
    · exact fun h => h.2
    · exact fun h => ⟨by omega, h⟩
theorem size_or {s t o a : List R2} (hs : Canon s) (ht : Canon t) (ho : Canon o) (ha : Canon a) (h1 : ∀ x, In x o ↔ In x s ∨ In x t) (h2 : ∀ x, In x a ↔ In x s ∧ In x t) : sizeL o = sizeL s + sizeL t - sizeL a := by
  have := cnt_or (fun i => hasB i s) (fun i => hasB i t) 1114112
  rw [size_cnt hs, size_cnt ht, size_cnt ho, size_cnt ha,
    cnt_same (fun i => hasB i o) (fun i => hasB i s || hasB i t) 1114112 (fun i hi => hasB_eq (by rw [h1, Bool.or_eq_true, hasB_iff, hasB_iff])),
    cnt_same (fun i => hasB i a) (fun i => hasB i s && hasB i t) 1114112 (fun i hi => hasB_eq (by rw [h2, Bool.and_eq_true, hasB_iff, hasB_iff]))]
  omega
end Go.Proofs.Ytpjnnbegimaaeab

/- Where a number would be in a list of ranges that rises, plain facts; no condition beside those told. -/
namespace Go.Proofs.Ytpjnnbegimaaeab

theorem canon_lt {s : List R2} (h : Canon s) (i j : Nat) (hi : i < s.length) (hj : j < s.length) (hij : i < j) : s[i].2 + 1 < s[j].1 := (List.pairwise_iff_getElem.1 h.up) i j hi hj hij
theorem canon_mono {s : List R2} (h : Canon s) (i j : Nat) (hi : i < s.length) (hj : j < s.length) (hij : i ≤ j) : s[i].2 ≤ s[j].2 := by
  rcases Nat.lt_or_ge i j with k | k
  · have h1 := canon_lt h i j hi hj k
    have h2 := h.in_ s[j] (List.getElem_mem _)
    unfold inB at h2
    omega
  · obtain rfl : i = j := by omega
    exact Int.le_refl _
theorem has_none {s : List R2} (x : Int) (h1 : ∀ t (hl : t < s.length), ¬ x ≤ s[t].2) : hasB x s = false := by
  rw [← Bool.not_eq_true, hasB_iff]
  rintro ⟨r, hr, _, k⟩
  obtain ⟨t, ht, rfl⟩ := List.getElem_of_mem hr
  exact h1 t ht k
theorem has_at {s : List R2} (h : Canon s) (x : Int) (k : Nat) (hk : k < s.length) (h1 : ∀ t (_ : t < k) (hl : t < s.length), ¬ x ≤ s[t].2) (h2 : x ≤ s[k].2) : hasB x s = decide (s[k].1 ≤ x) := by
  refine hasB_eq ?_
  rw [decide_eq_true_eq]
  constructor
  · rintro ⟨r, hr, k1, k2⟩
    obtain ⟨t, ht, rfl⟩ := List.getElem_of_mem hr
    rcases Nat.lt_trichotomy t k with q | q | q
    · exact absurd k2 (h1 t q ht)
    · subst q
      exact k1
    · have := canon_lt h k t hk ht q
      omega
  · exact fun q => ⟨s[k], List.getElem_mem _, q, h2⟩
end Go.Proofs.Ytpjnnbegimaaeab

/- Size of a set; no condition beside those told. -/
namespace Go.Proofs.Ytpjnnbegimaaeab
open Go.RowKit

theorem size_take {s : List R2} (hs : ∀ r ∈ s, inB r) : ∀ k, k ≤ s.length → 0 ≤ sizeL (s.take k) ∧ sizeL (s.take k) ≤ 1114112 * (k : Int)
  | 0, _ => by simp [sizeL]
  | k + 1, h => by
    have h1 := size_take hs k (by omega)
    have h2 := hs s[k] (List.getElem_mem _)
    unfold inB at h2
    rw [List.take_succ_eq_append_getElem (by omega), sizeL_append, sizeL_cons, sizeL_nil]
    omega
theorem size_step {s : List R2} {k : Nat} (h : k < s.length) : sizeL (s.take (k + 1)) = sizeL (s.take k) + ((s[k]).2 - (s[k]).1 + 1) := by
  rw [List.take_succ_eq_append_getElem h, sizeL_append, sizeL_cons, sizeL_nil]
  omega

set_option maxRecDepth 100000 in
set_option maxHeartbeats 4000000 in
theorem size_any (a : Option Addr) (cap : Nat) (s : List R2) (w : World) (hl : Rg w a s) (hs : ∀ r ∈ s, inB r) (hb : s.length ≤ 1048576) :
    Calls Try.prog 20 #[.slice a s.length cap] w fun e w' => e = .returned (.int .i64 (sizeL s)) ∧ Touch (fun _ => False) w w' := by
  have HL := hid hl
  have HS := hid hs
  clear hl hs
  go_enter Try.func20, Try.ntmps20
  go_wp2_with fail
  go_loopg [3, 8] s.length (fun gk n i wr => ∃ k : Nat, k + gk = s.length ∧ i = .int .i64 (k : Nat) ∧ n = .int .i64 (sizeL (s.take k)) ∧ Touch (fun _ => False) w wr)
  case atStart => exact ⟨0, by omega, rfl, rfl, Touch.refl _ _⟩
  case round =>
    obtain ⟨k, hk, rfl, rfl, htc⟩ := hrel
    have TC := hid htc
    have R1 := hid (HL.out.new htc)
    clear htc
    have hsz := size_take HS.out k (by omega)
    by_cases hlt : k < s.length
    · obtain ⟨b, o, ha, hbl, hcell⟩ : ∃ b o, a = some ⟨b, o, none⟩ ∧ b < wr.heap.size ∧ ∀ i (h : i < s.length), wr.cell? ⟨b, o + i * 2, none⟩ = some (.int .i64 (s[i]).1) ∧ wr.cell? ⟨b, o + i * 2 + 1, none⟩ = some (.int .i64 (s[i]).2) := by
        rcases R1.out with h | h
        · rw [h] at hlt; simp at hlt
        · exact h
      subst ha
      obtain ⟨d0, d1⟩ := hcell k hlt
      have hr1 := HS.out s[k] (List.getElem_mem _)
      unfold inB at hr1
      have HST := hid (size_step hlt)
      obtain ⟨r, hr⟩ : ∃ r, r = s[k] := ⟨_, rfl⟩
      rw [← hr] at d0 d1 hr1 HST
      obtain ⟨x, y⟩ := r
      dsimp only at d0 d1 hr1 HST
      obtain ⟨z, hz⟩ : ∃ z, z = sizeL (s.take k) := ⟨_, rfl⟩
      rw [← hz] at HST hsz ⊢
      clear hcell hr R1 hz
      go_wp2_with fail
      go_roundg (gk - 1)
      case measure => omega
      case rel => exact ⟨k + 1, by omega, by go_num, by rw [HST.out], by first | exact (TC.out.alloc _) | exact ((TC.out.alloc _).drewN _)⟩
    · obtain rfl : k = s.length := by omega
      rw [List.take_length]
      go_wp2
      go_ret
      exact ⟨rfl, TC.out⟩

theorem size_says (a : Option Addr) (cap : Nat) (s : List R2) (w : World) (hl : Rg w a s) (hs : Canon s) :
    Calls Try.prog 20 #[.slice a s.length cap] w fun e w' => e = .returned (.int .i64 (sizeL s)) ∧ Touch (fun _ => False) w w' :=
  size_any a cap s w hl hs.in_ (by have := canon_len hs; omega)
end Go.Proofs.Ytpjnnbegimaaeab
