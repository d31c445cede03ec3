/- A table in memory: its codes and its cells; a row more. -/
import Derived.Test.YtokelpnmeknncabAz
import Derived.Test.YtokelpnmeknncabTm
import Derived.Test.YtokelpnmeknncabRd
namespace Go.Proofs.Ytokelpnmeknncab
open Go.RowKit

def cell3 (C : Tb.Cells) (i : Nat) : List Value := [.int .i64 (C.S i : Nat), .int .i64 (C.L i : Nat), .int .i64 (C.F i : Nat)]
def cellV (C : Tb.Cells) (n : Nat) : List Value := (List.range n).flatMap (cell3 C)

theorem cellV_succ (C : Tb.Cells) (n : Nat) : cellV C (n + 1) = cellV C n ++ cell3 C n := by
  unfold cellV
  rw [List.range_succ, List.flatMap_append]
  simp

theorem length_cellV (C : Tb.Cells) : ∀ n, (cellV C n).length = n * 3
  | 0 => rfl
  | n + 1 => by rw [cellV_succ, List.length_append, length_cellV C n]; simp [cell3]; omega

theorem cellV_get (C : Tb.Cells) (i j : Nat) (hj : j < 3) : ∀ n, i < n → (cellV C n)[i * 3 + j]? = (cell3 C i)[j]?
  | 0, h => by omega
  | n + 1, h => by
    rw [cellV_succ]
    have hl := length_cellV C n
    by_cases e : i = n
    · subst e
      rw [List.getElem?_append_right (by omega), hl]
      congr 1
      omega
    · rw [List.getElem?_append_left (by omega)]
      exact cellV_get C i j hj n (by omega)

theorem cellV_ext (C D : Tb.Cells) : ∀ n, (∀ i, i < n → C.S i = D.S i ∧ C.L i = D.L i ∧ C.F i = D.F i) → cellV C n = cellV D n
  | 0, _ => rfl
  | n + 1, h => by
    obtain ⟨h1, h2, h3⟩ := h n (by omega)
    rw [cellV_succ, cellV_succ, cellV_ext C D n (fun i hi => h i (by omega)), cell3, cell3, h1, h2, h3]

/-- The cells, nought from sz on. -/
def cut (C : Tb.Cells) (sz : Nat) : Tb.Cells := ⟨fun i => if i < sz then C.S i else 0, fun i => if i < sz then C.L i else 0, fun i => if i < sz then C.F i else 0⟩

theorem cut_same (C : Tb.Cells) (sz i : Nat) (h : i < sz) : (cut C sz).S i = C.S i ∧ (cut C sz).L i = C.L i ∧ (cut C sz).F i = C.F i := by
  refine ⟨?_, ?_, ?_⟩ <;> exact if_pos h
theorem cut_past (C : Tb.Cells) (sz i : Nat) (h : sz ≤ i) : (cut C sz).S i = 0 ∧ (cut C sz).L i = 0 ∧ (cut C sz).F i = 0 := by
  refine ⟨?_, ?_, ?_⟩ <;> exact if_neg (by omega)

theorem cellV_cut (C : Tb.Cells) (sz : Nat) : ∀ n, cellV (cut C sz) (sz + n) = cellV C sz ++ List.replicate (n * 3) (.int .i64 0)
  | 0 => by
    rw [Nat.add_zero, Nat.zero_mul, List.replicate_zero, List.append_nil]
    exact cellV_ext _ _ _ (fun i hi => cut_same C sz i hi)
  | n + 1 => by
    obtain ⟨h1, h2, h3⟩ := cut_past C sz (sz + n) (by omega)
    rw [← Nat.add_assoc, cellV_succ, cellV_cut C sz n, cell3, h1, h2, h3, List.append_assoc]
    congr 1
    rw [show (n + 1) * 3 = n * 3 + 3 by omega, ← List.replicate_append_replicate]
    rfl

def Tab (w : World) (b : Nat) (cv : Value) (C : Tb.Cells) (sz : Nat) : Prop :=
  ∃ v, w.heap[b]? = some (.cells #[cv, v] 59 (0, 0)) ∧ w.ownsRow 0 69 3 v sz (cellV C sz)

/-- The blocks that the table at b uses for its cells. -/
def TFp (w : World) (b k : Nat) : Prop := k = b ∨ ∃ c v, w.heap[b]? = some (.cells #[c, v] 59 (0, 0)) ∧ v.ownBlock = some k

structure TStep (w w' : World) (b : Nat) (cv : Value) (C : Tb.Cells) (sz : Nat) : Prop where
  tab : Tab w' b cv C sz
  touch : Touch (TFp w b) w w'
  fp : ∀ k, TFp w' b k → TFp w b k ∨ w.heap.size ≤ k

theorem TStep.refl {w : World} {b : Nat} {cv : Value} {C : Tb.Cells} {sz : Nat} (h : Tab w b cv C sz) : TStep w w b cv C sz := ⟨h, Touch.refl _ _, fun _ h => .inl h⟩
theorem TStep.trans {a w c : World} {b : Nat} {cv : Value} {C D : Tb.Cells} {sz sz' : Nat} (h : TStep a w b cv C sz) (k : TStep w c b cv D sz') : TStep a c b cv D sz' :=
  ⟨k.tab, h.touch.trans k.touch (fun i hi e => (h.fp i e).elim id (fun g => by omega)),
    fun i e => (k.fp i e).elim (fun e => h.fp i e) (fun e => .inr (Nat.le_trans h.touch.size e))⟩

theorem Tab.lt {w : World} {b : Nat} {cv : Value} {C : Tb.Cells} {sz : Nat} (h : Tab w b cv C sz) : b < w.heap.size := by
  obtain ⟨v, h, _⟩ := h
  exact lt_of_block h
theorem Tab.fp_lt {w : World} {b : Nat} {cv : Value} {C : Tb.Cells} {sz : Nat} (h : Tab w b cv C sz) {k : Nat} (hk : TFp w b k) : k < w.heap.size := by
  rcases hk with rfl | ⟨c, v, hb, ho⟩
  · exact h.lt
  · obtain ⟨v', hb', hown⟩ := h
    rw [hb] at hb'
    simp at hb'
    obtain ⟨rfl, rfl⟩ := hb'
    exact (hown.lt k ho).2
theorem Tab.kept {w w' : World} {b : Nat} {cv : Value} {C : Tb.Cells} {sz : Nat} (h : Tab w b cv C sz) (hk : ∀ k, TFp w b k → w'.heap[k]? = w.heap[k]?) : Tab w' b cv C sz := by
  obtain ⟨v, hb, hown⟩ := h
  refine ⟨v, (hk b (.inl rfl)).trans hb, hown.1, ?_⟩
  rcases hown.2 with h2 | ⟨g, cap, cur, hv, hg, hh, r⟩
  · exact .inl h2
  · exact .inr ⟨g, cap, cur, hv, hg, (hk g (.inr ⟨cv, v, hb, by rw [hv]; rfl⟩)).trans hh, r⟩

theorem tab_own_ne {w : World} {b : Nat} {cv v : Value} {n : Nat} {xs : List Value} (hb : w.heap[b]? = some (.cells #[cv, v] 59 (0, 0))) (w' : World) (v' : Value) (hb' : w'.heap[b]? = some (.cells #[cv, v] 59 (0, 0))) (h : w'.ownsRow 0 69 3 v' n xs) : v'.ownBlock ≠ some b := by
  intro e
  rcases h.2 with ⟨rfl, _⟩ | ⟨g, cap, cur, rfl, _, hh, _⟩
  · simp [Value.ownBlock] at e
  · simp [Value.ownBlock] at e
    subst e
    rw [hb'] at hh
    simp at hh

set_option maxHeartbeats 1000000 in
theorem addRow_raw (b n : Nat) (cv v : Value) (xs : List Value) (w : World) (hv : ∃ a cap, v = .slice a n cap) (hown : w.ownsRow 0 69 3 v n xs) (hb : w.heap[b]? = some (.cells #[cv, v] 59 (0, 0))) (hn : n ≤ 1000000) :
    Calls Try.prog 39 #[.pointer (some ⟨b, 0, none⟩)] w fun e w' => e = .returned (.int .i64 n) ∧
      ∃ w1 v', w1.ownsRow 0 69 3 v' (n + 32) (xs ++ List.replicate 96 (.int .i64 0)) ∧ w.grownBy w1 v.ownBlock ∧ (v'.ownBlock = v.ownBlock ∨ v'.ownBlock = some w.heap.size) ∧ w' = w1.setCell ⟨b, 1, none⟩ v' := by
  have hblt := lt_of_block hb
  have hbv := tab_own_ne hb w v hb hown
  have h1 := cell_two1 hb
  have key : ∀ (v' : Value) (w1 : World), w1.ownsRow 0 69 3 v' (n + 32) (xs ++ List.replicate 96 (.int .i64 0)) → w.grownBy w1 v.ownBlock → (∃ g cap, v' = .slice (some ⟨g, 0, none⟩) (n + 32) cap) ∧ w1.heap[b]? = some (.cells #[cv, v] 59 (0, 0)) := by
    intro v' w1 ho hg
    refine ⟨?_, by rw [hg.block b hblt (fun e => hbv e.symm)]; exact hb⟩
    rcases ho.2 with ⟨_, h⟩ | ⟨g, cap, cur, rfl, _⟩
    · omega
    · exact ⟨g, cap, rfl⟩
  have KEY := hid key
  have OW := hid hown
  clear key hb hbv hblt hown
  obtain ⟨a, cap, rfl⟩ := hv
  go_enter Try.func39, Try.ntmps39
  go_wp2_with (first
    | (at_builtin; refine wpList_zeros _ rfl _ _ rfl _ _ _ rfl rfl OW.out (by omega) ?_)
    | go_in)
  intro v' w1 ho hg hwh
  obtain ⟨⟨g, cap1, hv1⟩, hb1⟩ := KEY.out v' w1 ho hg
  rw [hv1] at ho hwh ⊢
  have H1 := hid ho
  have H2 := hid hg
  have H3 := hid hwh
  have k1 := cell_two1 hb1
  have kf := free_two (i := 1) hb1
  clear ho hg hwh hv1 KEY OW h1
  go_wp2
  go_ret
  exact ⟨rfl, w1, _, H1.out, H2.out, H3.out, rfl⟩

theorem own_shape {w : World} {base n : Nat} {e : TypeId} {sz : Nat} {v : Value} {xs : List Value} (h : w.ownsRow base e sz v n xs) : ∃ a cap, v = .slice a n cap := by
  rcases h.2 with ⟨rfl, rfl⟩ | ⟨g, cap, cur, rfl, _⟩
  · exact ⟨none, 0, rfl⟩
  · exact ⟨_, cap, rfl⟩

theorem addRow_any (b sz : Nat) (cv : Value) (C : Tb.Cells) (w : World) (h : Tab w b cv C sz) (hn : sz ≤ 1000000) :
    Calls Try.prog 39 #[.pointer (some ⟨b, 0, none⟩)] w fun e w' => e = .returned (.int .i64 sz) ∧ TStep w w' b cv (cut C sz) (sz + 32) := by
  obtain ⟨v, hb, hown⟩ := h
  refine (addRow_raw b sz cv v _ w (own_shape hown) hown hb hn).mono ?_
  rintro e w' ⟨rfl, w1, v', ho, hg, hwh, rfl⟩
  have hblt := lt_of_block hb
  have hbv := tab_own_ne hb w v hb hown
  have hb1 : w1.heap[b]? = some (.cells #[cv, v] 59 (0, 0)) := by rw [hg.block b hblt (fun e => hbv e.symm)]; exact hb
  have hvb := tab_own_ne hb w1 v' hb1 ho
  have kb := two_set1 (x := v') hb1
  have hfb : TFp w b b := .inl rfl
  have hfv : ∀ k, v.ownBlock = some k → TFp w b k := fun k hk => .inr ⟨cv, v, hb, hk⟩
  refine ⟨rfl, ⟨v', kb, ?_⟩, ?_, ?_⟩
  · refine ownsRow_setCell_other ?_ hvb _
    rw [cellV_cut C sz 32]
    exact ho
  · exact ((Touch.refl _ w).grown hg (fun k hk _ => hfv k hk)).setCell (fun _ => hfb) _
  · intro k hk
    rcases hk with hk | ⟨c2, v2, hk, hok⟩
    · exact .inl (.inl hk)
    · rw [kb] at hk
      simp at hk
      obtain ⟨rfl, rfl⟩ := hk
      rcases hwh with h | h
      · exact .inl (hfv k (by rw [← h]; exact hok))
      · rw [h] at hok
        simp at hok
        exact .inr (by omega)

/-- A cell of the table. -/
theorem Tab.cells {w : World} {b : Nat} {cv : Value} {C : Tb.Cells} {sz : Nat} (h : Tab w b cv C sz) (hsz : 0 < sz) : ∃ g cap, w.heap[b]? = some (.cells #[cv, .slice (some ⟨g, 0, none⟩) sz cap] 59 (0, 0)) ∧ b ≠ g ∧
    (∀ i, i < sz → w.cell? ⟨g, i * 3, none⟩ = some (.int .i64 (C.S i : Nat)) ∧ w.cell? ⟨g, i * 3 + 1, none⟩ = some (.int .i64 (C.L i : Nat)) ∧ w.cell? ⟨g, i * 3 + 2, none⟩ = some (.int .i64 (C.F i : Nat))) ∧ ∀ j, w.frozen? ⟨g, j, none⟩ = false := by
  obtain ⟨v, hb, hown⟩ := h
  have hne := tab_own_ne hb w v hb hown
  rcases hown.2 with ⟨_, h⟩ | ⟨g, cap, cur, rfl, _, hh, _⟩
  · omega
  · refine ⟨g, cap, hb, fun e => hne (by simp [Value.ownBlock, e]), fun i hi => ?_, fun j => by simp [World.frozen?, hh]⟩
    have c0 := hown.cells (g := g) rfl (i * 3) (.int .i64 (C.S i : Nat)) (by have := cellV_get C i 0 (by decide) sz hi; simpa [cell3] using this)
    have c1 := hown.cells (g := g) rfl (i * 3 + 1) (.int .i64 (C.L i : Nat)) (by have := cellV_get C i 1 (by decide) sz hi; simpa [cell3] using this)
    have c2 := hown.cells (g := g) rfl (i * 3 + 2) (.int .i64 (C.F i : Nat)) (by have := cellV_get C i 2 (by decide) sz hi; simpa [cell3] using this)
    rw [add_zero] at c0 c1 c2
    exact ⟨c0, c1, c2⟩
end Go.Proofs.Ytokelpnmeknncab
