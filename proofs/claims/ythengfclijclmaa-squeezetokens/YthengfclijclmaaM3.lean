/- Texts of this proof, one behind the other: what each says stands ahead of it. -/
import Derived.Test.YthengfclijclmaaM2
/- A table in memory: its codes and its cells; a row more. -/
namespace Go.Proofs.Ythengfclijclmaa
open Go.RowKit

def cell3 (C : Tb.Cells) (i : Nat) : List Value := [.int .i64 (C.S i : Nat), .int .i64 (C.L i : Nat), .int .i64 (C.F i : Nat)]
def cellV (C : Tb.Cells) (n : Nat) : List Value := (List.range n).flatMap (cell3 C)

theorem cellV_succ (C : Tb.Cells) (n : Nat) : cellV C (n + 1) = cellV C n ++ cell3 C n := by
  unfold cellV
  rw [List.range_succ, List.flatMap_append]
  simp

theorem length_cellV (C : Tb.Cells) : ∀ n, (cellV C n).length = n * 3
  | 0 => rfl
  | n + 1 => by rw [cellV_succ, List.length_append, length_cellV C n]; simp [cell3]; omega

theorem cellV_get (C : Tb.Cells) (i j : Nat) (hj : j < 3) : ∀ n, i < n → (cellV C n)[i * 3 + j]? = (cell3 C i)[j]?
  | 0, h => by omega
  | n + 1, h => by
    rw [cellV_succ]
    have hl := length_cellV C n
    by_cases e : i = n
    · subst e
      rw [List.getElem?_append_right (by omega), hl]
      congr 1
      omega
    · rw [List.getElem?_append_left (by omega)]
      exact cellV_get C i j hj n (by omega)

theorem cellV_ext (C D : Tb.Cells) : ∀ n, (∀ i, i < n → C.S i = D.S i ∧ C.L i = D.L i ∧ C.F i = D.F i) → cellV C n = cellV D n
  | 0, _ => rfl
  | n + 1, h => by
    obtain ⟨h1, h2, h3⟩ := h n (by omega)
    rw [cellV_succ, cellV_succ, cellV_ext C D n (fun i hi => h i (by omega)), cell3, cell3, h1, h2, h3]

/-- The cells, nought from sz on. -/
def cut (C : Tb.Cells) (sz : Nat) : Tb.Cells := ⟨fun i => if i < sz then C.S i else 0, fun i => if i < sz then C.L i else 0, fun i => if i < sz then C.F i else 0⟩

theorem cut_same (C : Tb.Cells) (sz i : Nat) (h : i < sz) : (cut C sz).S i = C.S i ∧ (cut C sz).L i = C.L i ∧ (cut C sz).F i = C.F i := by
  refine ⟨?_, ?_, ?_⟩ <;> exact if_pos h
theorem cut_past (C : Tb.Cells) (sz i : Nat) (h : sz ≤ i) : (cut C sz).S i = 0 ∧ (cut C sz).L i = 0 ∧ (cut C sz).F i = 0 := by
  refine ⟨?_, ?_, ?_⟩ <;> exact if_neg (by omega)

theorem cellV_cut (C : Tb.Cells) (sz : Nat) : ∀ n, cellV (cut C sz) (sz + n) = cellV C sz ++ List.replicate (n * 3) (.int .i64 0)
  | 0 => by
    rw [Nat.add_zero, Nat.zero_mul, List.replicate_zero, List.append_nil]
    exact cellV_ext _ _ _ (fun i hi => cut_same C sz i hi)
  | n + 1 => by
    obtain ⟨h1, h2, h3⟩ := cut_past C sz (sz + n) (by omega)
    rw [← Nat.add_assoc, cellV_succ, cellV_cut C sz n, cell3, h1, h2, h3, List.append_assoc]
    congr 1
    rw [show (n + 1) * 3 = n * 3 + 3 by omega, ← List.replicate_append_replicate]
    rfl

def Tab (w : World) (b : Nat) (cv : Value) (C : Tb.Cells) (sz : Nat) : Prop :=
  ∃ v, w.heap[b]? = some (.cells #[cv, v] 148 (0, 0)) ∧ w.ownsRow 0 163 3 v sz (cellV C sz)

/-- The blocks that the table at b uses for its cells. -/
def TFp (w : World) (b k : Nat) : Prop := k = b ∨ ∃ c v, w.heap[b]? = some (.cells #[c, v] 148 (0, 0)) ∧ v.ownBlock = some k

structure TStep (w w' : World) (b : Nat) (cv : Value) (C : Tb.Cells) (sz : Nat) : Prop where
  tab : Tab w' b cv C sz
  touch : Touch (TFp w b) w w'
  fp : ∀ k, TFp w' b k → TFp w b k ∨ w.heap.size ≤ k

theorem TStep.refl {w : World} {b : Nat} {cv : Value} {C : Tb.Cells} {sz : Nat} (h : Tab w b cv C sz) : TStep w w b cv C sz := ⟨h, Touch.refl _ _, fun _ h => .inl h⟩
theorem TStep.trans {a w c : World} {b : Nat} {cv : Value} {C D : Tb.Cells} {sz sz' : Nat} (h : TStep a w b cv C sz) (k : TStep w c b cv D sz') : TStep a c b cv D sz' :=
  ⟨k.tab, h.touch.trans k.touch (fun i hi e => (h.fp i e).elim id (fun g => by omega)),
    fun i e => (k.fp i e).elim (fun e => h.fp i e) (fun e => .inr (Nat.le_trans h.touch.size e))⟩

theorem Tab.lt {w : World} {b : Nat} {cv : Value} {C : Tb.Cells} {sz : Nat} (h : Tab w b cv C sz) : b < w.heap.size := by
  obtain ⟨v, h, _⟩ := h
  exact lt_of_block h
theorem Tab.fp_lt {w : World} {b : Nat} {cv : Value} {C : Tb.Cells} {sz : Nat} (h : Tab w b cv C sz) {k : Nat} (hk : TFp w b k) : k < w.heap.size := by
  rcases hk with rfl | ⟨c, v, hb, ho⟩
  · exact h.lt
  · obtain ⟨v', hb', hown⟩ := h
    rw [hb] at hb'
    simp at hb'
    obtain ⟨rfl, rfl⟩ := hb'
    exact (hown.lt k ho).2
theorem Tab.kept {w w' : World} {b : Nat} {cv : Value} {C : Tb.Cells} {sz : Nat} (h : Tab w b cv C sz) (hk : ∀ k, TFp w b k → w'.heap[k]? = w.heap[k]?) : Tab w' b cv C sz := by
  obtain ⟨v, hb, hown⟩ := h
  refine ⟨v, (hk b (.inl rfl)).trans hb, hown.1, ?_⟩
  rcases hown.2 with h2 | ⟨g, cap, cur, hv, hg, hh, r⟩
  · exact .inl h2
  · exact .inr ⟨g, cap, cur, hv, hg, (hk g (.inr ⟨cv, v, hb, by rw [hv]; rfl⟩)).trans hh, r⟩

theorem tab_own_ne {w : World} {b : Nat} {cv v : Value} {n : Nat} {xs : List Value} (hb : w.heap[b]? = some (.cells #[cv, v] 148 (0, 0))) (w' : World) (v' : Value) (hb' : w'.heap[b]? = some (.cells #[cv, v] 148 (0, 0))) (h : w'.ownsRow 0 163 3 v' n xs) : v'.ownBlock ≠ some b := by
  intro e
  rcases h.2 with ⟨rfl, _⟩ | ⟨g, cap, cur, rfl, _, hh, _⟩
  · simp [Value.ownBlock] at e
  · simp [Value.ownBlock] at e
    subst e
    rw [hb'] at hh
    simp at hh

set_option maxHeartbeats 1000000 in
theorem addRow_raw (b n : Nat) (cv v : Value) (xs : List Value) (w : World) (hv : ∃ a cap, v = .slice a n cap) (hown : w.ownsRow 0 163 3 v n xs) (hb : w.heap[b]? = some (.cells #[cv, v] 148 (0, 0))) (hn : n ≤ 1000000) :
    Calls Try.prog 91 #[.pointer (some ⟨b, 0, none⟩)] w fun e w' => e = .returned (.int .i64 n) ∧
      ∃ w1 v', w1.ownsRow 0 163 3 v' (n + 32) (xs ++ List.replicate 96 (.int .i64 0)) ∧ w.grownBy w1 v.ownBlock ∧ (v'.ownBlock = v.ownBlock ∨ v'.ownBlock = some w.heap.size) ∧ w' = w1.setCell ⟨b, 1, none⟩ v' := by
  have hblt := lt_of_block hb
  have hbv := tab_own_ne hb w v hb hown
  have h1 := cell_two1 hb
  have key : ∀ (v' : Value) (w1 : World), w1.ownsRow 0 163 3 v' (n + 32) (xs ++ List.replicate 96 (.int .i64 0)) → w.grownBy w1 v.ownBlock → (∃ g cap, v' = .slice (some ⟨g, 0, none⟩) (n + 32) cap) ∧ w1.heap[b]? = some (.cells #[cv, v] 148 (0, 0)) := by
    intro v' w1 ho hg
    refine ⟨?_, by rw [hg.block b hblt (fun e => hbv e.symm)]; exact hb⟩
    rcases ho.2 with ⟨_, h⟩ | ⟨g, cap, cur, rfl, _⟩
    · omega
    · exact ⟨g, cap, rfl⟩
  have KEY := hid key
  have OW := hid hown
  clear key hb hbv hblt hown
  obtain ⟨a, cap, rfl⟩ := hv
  go_enter Try.func91, Try.ntmps91
  go_wp2_with (first
    | (at_builtin; refine wpList_zeros _ rfl _ _ rfl _ _ _ rfl rfl OW.out (by omega) ?_)
    | go_in)
  intro v' w1 ho hg hwh
  obtain ⟨⟨g, cap1, hv1⟩, hb1⟩ := KEY.out v' w1 ho hg
  rw [hv1] at ho hwh ⊢
  have H1 := hid ho
  have H2 := hid hg
  have H3 := hid hwh
  have k1 := cell_two1 hb1
  have kf := free_two (i := 1) hb1
  clear ho hg hwh hv1 KEY OW h1
  go_wp2
  go_ret
  exact ⟨rfl, w1, _, H1.out, H2.out, H3.out, rfl⟩

theorem own_shape {w : World} {base n : Nat} {e : TypeId} {sz : Nat} {v : Value} {xs : List Value} (h : w.ownsRow base e sz v n xs) : ∃ a cap, v = .slice a n cap := by
  rcases h.2 with ⟨rfl, rfl⟩ | ⟨g, cap, cur, rfl, _⟩
  · exact ⟨none, 0, rfl⟩
  · exact ⟨_, cap, rfl⟩

theorem addRow_any (b sz : Nat) (cv : Value) (C : Tb.Cells) (w : World) (h : Tab w b cv C sz) (hn : sz ≤ 1000000) :
    Calls Try.prog 91 #[.pointer (some ⟨b, 0, none⟩)] w fun e w' => e = .returned (.int .i64 sz) ∧ TStep w w' b cv (cut C sz) (sz + 32) := by
  obtain ⟨v, hb, hown⟩ := h
  refine (addRow_raw b sz cv v _ w (own_shape hown) hown hb hn).mono ?_
  rintro e w' ⟨rfl, w1, v', ho, hg, hwh, rfl⟩
  have hblt := lt_of_block hb
  have hbv := tab_own_ne hb w v hb hown
  have hb1 : w1.heap[b]? = some (.cells #[cv, v] 148 (0, 0)) := by rw [hg.block b hblt (fun e => hbv e.symm)]; exact hb
  have hvb := tab_own_ne hb w1 v' hb1 ho
  have kb := two_set1 (x := v') hb1
  have hfb : TFp w b b := .inl rfl
  have hfv : ∀ k, v.ownBlock = some k → TFp w b k := fun k hk => .inr ⟨cv, v, hb, hk⟩
  refine ⟨rfl, ⟨v', kb, ?_⟩, ?_, ?_⟩
  · refine ownsRow_setCell_other ?_ hvb _
    rw [cellV_cut C sz 32]
    exact ho
  · exact ((Touch.refl _ w).grown hg (fun k hk _ => hfv k hk)).setCell (fun _ => hfb) _
  · intro k hk
    rcases hk with hk | ⟨c2, v2, hk, hok⟩
    · exact .inl (.inl hk)
    · rw [kb] at hk
      simp at hk
      obtain ⟨rfl, rfl⟩ := hk
      rcases hwh with h | h
      · exact .inl (hfv k (by rw [← h]; exact hok))
      · rw [h] at hok
        simp at hok
        exact .inr (by omega)

/-- A cell of the table. -/
theorem Tab.cells {w : World} {b : Nat} {cv : Value} {C : Tb.Cells} {sz : Nat} (h : Tab w b cv C sz) (hsz : 0 < sz) : ∃ g cap, w.heap[b]? = some (.cells #[cv, .slice (some ⟨g, 0, none⟩) sz cap] 148 (0, 0)) ∧ b ≠ g ∧
    (∀ i, i < sz → w.cell? ⟨g, i * 3, none⟩ = some (.int .i64 (C.S i : Nat)) ∧ w.cell? ⟨g, i * 3 + 1, none⟩ = some (.int .i64 (C.L i : Nat)) ∧ w.cell? ⟨g, i * 3 + 2, none⟩ = some (.int .i64 (C.F i : Nat))) ∧ ∀ j, w.frozen? ⟨g, j, none⟩ = false := by
  obtain ⟨v, hb, hown⟩ := h
  have hne := tab_own_ne hb w v hb hown
  rcases hown.2 with ⟨_, h⟩ | ⟨g, cap, cur, rfl, _, hh, _⟩
  · omega
  · refine ⟨g, cap, hb, fun e => hne (by simp [Value.ownBlock, e]), fun i hi => ?_, fun j => by simp [World.frozen?, hh]⟩
    have c0 := hown.cells (g := g) rfl (i * 3) (.int .i64 (C.S i : Nat)) (by have := cellV_get C i 0 (by decide) sz hi; simpa [cell3] using this)
    have c1 := hown.cells (g := g) rfl (i * 3 + 1) (.int .i64 (C.L i : Nat)) (by have := cellV_get C i 1 (by decide) sz hi; simpa [cell3] using this)
    have c2 := hown.cells (g := g) rfl (i * 3 + 2) (.int .i64 (C.F i : Nat)) (by have := cellV_get C i 2 (by decide) sz hi; simpa [cell3] using this)
    rw [add_zero] at c0 c1 c2
    exact ⟨c0, c1, c2⟩
end Go.Proofs.Ythengfclijclmaa

/- Peek of a reader. -/
namespace Go.Proofs.Ythengfclijclmaa
open Go.RowKit

theorem ret_two {i j : IntKind} {a b c d : Int} (h : a = c) (k : b = d) : Ending.returned (.tuple #[.int i a, .int j b]) = .returned (.tuple #[.int i c, .int j d]) := by rw [h, k]

theorem wraps_i64 (n : Int) (h₀ : 0 ≤ n) (h₁ : n < 2 ^ 62) : IntKind.i64.wrap n = n := by rw [IntKind.wrap_i64]; omega

theorem i64_or_nat (a b : Nat) (ha : a < 2 ^ 62) (hb : b < 2 ^ 62) : bits .or .i64 (a : Int) (b : Int) = ((a ||| b : Nat) : Int) :=
  (bits_nat .i64 62 (by decide) wraps_i64 a b ha hb).2

theorem byte_get (s : ByteArray) (i : Nat) (h : i < s.size) : s[i].toNat = Bt.byteN s i := by
  unfold Bt.byteN
  have : i < s.data.size := h
  unfold Array.getD
  rw [dif_pos this]
  rfl

theorem peek_or (s : ByteArray) (f k : Nat) (hk : k ≤ 4) (h : f + k < s.size) :
    bits .or .i64 (Bt.rval s (8 * f) (8 * k) : Nat) (wrap64 (wrap64 ((s[f + k].toNat : Nat) : Int) * 2 ^ (8 * k))) = ((Bt.rval s (8 * f) (8 * (k + 1)) : Nat) : Int) := by
  have hv := Bt.rval_lt s (8 * f) (8 * k)
  have hb := Bt.byteN_lt s (f + k)
  have hp : 2 ^ (8 * k) ≤ 2 ^ 32 := Nat.pow_le_pow_right (by decide) (by omega)
  have hm : Bt.byteN s (f + k) * 2 ^ (8 * k) < 2 ^ 40 := by
    calc Bt.byteN s (f + k) * 2 ^ (8 * k) ≤ 255 * 2 ^ 32 := Nat.mul_le_mul (by omega) hp
      _ < 2 ^ 40 := by decide
  rw [byte_get s _ h]
  have e1 : wrap64 ((Bt.byteN s (f + k) : Nat) : Int) = ((Bt.byteN s (f + k) : Nat) : Int) := by unfold wrap64; omega
  have e2 : wrap64 (((Bt.byteN s (f + k) : Nat) : Int) * 2 ^ (8 * k)) = ((Bt.byteN s (f + k) * 2 ^ (8 * k) : Nat) : Int) := by
    have : ((Bt.byteN s (f + k) * 2 ^ (8 * k) : Nat) : Int) = ((Bt.byteN s (f + k) : Nat) : Int) * 2 ^ (8 * k) := by simp
    rw [← this]
    unfold wrap64
    omega
  rw [e1, e2, i64_or_nat _ _ (by omega) (by omega), Nat.or_comm, nat_join (8 * k) _ _ (by simp) hv]
  rw [show 8 * (k + 1) = 8 * k + 8 by omega, Bt.rval_add, show 8 * f + 8 * k = 8 * (f + k) by omega, Bt.rval_byte, Nat.mul_comm, Nat.add_comm]

theorem peek_and (v d m : Nat) (hm : m ≤ 32) : bits .and .i64 (((v : Nat) : Int) / 2 ^ d) (wrap64 (wrap64 (2 ^ m) - 1)) = ((v / 2 ^ d % 2 ^ m : Nat) : Int) := by
  have hp : 2 ^ m ≤ 2 ^ 32 := Nat.pow_le_pow_right (by decide) hm
  have hp0 : 0 < 2 ^ m := Nat.pow_pos (by decide)
  have hc : (2 : Int) ^ m = ((2 ^ m : Nat) : Int) := by simp
  have e : wrap64 (wrap64 (2 ^ m) - 1) = 2 ^ m - 1 := by rw [hc]; unfold wrap64; omega
  rw [e, i64_and_mask _ m (by omega)]
  simp

set_option maxHeartbeats 1000000 in
theorem peek_yes (b : Nat) (s : ByteArray) (t n : Nat) (w : World) (r : Rd w b s t) (hs : s.size ≤ 140737488355328) (ht : t ≤ 8 * s.size) (hn : n ≤ 32) :
    Calls Try.prog 65 #[.pointer (some ⟨b, 0, none⟩), .int .i64 n] w fun e w' => e = .returned (.tuple #[.int .i64 (Bt.rval s t (min n (8 * s.size - t))), .int .i64 (min n (8 * s.size - t) : Nat)]) ∧ Still w w' := by
  obtain ⟨m, hm⟩ : ∃ m, min n (8 * s.size - t) = m := ⟨_, rfl⟩
  have hml : m ≤ 32 ∧ m ≤ 8 * s.size - t := by omega
  have HM : Hid _ := hm
  rw [hm]
  clear hm
  go_enter Try.func65, Try.ntmps65
  go_wp2_with (first | (go_at_call 35; refine (fits_yes _ _ (by omega) (by omega)).mono ?_; rintro e w ⟨rfl, rfl⟩))
  refine (left_any b s t _ r hs ht).mono ?_
  rintro e w1 ⟨rfl, hw1⟩
  have HS : Hid _ := hw1
  have r1 := hw1.rd r
  have c0 := r1.c0
  have c1 := r1.c1
  clear r r1 hw1
  by_cases hle : (n : Int) ≤ 8 * (s.size : Int) - t
  all_goals
    go_wp2_with fail
    first
      | (have hmn : m = n := by have := HM.out; omega
         subst hmn)
      | rw [show 8 * (s.size : Int) - (t : Int) = (m : Int) by have := HM.out; omega]
    clear hle
    go_region
    all_goals go_wp2_with fail
    refine (whole_any _ _ (by omega) (by omega)).mono ?_
    rintro e w2 ⟨rfl, rfl⟩
    obtain ⟨c, hc⟩ : ∃ c : Nat, (t % 8 + m + 7) / 8 = c := ⟨_, rfl⟩
    rw [show ((t : Int) % 8 + (m : Int) + 7) / 8 = (c : Int) by omega]
    have HC : Hid _ := hc
    have hcs : t / 8 + c ≤ s.size := by omega
    have hc5 : c ≤ 5 := by omega
    clear hc
    go_wp2_with fail
    go_loop [9, 36] (fun v i => ∃ k : Nat, k ≤ c ∧ i = .int .i64 k ∧ v = .int .i64 (Bt.rval s (8 * (t / 8)) (8 * k))) (fun _ i => c - (intOf i).toNat)
    case atStart => exact ⟨0, Nat.zero_le _, rfl, rfl⟩
    case round =>
      obtain ⟨k, hk, rfl, rfl⟩ := hrel
      by_cases hlt : k < c
      · have hix : t / 8 + k < s.size := by omega
        go_wp2
        go_round
        case rel => exact ⟨k + 1, by omega, by go_num, by rw [peek_or s (t / 8) k (by omega) hix]⟩
        case measure => simp [intOf]; omega
      · obtain rfl : k = c := by omega
        go_wp2
        go_region
        all_goals go_wp2
        all_goals go_ret2
        all_goals exact ⟨ret_two (by rw [peek_and _ _ _ hml.1, Bt.rval_peek s t m k (by have := HC.out; omega)]) rfl, HS.out.drew.drew⟩
end Go.Proofs.Ythengfclijclmaa

/- Take and Bytes of a reader. -/
namespace Go.Proofs.Ythengfclijclmaa
open Go.RowKit

/-- The reader at b has taken t bits of s; of what was there only its block may have turned. -/
structure RStep (w w' : World) (b : Nat) (s : ByteArray) (t : Nat) : Prop where
  rd : Rd w' b s t
  touch : Touch (fun k => k = b) w w'

theorem RStep.refl {w : World} {b : Nat} {s : ByteArray} {t : Nat} (r : Rd w b s t) : RStep w w b s t := ⟨r, Touch.refl _ _⟩
theorem RStep.trans {a w c : World} {b : Nat} {s : ByteArray} {t t' : Nat} (h : RStep a w b s t) (k : RStep w c b s t') : RStep a c b s t' := ⟨k.rd, h.touch.trans k.touch (fun _ _ e => e)⟩
theorem Still.rstep {w w' : World} {b : Nat} {s : ByteArray} {t : Nat} (h : Still w w') (r : Rd w b s t) : RStep w w' b s t := ⟨h.rd r, h.touch _⟩
theorem Rd.step {w w' : World} {b : Nat} {s : ByteArray} {t : Nat} (r : Rd w b s t) (h : Still w w') (t' : Nat) : RStep w (w'.setCell ⟨b, 1, none⟩ (.int .i64 t')) b s t' :=
  ⟨(h.rd r).set, (h.touch (fun k => k = b)).setCell (p := ⟨b, 1, none⟩) (fun _ => rfl) _⟩

theorem peek_no (b : Nat) (n : Int) (w : World) (h : n < 0 ∨ 32 < n) :
    Calls Try.prog 65 #[.pointer (some ⟨b, 0, none⟩), .int .i64 n] w fun e w' => e = .returned (.tuple #[.int .i64 0, .int .i64 0]) ∧ w' = w := by
  go_enter Try.func65, Try.ntmps65
  go_wp2_with (go_at_call 35; refine (fits_no _ _ h).mono ?_; rintro e w ⟨rfl, rfl⟩)
  go_ret2
  exact ⟨rfl, rfl⟩

theorem take_no (b : Nat) (n : Int) (w : World) (h : n < 0 ∨ 32 < n) :
    Calls Try.prog 47 #[.pointer (some ⟨b, 0, none⟩), .int .i64 n] w fun e w' => e = .returned (.tuple #[.int .i64 0, .int .i64 1]) ∧ w' = w := by
  go_enter Try.func47, Try.ntmps47
  go_wp2_with (go_at_call 35; refine (fits_no _ _ h).mono ?_; rintro e w ⟨rfl, rfl⟩)
  go_ret2
  exact ⟨rfl, rfl⟩

set_option maxHeartbeats 400000 in
theorem take_yes (b : Nat) (s : ByteArray) (t n : Nat) (w : World) (r : Rd w b s t) (hs : s.size ≤ 140737488355328) (hn : n ≤ 32) (hl : t + n ≤ 8 * s.size) :
    Calls Try.prog 47 #[.pointer (some ⟨b, 0, none⟩), .int .i64 n] w fun e w' => e = .returned (.tuple #[.int .i64 (Bt.rval s t n : Nat), .int .i64 0]) ∧ RStep w w' b s (t + n) := by
  have hp := peek_yes b s t n w r hs (by omega) hn
  rw [show min n (8 * s.size - t) = n by omega] at hp
  have HP : Hid _ := hp
  clear hp
  go_enter Try.func47, Try.ntmps47
  go_wp2_with (go_at_call 35; refine (fits_yes _ _ (by omega) (by omega)).mono ?_; rintro e w ⟨rfl, rfl⟩)
  refine Calls.mono HP.out ?_
  rintro e w1 ⟨rfl, hst⟩
  have H : Hid _ := hst
  have r1 := hst.rd r
  have c1 := r1.c1
  have f1 := r1.f1
  clear HP hst r1
  go_wp2
  go_ret2
  exact ⟨rfl, r.step H.out (t + n)⟩

set_option maxHeartbeats 400000 in
theorem take_end (b : Nat) (s : ByteArray) (t n : Nat) (w : World) (r : Rd w b s t) (hs : s.size ≤ 140737488355328) (hn : n ≤ 32) (ht : t ≤ 8 * s.size) (hl : 8 * s.size < t + n) :
    Calls Try.prog 47 #[.pointer (some ⟨b, 0, none⟩), .int .i64 n] w fun e w' => e = .returned (.tuple #[.int .i64 0, .int .i64 3]) ∧ Still w w' := by
  have hp := peek_yes b s t n w r hs (by omega) hn
  obtain ⟨m, hm⟩ : ∃ m, 8 * s.size - t = m := ⟨_, rfl⟩
  rw [show min n (8 * s.size - t) = m by omega] at hp
  have hmn : m < n := by omega
  have HP : Hid _ := hp
  clear hp hm
  go_enter Try.func47, Try.ntmps47
  go_wp2_with (go_at_call 35; refine (fits_yes _ _ (by omega) (by omega)).mono ?_; rintro e w ⟨rfl, rfl⟩)
  refine Calls.mono HP.out ?_
  rintro e w1 ⟨rfl, hst⟩
  have H : Hid _ := hst
  clear HP hst
  go_wp2
  go_ret2
  exact ⟨rfl, H.out⟩

end Go.Proofs.Ythengfclijclmaa
