/- Texts of this proof, one behind the other: what each says stands ahead of it. -/
import Derived.Test.YtffjkceedbblgaaGreatDoorM0
import Derived.Test.YtffjkceedbblgaaGreatDoorM7
/- The writer, as the first part of something greater; no condition. -/
namespace Go.Proofs.YtffjkceedbblgaaGreatDoor.G
open Go.RowKit

theorem cell_two0 {rs : List Value} {w : World} {b : Nat} {v u : Value} {t : TypeId} (h : w.heap[b]? = some (.cells ⟨v :: u :: rs⟩ t (0, 0))) : w.cell? ⟨b, 0, none⟩ = some v := by simp [World.cell?, h]
theorem cell_two1 {rs : List Value} {w : World} {b : Nat} {v u : Value} {t : TypeId} (h : w.heap[b]? = some (.cells ⟨v :: u :: rs⟩ t (0, 0))) : w.cell? ⟨b, 1, none⟩ = some u := by simp [World.cell?, h]
theorem free_two {rs : List Value} {w : World} {b i : Nat} {v u : Value} {t : TypeId} (h : w.heap[b]? = some (.cells ⟨v :: u :: rs⟩ t (0, 0))) : w.frozen? ⟨b, i, none⟩ = false := by simp [World.frozen?, h]
theorem two_set0 {rs : List Value} {w : World} {b : Nat} {v u x : Value} {t : TypeId} (h : w.heap[b]? = some (.cells ⟨v :: u :: rs⟩ t (0, 0))) : (w.setCell ⟨b, 0, none⟩ x).heap[b]? = some (.cells ⟨x :: u :: rs⟩ t (0, 0)) := by
  have hlt := lt_of_block h
  have h' : w.heap[b] = .cells ⟨v :: u :: rs⟩ t (0, 0) := by simpa [Array.getElem?_eq_getElem hlt] using h
  show (w.heap.modify b _)[b]? = _
  rw [Array.getElem?_eq_getElem (by simpa using hlt), Array.getElem_modify_self, h']
  rfl
theorem two_set1 {rs : List Value} {w : World} {b : Nat} {v u x : Value} {t : TypeId} (h : w.heap[b]? = some (.cells ⟨v :: u :: rs⟩ t (0, 0))) : (w.setCell ⟨b, 1, none⟩ x).heap[b]? = some (.cells ⟨v :: x :: rs⟩ t (0, 0)) := by
  have hlt := lt_of_block h
  have h' : w.heap[b] = .cells ⟨v :: u :: rs⟩ t (0, 0) := by simpa [Array.getElem?_eq_getElem hlt] using h
  show (w.heap.modify b _)[b]? = _
  rw [Array.getElem?_eq_getElem (by simpa using hlt), Array.getElem_modify_self, h']
  rfl


def Wr (rs : List Value) (ty : TypeId) (w : World) (b : Nat) (bs : List Bool) : Prop :=
  ty ≠ 5 ∧ ∃ v, w.heap[b]? = some (.cells ⟨v :: .int .i64 bs.length :: rs⟩ ty (0, 0)) ∧ w.ownsRow 0 5 1 v ((bs.length + 7) / 8) (bytesV (Bt.pack bs))

/-- The blocks that the writer at b uses. -/
def Fp (rs : List Value) (ty : TypeId) (w : World) (b k : Nat) : Prop := k = b ∨ ∃ v c, w.heap[b]? = some (.cells ⟨v :: c :: rs⟩ ty (0, 0)) ∧ v.ownBlock = some k

structure WStep (rs : List Value) (ty : TypeId) (w w' : World) (b : Nat) (bs : List Bool) : Prop where
  wr : Wr rs ty w' b bs
  touch : Touch (Fp rs ty w b) w w'
  fp : ∀ k, Fp rs ty w' b k → Fp rs ty w b k ∨ w.heap.size ≤ k

theorem WStep.refl {rs : List Value} {ty : TypeId} {w : World} {b : Nat} {bs : List Bool} (h : Wr rs ty w b bs) : WStep rs ty w w b bs := ⟨h, Touch.refl _ _, fun _ h => .inl h⟩

theorem WStep.trans {rs : List Value} {ty : TypeId} {a w c : World} {b : Nat} {bs bs' : List Bool} (h : WStep rs ty a w b bs) (k : WStep rs ty w c b bs') : WStep rs ty a c b bs' :=
  ⟨k.wr, h.touch.trans k.touch (fun i hi e => (h.fp i e).elim id (fun g => by omega)),
    fun i e => (k.fp i e).elim (fun e => h.fp i e) (fun e => .inr (Nat.le_trans h.touch.size e))⟩

theorem WStep.drew {rs : List Value} {ty : TypeId} {w w' : World} {b : Nat} {bs : List Bool} (h : WStep rs ty w w' b bs) : WStep rs ty w w'.drew b bs := ⟨h.wr, h.touch.drew, h.fp⟩

theorem Fp.self (rs : List Value) (ty : TypeId) (w : World) (b : Nat) : Fp rs ty w b b := .inl rfl

theorem Wr.lt {rs : List Value} {ty : TypeId} {w : World} {b : Nat} {bs : List Bool} (h : Wr rs ty w b bs) : b < w.heap.size := by
  obtain ⟨_, v, h, _⟩ := h
  exact lt_of_block h

theorem Wr.fp_lt {rs : List Value} {ty : TypeId} {w : World} {b : Nat} {bs : List Bool} (h : Wr rs ty w b bs) {k : Nat} (hk : Fp rs ty w b k) : k < w.heap.size := by
  rcases hk with rfl | ⟨v, c, hb, ho⟩
  · exact h.lt
  · obtain ⟨_, v', hb', hown⟩ := h
    rw [hb] at hb'
    simp at hb'
    obtain ⟨rfl, rfl⟩ := hb'
    exact (hown.lt k ho).2

/-- What the writer uses is as it was: it is the writer that it was. -/
theorem Wr.kept {rs : List Value} {ty : TypeId} {w w' : World} {b : Nat} {bs : List Bool} (h : Wr rs ty w b bs) (hk : ∀ k, Fp rs ty w b k → w'.heap[k]? = w.heap[k]?) : Wr rs ty w' b bs := by
  obtain ⟨hty, v, hb, hown⟩ := h
  refine ⟨hty, v, (hk b (.inl rfl)).trans hb, hown.1, ?_⟩
  rcases hown.2 with h2 | ⟨g, cap, cur, hv, hg, hh, r⟩
  · exact .inl h2
  · exact .inr ⟨g, cap, cur, hv, hg, (hk g (.inr ⟨v, _, hb, by rw [hv]; rfl⟩)).trans hh, r⟩

theorem Fp.of_same {rs : List Value} {ty : TypeId} {w w' : World} {b k : Nat} (hb : w'.heap[b]? = w.heap[b]?) (h : Fp rs ty w' b k) : Fp rs ty w b k := by
  rcases h with h | ⟨v, c, h, ho⟩
  · exact .inl h
  · exact .inr ⟨v, c, by rw [← hb]; exact h, ho⟩

end Go.Proofs.YtffjkceedbblgaaGreatDoor.G

/- One bit more into a writer that is part of something greater; condition: fewer than two to the fiftieth bits were put. -/
namespace Go.Proofs.YtffjkceedbblgaaGreatDoor.G
open Go.RowKit

set_option maxHeartbeats 400000 in
theorem bit_mid (b g n len cap : Nat) (x : Nat) (c : Int) (w : World)
    (h0 : w.cell? ⟨b, 0, none⟩ = some (.slice (some ⟨g, 0, none⟩) len cap))
    (h1 : w.cell? ⟨b, 1, none⟩ = some (.int .i64 n)) (hf1 : w.frozen? ⟨b, 1, none⟩ = false)
    (hx : w.cell? ⟨g, n / 8, none⟩ = some (.int .u8 x)) (hfx : w.frozen? ⟨g, n / 8, none⟩ = false)
    (hbg : b ≠ g) (hn : n / 8 < len) (hlen : n < 1125899906842624) (hmod : ((n : Int) % 8 == 0) = false) :
    Calls Tryz.prog 44 #[.pointer (some ⟨b, 0, none⟩), .int .i64 c] w fun e w' => e = .returned (.tuple #[]) ∧
      w' = ((w.setCell ⟨g, n / 8, none⟩ (.int .u8 (bits .or .u8 (x : Int) (wrap64 (c * 2 ^ (n % 8)) % 256)))).setCell ⟨b, 1, none⟩ (.int .i64 (n + 1))).drew := by
  go_enter Tryz.func44, Tryz.ntmps44
  go_wp2
  go_region
  all_goals go_wp2
  all_goals go_end0
  all_goals exact ⟨rfl, rfl⟩

set_option maxHeartbeats 400000 in
theorem bit_new (rs : List Value) (ty : TypeId) (hty : ty ≠ 5) (b n : Nat) (v : Value) (xs : List Value) (c : Int) (w : World) (hv : (∃ g cap, v = .slice (some ⟨g, 0, none⟩) (n / 8) cap) ∨ v = .slice none 0 0)
    (hown : w.ownsRow 0 5 1 v (n / 8) xs)
    (hb : w.heap[b]? = some (.cells ⟨v :: .int .i64 n :: rs⟩ ty (0, 0)))
    (hlen : n < 1125899906842624) (hmod : ((n : Int) % 8 == 0) = true) :
    Calls Tryz.prog 44 #[.pointer (some ⟨b, 0, none⟩), .int .i64 c] w fun e w' => e = .returned (.tuple #[]) ∧
      ∃ w1 g cap, w1.ownsRow 0 5 1 (.slice (some ⟨g, 0, none⟩) (n / 8 + 1) cap) (n / 8 + 1) (xs ++ [.int .u8 0]) ∧ (w.alloc (.cells #[.int .u8 0] 5)).grownBy w1 v.ownBlock ∧ (v.ownBlock = some g ∨ g = w.heap.size + 1) ∧
      w' = (((w1.setCell ⟨b, 0, none⟩ (.slice (some ⟨g, 0, none⟩) (n / 8 + 1) cap)).setCell ⟨g, n / 8, none⟩ (.int .u8 (bits .or .u8 0 (wrap64 (c * 2 ^ (n % 8)) % 256)))).setCell ⟨b, 1, none⟩ (.int .i64 (n + 1))).drew := by
  obtain ⟨i0, hi, hz0, hz1, hz2⟩ := info_parts Tryz.info5
  have hblt : b < w.heap.size := lt_of_block hb
  have hbv : v.ownBlock ≠ some b := by
    intro e
    rcases hown.2 with ⟨rfl, _⟩ | ⟨g, cap, cur, rfl, _, hh, _⟩
    · simp [Value.ownBlock] at e
    · simp [Value.ownBlock] at e
      subst e
      rw [hb] at hh
      simp at hh
      exact hty hh.2
  have h0 := cell_two0 hb
  have h1 := cell_two1 hb
  have key : ∀ (v' : Value) (w1 : World), w1.ownsRow 0 5 1 v' (n / 8 + 1) (xs ++ [.int .u8 0]) → (w.alloc (.cells #[.int .u8 0] 5)).grownBy w1 v.ownBlock →
      ∃ g cap, v' = .slice (some ⟨g, 0, none⟩) (n / 8 + 1) cap ∧ g ≠ b ∧ w1.heap[b]? = some (.cells ⟨v :: .int .i64 n :: rs⟩ ty (0, 0)) ∧ w1.cell? ⟨g, n / 8, none⟩ = some (.int .u8 0) ∧ w1.frozen? ⟨g, n / 8, none⟩ = false := by
    intro v' w1 hown' hgrow
    have hb1 : w1.heap[b]? = some (.cells ⟨v :: .int .i64 n :: rs⟩ ty (0, 0)) := by
      rw [hgrow.block b (by simp; omega) (fun e => hbv e.symm), Below.heap_alloc _ _ _ hblt]; exact hb
    have hxl : xs.length = n / 8 := by have := hown.1; omega
    rcases hown'.2 with ⟨_, h⟩ | ⟨g, cap, cur, rfl, _, hh, hle, _, hcs, htk⟩
    · omega
    · refine ⟨g, cap, rfl, ?_, hb1, ?_, by simp [World.frozen?, hh]⟩
      · rintro rfl
        rw [hb1] at hh
        simp at hh
        exact hty hh.2
      · have := hown'.cells (g := g) rfl (n / 8) (.int .u8 0) (by rw [List.getElem?_append_right (by omega)]; simp [hxl])
        rwa [add_zero] at this
  clear hb hbv hblt
  have c1 : ∀ (j : Nat) (u : Value), [Value.int IntKind.u8 0][j]? = some u → (w.alloc (Obj.cells #[Value.int IntKind.u8 0] 5)).cell? ((⟨w.heap.size, 0, none⟩ : Addr).add j) = some u := by
    intro j u hj
    match j, hj with
    | 0, hj => simp at hj; subst hj; simp [Addr.add]
  rcases hv with ⟨g, cap, rfl⟩ | rfl
  all_goals
    have KEY : Hid _ := key
    clear key
    go_enter Tryz.func44, Tryz.ntmps44
    go_wp2_with (first
      | (at_builtin; refine wpList_append_own_at _ rfl _ _ 36 rfl 0 5 i0 (.int .u8 0) 1 1 Tryz.underlying36 hi hz0 hz1 hz2 rfl (by decide) _ _ _ rfl (hown.alloc _) ⟨w.heap.size, 0, none⟩ 1 1 [.int .u8 0] rfl rfl c1 (by intro u hu; simp at hu; subst hu; rfl) (by unfold maxLen; omega) (by omega) (Nat.zero_le _) ?_)
      | go_in)
    intro v' w1 hown' hgrow _ hwhere
    obtain ⟨g1, cap1, hv', hg1, hb1, hx1, hfx1⟩ := KEY.out v' w1 hown' hgrow
    rw [hv'] at hown' hwhere ⊢
    have H3 : Hid _ := hwhere
    clear hwhere
    clear KEY c1 hown h0 h1
    have k0 := cell_two0 hb1
    have k1 := cell_two1 hb1
    have kf0 := free_two (i := 0) hb1
    have kf1 := free_two (i := 1) hb1
    have hn : n / 8 < n / 8 + 1 := by omega
    have H1 : Hid _ := hown'
    have H2 : Hid _ := hgrow
    clear hown' hgrow hv'
    go_wp2
    go_region
    all_goals go_wp2
    all_goals go_end0
    all_goals exact ⟨rfl, w1, g1, cap1, H1.out, H2.out, by have := H3.out; simp [Value.ownBlock] at this ⊢; omega, rfl⟩

theorem ownsRow_set {w : World} {g n cap : Nat} {xs : List Value} (h : w.ownsRow 0 5 1 (.slice (some ⟨g, 0, none⟩) n cap) n xs) (i : Nat) (x : Value) :
    (w.setCell ⟨g, i, none⟩ x).ownsRow 0 5 1 (.slice (some ⟨g, 0, none⟩) n cap) n (xs.set i x) := by
  obtain ⟨h1, h2⟩ := h
  rcases h2 with ⟨h2, _⟩ | ⟨g', cap', cur, hv, hg, hh, hle, hm, hcs, htk⟩
  · simp at h2
  · simp at hv
    obtain ⟨rfl, rfl⟩ := hv
    refine ⟨by simpa using h1, .inr ⟨g, cap, cur.set! i x, rfl, hg, ?_, hle, hm, by simpa using hcs, ?_⟩⟩
    · have hlt := lt_of_block hh
      have h' : w.heap[g] = .cells cur 5 (0, 0) := by simpa [Array.getElem?_eq_getElem hlt] using hh
      show (w.heap.modify g _)[g]? = _
      rw [Array.getElem?_eq_getElem (by simpa using hlt), Array.getElem_modify_self, h']
      rfl
    · rw [← htk]
      simp [List.take_set]

theorem bit_any (rs : List Value) (ty : TypeId) (b : Nat) (bs : List Bool) (c : Int) (w : World) (h : Wr rs ty w b bs) (hlen : bs.length < 1125899906842624) (hc0 : 0 ≤ c) (hc1 : c ≤ 1) :
    Calls Tryz.prog 44 #[.pointer (some ⟨b, 0, none⟩), .int .i64 c] w fun e w' => e = .returned (.tuple #[]) ∧ WStep rs ty w w' b (bs ++ [c == 1]) := by
  obtain ⟨hty, v, hb, hown⟩ := h
  by_cases hm : bs.length % 8 = 0
  · have e8 : (bs.length + 7) / 8 = bs.length / 8 := by omega
    rw [e8] at hown
    refine (bit_new rs ty hty b bs.length v (bytesV (Bt.pack bs)) c w ?_ hown hb hlen (by simp; omega)).mono ?_
    · rcases hown.2 with ⟨h, _⟩ | ⟨g, cap, cur, h, _⟩
      · exact .inr h
      · exact .inl ⟨g, cap, h⟩
    · rintro e w' ⟨rfl, w1, g, cap, hown1, hgrow, hwh, rfl⟩
      have hbv : v.ownBlock ≠ some b := by
        intro e
        rcases hown.2 with ⟨rfl, _⟩ | ⟨g, cap, cur, rfl, _, hh, _⟩
        · simp [Value.ownBlock] at e
        · simp [Value.ownBlock] at e
          subst e
          rw [hb] at hh
          simp at hh
          exact hty hh.2
      have hblt := lt_of_block hb
      have hb1 : w1.heap[b]? = some (.cells ⟨v :: .int .i64 bs.length :: rs⟩ ty (0, 0)) := by
        rw [hgrow.block b (by simp; omega) (fun e => hbv e.symm), Below.heap_alloc _ _ _ hblt]; exact hb
      have hgb : g ≠ b := by
        rintro rfl
        rcases hown1.2 with ⟨h, _⟩ | ⟨g', cap', cur, h, _, hh, _⟩
        · simp at h
        · simp at h
          obtain ⟨rfl, rfl⟩ := h
          rw [hb1] at hh
          simp at hh
          exact hty hh.2
      have hfb : Fp rs ty w b b := Fp.self rs ty w b
      have hfv : ∀ k, v.ownBlock = some k → Fp rs ty w b k := fun k hk => .inr ⟨v, _, hb, hk⟩
      have hl1 : (bytesV (Bt.pack bs)).length = bs.length / 8 := by simp [bytesV, Bt.length_pack, e8]
      have kb : (((w1.setCell ⟨b, 0, none⟩ (.slice (some ⟨g, 0, none⟩) (bs.length / 8 + 1) cap)).setCell ⟨g, bs.length / 8, none⟩ (.int .u8 (bits .or .u8 0 (wrap64 (c * 2 ^ (bs.length % 8)) % 256)))).setCell ⟨b, 1, none⟩ (.int .i64 (bs.length + 1))).drew.heap[b]? = some (.cells ⟨.slice (some ⟨g, 0, none⟩) (bs.length / 8 + 1) cap :: .int .i64 (bs ++ [c == 1]).length :: rs⟩ ty (0, 0)) := by
          have k1 := two_set0 (x := .slice (some ⟨g, 0, none⟩) (bs.length / 8 + 1) cap) hb1
          rw [← Below.heap_setCell _ ⟨g, bs.length / 8, none⟩ (.int .u8 (bits .or .u8 0 (wrap64 (c * 2 ^ (bs.length % 8)) % 256))) b (fun e => hgb e.symm)] at k1
          have k2 := two_set1 (x := .int .i64 (bs.length + 1)) k1
          have e : ((bs ++ [c == 1]).length : Int) = (bs.length : Int) + 1 := by simp
          rw [e]
          exact k2
      refine ⟨rfl, ?_, ?_, ?_⟩
      · refine ⟨hty, .slice (some ⟨g, 0, none⟩) (bs.length / 8 + 1) cap, kb, ?_⟩
        · have e9 : ((bs ++ [c == 1]).length + 7) / 8 = bs.length / 8 + 1 := by simp; omega
          rw [e9, Bt.pack_new _ _ hm]
          refine World.ownsRow.drew ?_
          refine ownsRow_setCell_other ?_ (by simp [Value.ownBlock, hgb]) _
          have k3 := ownsRow_set (ownsRow_setCell_other hown1 (a := ⟨b, 0, none⟩) (by simp [Value.ownBlock, hgb]) (.slice (some ⟨g, 0, none⟩) (bs.length / 8 + 1) cap)) (bs.length / 8) (.int .u8 (bits .or .u8 0 (wrap64 (c * 2 ^ (bs.length % 8)) % 256)))
          have ho := or_bit 0 (bs.length % 8) c (by omega) (Nat.pow_pos (by decide)) hc0 hc1
          rw [hm] at ho
          rw [List.set_append_right _ _ (by omega), hl1, Nat.sub_self, List.set_cons_zero] at k3
          simp only [bytesV, List.map_append, List.map_cons, List.map_nil] at k3 ⊢
          rw [hm] at k3 ⊢
          rw [show (bits BinOp.or IntKind.u8 0 (wrap64 (c * 2 ^ 0) % 256)) = (((c == 1).toNat : Nat) : Int) by simpa using ho] at k3 ⊢
          exact k3
      · refine Touch.drew (Touch.setCell (Touch.setCell (Touch.setCell ?_ (fun _ => hfb) _) (fun hlt => ?_) _) (fun _ => hfb) _)
        · exact ((Touch.refl _ w).alloc _).grown hgrow (fun k hk _ => hfv k hk)
        · rcases hwh with h | h
          · exact hfv g h
          · simp only at hlt; omega
      · intro k hk
        rcases hk with hk | ⟨v2, c2, hk, ho⟩
        · exact .inl (.inl hk)
        · rw [kb] at hk
          simp at hk
          obtain ⟨rfl, rfl⟩ := hk
          simp [Value.ownBlock] at ho
          subst ho
          rcases hwh with h | h
          · exact .inl (hfv g h)
          · exact .inr (by omega)
  · have e8 : (bs.length + 7) / 8 = bs.length / 8 + 1 := by omega
    rcases hown.2 with ⟨h, hz⟩ | ⟨g, cap, cur, rfl, _, hh, hle, _⟩
    · omega
    · have hgb : b ≠ g := by
        rintro rfl
        rw [hb] at hh
        simp at hh
        exact hty hh.2
      have hx : w.cell? ⟨g, bs.length / 8, none⟩ = some (.int .u8 (Bt.byteAt bs (bs.length / 8) : Nat)) := by
        have := hown.cells (g := g) rfl (bs.length / 8) (.int .u8 (Bt.byteAt bs (bs.length / 8) : Nat)) (by simp [bytesV, Bt.pack, e8])
        rwa [add_zero] at this
      refine (bit_mid b g bs.length _ cap (Bt.byteAt bs (bs.length / 8)) c w (cell_two0 hb) (cell_two1 hb) (free_two hb) hx (by simp [World.frozen?, hh]) hgb (by omega) hlen (by simp; omega)).mono ?_
      rintro e w' ⟨rfl, rfl⟩
      rw [or_bit _ _ c (by omega) (Bt.byteAt_last_lt bs) hc0 hc1]
      have kb : ((w.setCell ⟨g, bs.length / 8, none⟩ (.int .u8 ((Bt.byteAt bs (bs.length / 8) + (c == 1).toNat * 2 ^ (bs.length % 8) : Nat) : Int))).setCell ⟨b, 1, none⟩ (.int .i64 (bs.length + 1))).drew.heap[b]? = some (.cells ⟨.slice (some ⟨g, 0, none⟩) ((bs.length + 7) / 8) cap :: .int .i64 (bs ++ [c == 1]).length :: rs⟩ ty (0, 0)) := by
        have k1 := hb
        rw [← Below.heap_setCell w ⟨g, bs.length / 8, none⟩ (.int .u8 ((Bt.byteAt bs (bs.length / 8) + (c == 1).toNat * 2 ^ (bs.length % 8) : Nat) : Int)) b hgb] at k1
        have k2 := two_set1 (x := .int .i64 (bs.length + 1)) k1
        have e : ((bs ++ [c == 1]).length : Int) = (bs.length : Int) + 1 := by simp
        rw [e]
        exact k2
      have hfb : Fp rs ty w b b := Fp.self rs ty w b
      have hfg : Fp rs ty w b g := .inr ⟨_, _, hb, rfl⟩
      refine ⟨rfl, ⟨hty, _, kb, ?_⟩, ?_, ?_⟩
      · have e9 : ((bs ++ [c == 1]).length + 7) / 8 = (bs.length + 7) / 8 := by simp; omega
        rw [e9, Bt.pack_mid _ _ hm]
        refine World.ownsRow.drew ?_
        refine ownsRow_setCell_other ?_ (by simp [Value.ownBlock]; omega) _
        have k3 := ownsRow_set hown (bs.length / 8) (.int .u8 ((Bt.byteAt bs (bs.length / 8) + (c == 1).toNat * 2 ^ (bs.length % 8) : Nat) : Int))
        simpa [bytesV, List.map_set] using k3
      · exact Touch.drew (Touch.setCell (Touch.setCell (Touch.refl _ _) (fun _ => hfg) _) (fun _ => hfb) _)
      · intro k hk
        rcases hk with hk | ⟨v2, c2, hk, ho⟩
        · exact .inl (.inl hk)
        · rw [kb] at hk
          simp at hk
          obtain ⟨rfl, rfl⟩ := hk
          simp [Value.ownBlock] at ho
          subst ho
          exact .inl hfg
end Go.Proofs.YtffjkceedbblgaaGreatDoor.G

/- Put, Code, Bytes and All of a writer that is part of something greater; conditions: those told. -/
namespace Go.Proofs.YtffjkceedbblgaaGreatDoor.G
open Go.RowKit Go.Lib

set_option maxHeartbeats 400000 in
theorem put_yes (rs : List Value) (ty : TypeId) (b : Nat) (bs : List Bool) (v : Int) (n : Nat) (w : World) (h : Wr rs ty w b bs) (hlen : bs.length + n < 1125899906842624) (hn : n ≤ 32) :
    Calls Tryz.prog 30 #[.pointer (some ⟨b, 0, none⟩), .int .i64 v, .int .i64 n] w fun e w' => e = .returned (.tuple #[]) ∧ WStep rs ty w w' b (bs ++ (List.range n).map (ibit v)) := by
  go_enter Tryz.func30, Tryz.ntmps30
  go_wp2_with (go_at_call 43; refine (fits_yes _ _ (by omega) (by omega)).mono ?_; rintro e w ⟨rfl, rfl⟩)
  go_loopw [15] (fun i wr => ∃ k : Nat, k ≤ n ∧ i = .int .i64 k ∧ WStep rs ty w wr b (bs ++ (List.range k).map (ibit v))) (fun i _ => n - (Go.RowKit.intOf i).toNat)
  case atStart => exact ⟨0, Nat.zero_le _, rfl, by simpa using WStep.refl h⟩
  case round =>
    obtain ⟨k, hk, rfl, hst⟩ := hrel
    by_cases hlt : k < n
    · go_wp2_with fail
      rw [i64_and1]
      have hm := Int.emod_nonneg (v / 2 ^ k) (b := 2) (by decide)
      have hm' := Int.emod_lt_of_pos (v / 2 ^ k) (b := 2) (by decide)
      refine (bit_any rs ty b _ (v / 2 ^ k % 2) _ hst.wr (by simp; omega) hm (by omega)).mono ?_
      rintro e w1 ⟨rfl, hst1⟩
      have H : Hid _ := hst.trans hst1
      clear hst hst1 hm hm'
      go_wp2
      go_roundw
      case rel => exact ⟨k + 1, by omega, by go_num, by have := H.out; rw [List.append_assoc] at this; rw [List.range_succ, List.map_append]; exact this⟩
      case measure => simp [Go.RowKit.intOf]; omega
    · obtain rfl : k = n := by omega
      go_wp2
      go_end0
      exact ⟨rfl, hst⟩
set_option maxHeartbeats 400000 in
theorem code_yes (rs : List Value) (ty : TypeId) (b : Nat) (bs : List Bool) (v : Int) (n : Nat) (w : World) (h : Wr rs ty w b bs) (hlen : bs.length + n < 1125899906842624) (hn : n ≤ 32) :
    Calls Tryz.prog 83 #[.pointer (some ⟨b, 0, none⟩), .int .i64 v, .int .i64 n] w fun e w' => e = .returned (.tuple #[]) ∧ WStep rs ty w w' b (bs ++ (List.range n).map (fun i => ibit v (n - 1 - i))) := by
  go_enter Tryz.func83, Tryz.ntmps83
  go_wp2_with (go_at_call 43; refine (fits_yes _ _ (by omega) (by omega)).mono ?_; rintro e w ⟨rfl, rfl⟩)
  go_loopw [15] (fun i wr => ∃ k : Nat, k ≤ n ∧ i = .int .i64 k ∧ WStep rs ty w wr b (bs ++ (List.range k).map (fun i => ibit v (n - 1 - i)))) (fun i _ => n - (Go.RowKit.intOf i).toNat)
  case atStart => exact ⟨0, Nat.zero_le _, rfl, by simpa using WStep.refl h⟩
  case round =>
    obtain ⟨k, hk, rfl, hst⟩ := hrel
    by_cases hlt : k < n
    · have hs : (0 : Int) ≤ (n : Int) - 1 - k := by omega
      go_wp2_with fail
      rw [i64_and1]
      have hm := Int.emod_nonneg (v / 2 ^ (n - 1 - k)) (b := 2) (by decide)
      have hm' := Int.emod_lt_of_pos (v / 2 ^ (n - 1 - k)) (b := 2) (by decide)
      refine (bit_any rs ty b _ (v / 2 ^ (n - 1 - k) % 2) _ hst.wr (by simp; omega) hm (by omega)).mono ?_
      rintro e w1 ⟨rfl, hst1⟩
      have H : Hid _ := hst.trans hst1
      clear hst hst1 hm hm'
      go_wp2
      go_roundw
      case rel => exact ⟨k + 1, by omega, by go_num, by have := H.out; rw [List.append_assoc] at this; rw [List.range_succ, List.map_append]; exact this⟩
      case measure => simp [Go.RowKit.intOf]; omega
    · obtain rfl : k = n := by omega
      go_wp2
      go_end0
      exact ⟨rfl, hst⟩

theorem all_any (rs : List Value) (ty : TypeId) (b : Nat) (bs : List Bool) (w : World) (h : Wr rs ty w b bs) :
    Calls Tryz.prog 32 #[.pointer (some ⟨b, 0, none⟩)] w fun e w' => e = .returned (.string (strOf (Bt.pack bs))) ∧ w' = w := by
  obtain ⟨hty, v, hb, hown⟩ := h
  have h0 := cell_two0 hb
  have hl : (bytesV (Bt.pack bs)).length = (bs.length + 7) / 8 := by simp [bytesV, Bt.length_pack]
  rcases hown.2 with ⟨rfl, hz⟩ | ⟨g, cap, cur, rfl, _, hh, hle, _⟩
  · have hcv := run_convert_bytes_nil (P := Tryz.prog) w 36 5 Tryz.underlying36 Tryz.underlying5 0 0 9 Tryz.underlying9
    have e : strOf (Bt.pack bs) = ByteArray.empty := by
      rw [List.eq_nil_of_length_eq_zero (l := Bt.pack bs) (by rw [Bt.length_pack]; exact hz)]
      rfl
    rw [e]
    clear hown hb hl
    go_enter Tryz.func32, Tryz.ntmps32
    go_wp2
    go_ret
    exact ⟨rfl, rfl⟩
  · have hc : ∀ j (hj : j < ((Bt.pack bs).map UInt8.ofNat).length), w.cell? ((⟨g, 0, none⟩ : Addr).add j) = some (.int .u8 ((((Bt.pack bs).map UInt8.ofNat)[j]).toNat : Int)) := by
      intro j hj
      simp only [List.length_map] at hj
      refine hown.cells rfl j _ ?_
      have hlt := Bt.pack_lt bs _ (List.getElem_mem hj)
      simp only [bytesV, List.getElem?_map, List.getElem?_eq_getElem hj, Option.map_some, List.getElem_map]
      rw [UInt8.toNat_ofNat_of_lt' (by simpa using hlt)]
    have hcv := run_convert_bytes_back (P := Tryz.prog) w 36 9 5 ⟨g, 0, none⟩ cap ((Bt.pack bs).map UInt8.ofNat) Tryz.underlying36 Tryz.underlying5 Tryz.underlying9 hc
    rw [List.length_map, Bt.length_pack] at hcv
    clear hown hb hl hc hh
    go_enter Tryz.func32, Tryz.ntmps32
    go_wp2
    go_ret
    exact ⟨rfl, rfl⟩
theorem strCells_eq (s : ByteArray) : strCells s = bytesV (Bt.strNats s) := by
  unfold strCells bytesV Bt.strNats
  rw [List.map_map]
  apply List.ext_getElem
  · simp
  · intro i h1 h2
    have hi : i < s.data.size := by simpa using h1
    simp only [List.getElem_map, List.getElem_range, Function.comp_def, Array.getElem_toList, Bt.byteN, Array.getD]
    rw [dif_pos hi]
    rfl

set_option maxHeartbeats 400000 in
theorem wbytes_raw (rs : List Value) (ty : TypeId) (hty : ty ≠ 5) (b n q : Nat) (v : Value) (xs : List Value) (s : ByteArray) (w : World) (hv : (∃ g cap, v = .slice (some ⟨g, 0, none⟩) n cap) ∨ v = .slice none 0 0)
    (hown : w.ownsRow 0 5 1 v n xs) (hb : w.heap[b]? = some (.cells ⟨v :: .int .i64 q :: rs⟩ ty (0, 0))) (hlen : n + s.size ≤ 140737488355328) :
    Calls Tryz.prog 60 #[.pointer (some ⟨b, 0, none⟩), .string s] w fun e w' => e = .returned (.tuple #[]) ∧
      ∃ w1 v', w1.ownsRow 0 5 1 v' (n + s.size) (xs ++ strCells s) ∧ w.grownBy w1 v.ownBlock ∧ (v'.ownBlock = v.ownBlock ∨ ∃ g, v'.ownBlock = some g ∧ w.heap.size ≤ g) ∧
      w' = ((w1.setCell ⟨b, 0, none⟩ v').setCell ⟨b, 1, none⟩ (.int .i64 (8 * (n + s.size : Nat)))) := by
  obtain ⟨i0, hi, hz0, hz1, hz2⟩ := info_parts Tryz.info5
  have hblt : b < w.heap.size := lt_of_block hb
  have hbv : v.ownBlock ≠ some b := by
    intro e
    rcases hown.2 with ⟨rfl, _⟩ | ⟨g, cap, cur, rfl, _, hh, _⟩
    · simp [Value.ownBlock] at e
    · simp [Value.ownBlock] at e
      subst e
      rw [hb] at hh
      simp at hh
      exact hty hh.2
  have h0 := cell_two0 hb
  have key : ∀ (v' : Value) (w1 : World), w1.ownsRow 0 5 1 v' (n + s.size) (xs ++ strCells s) → w.grownBy w1 v.ownBlock →
      ((∃ g cap, v' = .slice (some ⟨g, 0, none⟩) (n + s.size) cap) ∨ (v' = .slice none 0 0 ∧ n + s.size = 0)) ∧ w1.heap[b]? = some (.cells ⟨v :: .int .i64 q :: rs⟩ ty (0, 0)) := by
    intro v' w1 hown' hgrow
    refine ⟨?_, ?_⟩
    · rcases hown'.2 with h | ⟨g, cap, cur, rfl, _⟩
      · exact .inr h
      · exact .inl ⟨g, cap, rfl⟩
    · rw [hgrow.block b hblt (fun e => hbv e.symm)]; exact hb
  have KEY : Hid _ := key
  clear key hb hbv hblt
  rcases hv with ⟨g, cap, rfl⟩ | rfl
  all_goals
    go_enter Tryz.func60, Tryz.ntmps60
    go_wp2_with (first
      | (at_builtin; refine wpList_append_string_at _ rfl _ _ 36 9 rfl 5 i0 Tryz.underlying36 Tryz.underlying9 hi hz0 hz1 hz2 _ _ _ rfl hown s rfl (by unfold maxLen; omega) (by omega) ?_)
      | go_in)
    intro v' w1 hown' hgrow hwh
    obtain ⟨hv', hb1⟩ := KEY.out v' w1 hown' hgrow
    have k0 := cell_two0 hb1
    have k1 := cell_two1 hb1
    have kf0 := free_two (i := 0) hb1
    have kf1 := free_two (i := 1) hb1
    clear KEY hown h0
    rcases hv' with ⟨g1, cap1, hv1⟩ | ⟨hv1, hz⟩
    · rw [hv1] at hown' hwh ⊢
      have H1 : Hid _ := hown'
      have H2 : Hid _ := hgrow
      have H3 : Hid _ := hwh
      clear hv1 hown' hgrow hwh
      go_wp2
      go_end0
      exact ⟨rfl, w1, _, H1.out, H2.out, H3.out, by simp⟩
    · rw [hv1]
      have H1 : Hid _ := hown'
      have H2 : Hid _ := hgrow
      have H3 : Hid _ := hwh
      have HZ : Hid _ := hz
      have HV : Hid _ := hv1
      clear hv1 hown' hgrow hwh hz
      go_wp2
      go_end0
      exact ⟨rfl, w1, v', H1.out, H2.out, H3.out, by rw [HV.out, HZ.out]; rfl⟩

theorem wbytes_any (rs : List Value) (ty : TypeId) (b : Nat) (bs : List Bool) (s : ByteArray) (w : World) (h : Wr rs ty w b bs) (hlen : (bs.length + 7) / 8 + s.size ≤ 140737488355328) :
    Calls Tryz.prog 60 #[.pointer (some ⟨b, 0, none⟩), .string s] w fun e w' => e = .returned (.tuple #[]) ∧ WStep rs ty w w' b (Bt.behind bs s) := by
  obtain ⟨hty, v, hb, hown⟩ := h
  refine (wbytes_raw rs ty hty b _ bs.length v _ s w ?_ hown hb hlen).mono ?_
  · rcases hown.2 with ⟨h, _⟩ | ⟨g, cap, cur, h, _⟩
    · exact .inr h
    · exact .inl ⟨g, cap, h⟩
  · rintro e w' ⟨rfl, w1, v', hown1, hgrow, hwh, rfl⟩
    have hbv : v.ownBlock ≠ some b := by
      intro e
      rcases hown.2 with ⟨rfl, _⟩ | ⟨g, cap, cur, rfl, _, hh, _⟩
      · simp [Value.ownBlock] at e
      · simp [Value.ownBlock] at e
        subst e
        rw [hb] at hh
        simp at hh
        exact hty hh.2
    have hblt := lt_of_block hb
    have hb1 : w1.heap[b]? = some (.cells ⟨v :: .int .i64 bs.length :: rs⟩ ty (0, 0)) := by
      rw [hgrow.block b hblt (fun e => hbv e.symm)]; exact hb
    have hvb : v'.ownBlock ≠ some b := by
      intro e
      rcases hown1.2 with ⟨rfl, _⟩ | ⟨g, cap, cur, rfl, _, hh, _⟩
      · simp [Value.ownBlock] at e
      · simp [Value.ownBlock] at e
        subst e
        rw [hb1] at hh
        simp at hh
        exact hty hh.2
    have hfb : Fp rs ty w b b := Fp.self rs ty w b
    have hfv : ∀ k, v.ownBlock = some k → Fp rs ty w b k := fun k hk => .inr ⟨v, _, hb, hk⟩
    have kb : ((w1.setCell ⟨b, 0, none⟩ v').setCell ⟨b, 1, none⟩ (.int .i64 (8 * ((bs.length + 7) / 8 + s.size : Nat)))).heap[b]? = some (.cells ⟨v' :: .int .i64 (Bt.behind bs s).length :: rs⟩ ty (0, 0)) := by
      have k2 := two_set1 (x := .int .i64 (8 * ((bs.length + 7) / 8 + s.size : Nat))) (two_set0 (x := v') hb1)
      rw [Bt.length_behind]
      rw [show ((8 * ((bs.length + 7) / 8 + s.size) : Nat) : Int) = 8 * (((bs.length + 7) / 8 + s.size : Nat) : Int) by omega]
      exact k2
    refine ⟨rfl, ⟨hty, v', kb, ?_⟩, ?_, ?_⟩
    · refine ownsRow_setCell_other (ownsRow_setCell_other ?_ hvb _) hvb _
      rw [Bt.pack_behind, Bt.length_behind, show (8 * ((bs.length + 7) / 8 + s.size) + 7) / 8 = (bs.length + 7) / 8 + s.size by omega]
      rw [strCells_eq] at hown1
      simpa [bytesV] using hown1
    · exact Touch.setCell (Touch.setCell ((Touch.refl _ w).grown hgrow (fun k hk _ => hfv k hk)) (fun _ => hfb) _) (fun _ => hfb) _
    · intro k hk
      rcases hk with hk | ⟨v2, c2, hk, ho⟩
      · exact .inl (.inl hk)
      · rw [kb] at hk
        simp at hk
        obtain ⟨rfl, rfl⟩ := hk
        rcases hwh with h | ⟨g, h, hg⟩
        · exact .inl (hfv k (by rw [← h]; exact ho))
        · rw [h] at ho
          simp at ho
          exact .inr (by omega)

end Go.Proofs.YtffjkceedbblgaaGreatDoor.G
