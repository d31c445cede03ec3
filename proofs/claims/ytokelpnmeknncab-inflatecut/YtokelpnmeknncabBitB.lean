/- One bit more: the writer that holds a row of bits then holds that row and the bit; condition: fewer than two to the fiftieth bits were put. -/
import Derived.Test.YtokelpnmeknncabBitA
namespace Go.Proofs.Ytokelpnmeknncab
open Go.RowKit

theorem ownsRow_set {w : World} {g n cap : Nat} {xs : List Value} (h : w.ownsRow 0 5 1 (.slice (some ⟨g, 0, none⟩) n cap) n xs) (i : Nat) (x : Value) :
    (w.setCell ⟨g, i, none⟩ x).ownsRow 0 5 1 (.slice (some ⟨g, 0, none⟩) n cap) n (xs.set i x) := by
  obtain ⟨h1, h2⟩ := h
  rcases h2 with ⟨h2, _⟩ | ⟨g', cap', cur, hv, hg, hh, hle, hm, hcs, htk⟩
  · simp at h2
  · simp at hv
    obtain ⟨rfl, rfl⟩ := hv
    refine ⟨by simpa using h1, .inr ⟨g, cap, cur.set! i x, rfl, hg, ?_, hle, hm, by simpa using hcs, ?_⟩⟩
    · have hlt := lt_of_block hh
      have h' : w.heap[g] = .cells cur 5 (0, 0) := by simpa [Array.getElem?_eq_getElem hlt] using hh
      show (w.heap.modify g _)[g]? = _
      rw [Array.getElem?_eq_getElem (by simpa using hlt), Array.getElem_modify_self, h']
      rfl
    · rw [← htk]
      simp [List.take_set]

theorem bit_any (b : Nat) (bs : List Bool) (c : Int) (w : World) (h : Wr w b bs) (hlen : bs.length < 1125899906842624) (hc0 : 0 ≤ c) (hc1 : c ≤ 1) :
    Calls Try.prog 27 #[.pointer (some ⟨b, 0, none⟩), .int .i64 c] w fun e w' => e = .returned (.tuple #[]) ∧ WStep w w' b (bs ++ [c == 1]) := by
  obtain ⟨v, hb, hown⟩ := h
  by_cases hm : bs.length % 8 = 0
  · have e8 : (bs.length + 7) / 8 = bs.length / 8 := by omega
    rw [e8] at hown
    refine (bit_new b bs.length v (bytesV (Bt.pack bs)) c w ?_ hown hb hlen (by simp; omega)).mono ?_
    · rcases hown.2 with ⟨h, _⟩ | ⟨g, cap, cur, h, _⟩
      · exact .inr h
      · exact .inl ⟨g, cap, h⟩
    · rintro e w' ⟨rfl, w1, g, cap, hown1, hgrow, hwh, rfl⟩
      have hbv : v.ownBlock ≠ some b := by
        intro e
        rcases hown.2 with ⟨rfl, _⟩ | ⟨g, cap, cur, rfl, _, hh, _⟩
        · simp [Value.ownBlock] at e
        · simp [Value.ownBlock] at e
          subst e
          rw [hb] at hh
          simp at hh
      have hblt := lt_of_block hb
      have hb1 : w1.heap[b]? = some (.cells #[v, .int .i64 bs.length] 30 (0, 0)) := by
        rw [hgrow.block b (by simp; omega) (fun e => hbv e.symm), Below.heap_alloc _ _ _ hblt]; exact hb
      have hgb : g ≠ b := by
        rintro rfl
        rcases hown1.2 with ⟨h, _⟩ | ⟨g', cap', cur, h, _, hh, _⟩
        · simp at h
        · simp at h
          obtain ⟨rfl, rfl⟩ := h
          rw [hb1] at hh
          simp at hh
      have hfb : Fp w b b := Fp.self w b
      have hfv : ∀ k, v.ownBlock = some k → Fp w b k := fun k hk => .inr ⟨v, _, hb, hk⟩
      have hl1 : (bytesV (Bt.pack bs)).length = bs.length / 8 := by simp [bytesV, Bt.length_pack, e8]
      have kb : (((w1.setCell ⟨b, 0, none⟩ (.slice (some ⟨g, 0, none⟩) (bs.length / 8 + 1) cap)).setCell ⟨g, bs.length / 8, none⟩ (.int .u8 (bits .or .u8 0 (wrap64 (c * 2 ^ (bs.length % 8)) % 256)))).setCell ⟨b, 1, none⟩ (.int .i64 (bs.length + 1))).drew.heap[b]? = some (.cells #[.slice (some ⟨g, 0, none⟩) (bs.length / 8 + 1) cap, .int .i64 (bs ++ [c == 1]).length] 30 (0, 0)) := by
          have k1 := two_set0 (x := .slice (some ⟨g, 0, none⟩) (bs.length / 8 + 1) cap) hb1
          rw [← Below.heap_setCell _ ⟨g, bs.length / 8, none⟩ (.int .u8 (bits .or .u8 0 (wrap64 (c * 2 ^ (bs.length % 8)) % 256))) b (fun e => hgb e.symm)] at k1
          have k2 := two_set1 (x := .int .i64 (bs.length + 1)) k1
          have e : ((bs ++ [c == 1]).length : Int) = (bs.length : Int) + 1 := by simp
          rw [e]
          exact k2
      refine ⟨rfl, ?_, ?_, ?_⟩
      · refine ⟨.slice (some ⟨g, 0, none⟩) (bs.length / 8 + 1) cap, kb, ?_⟩
        · have e9 : ((bs ++ [c == 1]).length + 7) / 8 = bs.length / 8 + 1 := by simp; omega
          rw [e9, Bt.pack_new _ _ hm]
          refine World.ownsRow.drew ?_
          refine ownsRow_setCell_other ?_ (by simp [Value.ownBlock, hgb]) _
          have k3 := ownsRow_set (ownsRow_setCell_other hown1 (a := ⟨b, 0, none⟩) (by simp [Value.ownBlock, hgb]) (.slice (some ⟨g, 0, none⟩) (bs.length / 8 + 1) cap)) (bs.length / 8) (.int .u8 (bits .or .u8 0 (wrap64 (c * 2 ^ (bs.length % 8)) % 256)))
          have ho := or_bit 0 (bs.length % 8) c (by omega) (Nat.pow_pos (by decide)) hc0 hc1
          rw [hm] at ho
          rw [List.set_append_right _ _ (by omega), hl1, Nat.sub_self, List.set_cons_zero] at k3
          simp only [bytesV, List.map_append, List.map_cons, List.map_nil] at k3 ⊢
          rw [hm] at k3 ⊢
          rw [show (bits BinOp.or IntKind.u8 0 (wrap64 (c * 2 ^ 0) % 256)) = (((c == 1).toNat : Nat) : Int) by simpa using ho] at k3 ⊢
          exact k3
      · refine Touch.drew (Touch.setCell (Touch.setCell (Touch.setCell ?_ (fun _ => hfb) _) (fun hlt => ?_) _) (fun _ => hfb) _)
        · exact ((Touch.refl _ w).alloc _).grown hgrow (fun k hk _ => hfv k hk)
        · rcases hwh with h | h
          · exact hfv g h
          · simp only at hlt; omega
      · intro k hk
        rcases hk with hk | ⟨v2, c2, hk, ho⟩
        · exact .inl (.inl hk)
        · rw [kb] at hk
          simp at hk
          obtain ⟨rfl, rfl⟩ := hk
          simp [Value.ownBlock] at ho
          subst ho
          rcases hwh with h | h
          · exact .inl (hfv g h)
          · exact .inr (by omega)
  · have e8 : (bs.length + 7) / 8 = bs.length / 8 + 1 := by omega
    rcases hown.2 with ⟨h, hz⟩ | ⟨g, cap, cur, rfl, _, hh, hle, _⟩
    · omega
    · have hgb : b ≠ g := by
        rintro rfl
        rw [hb] at hh
        simp at hh
      have hx : w.cell? ⟨g, bs.length / 8, none⟩ = some (.int .u8 (Bt.byteAt bs (bs.length / 8) : Nat)) := by
        have := hown.cells (g := g) rfl (bs.length / 8) (.int .u8 (Bt.byteAt bs (bs.length / 8) : Nat)) (by simp [bytesV, Bt.pack, e8])
        rwa [add_zero] at this
      refine (bit_mid b g bs.length _ cap (Bt.byteAt bs (bs.length / 8)) c w (cell_two0 hb) (cell_two1 hb) (free_two hb) hx (by simp [World.frozen?, hh]) hgb (by omega) hlen (by simp; omega)).mono ?_
      rintro e w' ⟨rfl, rfl⟩
      rw [or_bit _ _ c (by omega) (Bt.byteAt_last_lt bs) hc0 hc1]
      have kb : ((w.setCell ⟨g, bs.length / 8, none⟩ (.int .u8 ((Bt.byteAt bs (bs.length / 8) + (c == 1).toNat * 2 ^ (bs.length % 8) : Nat) : Int))).setCell ⟨b, 1, none⟩ (.int .i64 (bs.length + 1))).drew.heap[b]? = some (.cells #[.slice (some ⟨g, 0, none⟩) ((bs.length + 7) / 8) cap, .int .i64 (bs ++ [c == 1]).length] 30 (0, 0)) := by
        have k1 := hb
        rw [← Below.heap_setCell w ⟨g, bs.length / 8, none⟩ (.int .u8 ((Bt.byteAt bs (bs.length / 8) + (c == 1).toNat * 2 ^ (bs.length % 8) : Nat) : Int)) b hgb] at k1
        have k2 := two_set1 (x := .int .i64 (bs.length + 1)) k1
        have e : ((bs ++ [c == 1]).length : Int) = (bs.length : Int) + 1 := by simp
        rw [e]
        exact k2
      have hfb : Fp w b b := Fp.self w b
      have hfg : Fp w b g := .inr ⟨_, _, hb, rfl⟩
      refine ⟨rfl, ⟨_, kb, ?_⟩, ?_, ?_⟩
      · have e9 : ((bs ++ [c == 1]).length + 7) / 8 = (bs.length + 7) / 8 := by simp; omega
        rw [e9, Bt.pack_mid _ _ hm]
        refine World.ownsRow.drew ?_
        refine ownsRow_setCell_other ?_ (by simp [Value.ownBlock]; omega) _
        have k3 := ownsRow_set hown (bs.length / 8) (.int .u8 ((Bt.byteAt bs (bs.length / 8) + (c == 1).toNat * 2 ^ (bs.length % 8) : Nat) : Int))
        simpa [bytesV, List.map_set] using k3
      · exact Touch.drew (Touch.setCell (Touch.setCell (Touch.refl _ _) (fun _ => hfg) _) (fun _ => hfb) _)
      · intro k hk
        rcases hk with hk | ⟨v2, c2, hk, ho⟩
        · exact .inl (.inl hk)
        · rw [kb] at hk
          simp at hk
          obtain ⟨rfl, rfl⟩ := hk
          simp [Value.ownBlock] at ho
          subst ho
          exact .inl hfg
end Go.Proofs.Ytokelpnmeknncab
