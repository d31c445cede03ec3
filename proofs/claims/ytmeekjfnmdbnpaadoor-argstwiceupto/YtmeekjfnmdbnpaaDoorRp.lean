/- The document's Pack; condition: the texts fit into memory. -/
import Derived.Test.YtmeekjfnmdbnpaaDoorDe
namespace Go.Proofs.YtmeekjfnmdbnpaaDoor
open Go.RowKit
open Go.Lib

def bv (l : Bs) : List Value := l.map fun b => .int .u8 (b.toNat : Int)
theorem bv_app (a b : Bs) : bv (a ++ b) = bv a ++ bv b := by simp [bv]
theorem bv_str (s : ByteArray) : strCells s = bv s.data.toList := rfl
/-- Bytes that are the call's own. -/
structure OwB (W0 wr : World) (v : Value) (l : Bs) : Prop where
  own : wr.ownsRow W0.heap.size 5 1 v l.length (bv l)
  touch : Touch (fun _ => False) W0 wr
theorem OwB.nil (w : World) : OwB w w (.slice none 0 0) [] := ⟨World.ownsRow_nil _ _ _ _, Touch.refl _ _⟩
theorem OwB.still {W0 wr w' : World} {v : Value} {s : Bs} (h : OwB W0 wr v s) (tc : Touch (fun _ => False) wr w') : OwB W0 w' v s := by
  refine ⟨⟨h.own.1, ?_⟩, h.touch.trans tc (fun _ _ e => e)⟩
  rcases h.own.2 with h0 | ⟨g, cap, cur, hv, hg, hh, rest⟩
  · exact .inl h0
  · exact .inr ⟨g, cap, cur, hv, hg, (tc.block g (lt_of_block hh) id).trans hh, rest⟩
theorem OwB.grow {W0 wr w1 : World} {v v' : Value} {s t : Bs} (h : OwB W0 wr v s) {n : Nat} (hn : n = t.length) (hown : w1.ownsRow W0.heap.size 5 1 v' (s.length + n) (bv s ++ bv t)) (hg : wr.grownBy w1 v.ownBlock) : OwB W0 w1 v' (s ++ t) := by
  refine ⟨?_, h.touch.grown hg (fun k e hk => ?_)⟩
  · rw [List.length_append, bv_app, ← hn]
    exact hown
  · have := (h.own.lt k e).1
    omega
theorem OwB.grow1 {W0 wr w1 : World} {v v' : Value} {s : Bs} {c : UInt8} {o : Obj} (h : OwB W0 wr v s) (hown : w1.ownsRow W0.heap.size 5 1 v' (s.length + 1) (bv s ++ [.int .u8 (c.toNat : Int)])) (hg : (wr.alloc o).grownBy w1 v.ownBlock) : OwB W0 w1 v' (s ++ [c]) := by
  refine ⟨?_, (h.touch.alloc o).grown hg (fun k e hk => ?_)⟩
  · rw [List.length_append, bv_app]
    exact hown
  · have := (h.own.lt k e).1
    omega
theorem OwB.conv {W0 wr : World} {v : Value} {s : Bs} (h : OwB W0 wr v s) : (convert 58 9 v).run Tryd.prog wr = .ok (.string ⟨s.toArray⟩) wr := by
  have h2 := h.own.2
  rcases h2 with ⟨hv, h0⟩ | ⟨g, cap, cur, hv, hg, hh, rest⟩
  · obtain rfl : s = [] := List.eq_nil_of_length_eq_zero h0
    rw [hv, run_convert_bytes_string wr 58 9 5 none 0 0 Tryd.underlying58 Tryd.underlying5 Tryd.underlying9]
    rfl
  · rw [hv]
    refine run_convert_bytes_back wr 58 9 5 ⟨g, 0, none⟩ cap s Tryd.underlying58 Tryd.underlying5 Tryd.underlying9 (fun j hj => ?_)
    exact h.own.cells (g := g) (by rw [hv]; rfl) j _ (by unfold bv; rw [List.getElem?_map, List.getElem?_eq_getElem hj]; rfl)
set_option maxRecDepth 100000 in
set_option maxHeartbeats 4000000 in
theorem rpack_any (v : Value) (ns : List Bs) (w : World) (hn : Nl w v ns) (hw : wt ns ≤ 140737488355000) :
    Calls Tryd.prog 11 #[v] w fun e w' => e = .returned (sv (packL ns)) ∧ Touch (fun _ => False) w w' := by
  obtain ⟨i0, hi, hz0, hz1, hz2⟩ := info_parts info5
  obtain ⟨a, c, rfl, hc⟩ := hn
  obtain ⟨X, hX⟩ : ∃ X, X = packL ns := ⟨_, rfl⟩
  have HP := hid (show [] ++ packL (ns.drop 0) = X by rw [hX]; rfl)
  rw [← hX]
  have HC := hid hc
  have HWT := hid (show ([] : Bs).length + wt (ns.drop 0) ≤ 140737488355000 from by rw [List.drop_zero]; simpa using hw)
  have hnl : ns.length ≤ 140737488355000 := by
    have : ∀ ns : List Bs, ns.length ≤ wt ns := by
      intro ns
      induction ns with
      | nil => exact Nat.zero_le _
      | cons t l ih => rw [wt, List.length_cons]; omega
    have := this ns
    omega
  clear hX hc hw
  go_enter Tryd.func11, Tryd.ntmps11
  go_wp2_with fail
  go_loopg [3, 4] ns.length (fun gk v3 v4 wr => ∃ (i : Nat) (l : Bs), i + gk = ns.length ∧ v4 = .int .i64 (i : Nat) ∧ Hid (l ++ packL (ns.drop i) = X) ∧ Hid (l.length + wt (ns.drop i) ≤ 140737488355000) ∧ OwB w wr v3 l)
  case atStart => exact ⟨0, [], by omega, rfl, HP, HWT, OwB.nil _⟩
  case round =>
    clear HP HWT
    obtain ⟨i, l, hig, rfl, HP, HWT, hown⟩ := hrel
    have OW := hid hown
    obtain ⟨a3, c3, hv3⟩ := own_shape hown.own
    subst hv3
    clear hown
    by_cases hlt : i < ns.length
    · have hltI : (i : Int) < (ns.length : Int) := by omega
      obtain ⟨G, rfl⟩ : ∃ G, gk = G + 1 := ⟨gk - 1, by omega⟩
      rcases HC.out with h0 | ⟨b, o, rfl, hbl, hcell⟩
      · rw [h0] at hlt; simp at hlt
      have CI := hid (hcell i hlt)
      rw [packL_get ns i hlt] at HP
      rw [wt_drop ns i hlt] at HWT
      obtain ⟨T, hT, hTs, hTd⟩ := name_ba ns[i]
      rw [hT] at CI
      have hci : wr.cell? ⟨b, o + i, none⟩ = some (.string T) := by
        rw [OW.out.touch.cell (p := ⟨b, o + i, none⟩) hbl id]
        exact CI.out
      clear hcell hT HC
      by_cases hbig : 9999999 < (ns[i]).length
      · rw [if_pos hbig, List.append_nil] at HP
        have hgt : ¬ (T.size : Int) < (10000000 : Int) := by omega
        have hcv := OW.out.conv
        clear hbig hTs hTd HWT
        go_wp2
        go_ret
        exact ⟨by rw [← HP.out]; rfl, OW.out.touch⟩
      · rw [if_neg hbig, ← List.append_assoc] at HP
        have hgt : (T.size : Int) < (10000000 : Int) := by omega
        have hTb : T.size ≤ 9999999 := by omega
        have HL := hid (show l.length + T.size + 50 + wt (ns.drop (i + 1)) ≤ 140737488355000 from by have := HWT.out; omega)
        have hlb : l.length + T.size + 50 ≤ 140737488355000 := by have := HL.out; omega
        have K := hid (fun w => dec_pos T.size (by omega) w)
        obtain ⟨Q, hQ, hQs, hQd⟩ := name_ba (decDigits T.size)
        rw [hQ] at K
        have hQ19 := dec_short T.size (by omega)
        rw [← hQs] at hQ19
        have HE := hid (show l ++ pk ns[i] = ((l ++ Q.data.toList) ++ [58]) ++ T.data.toList ++ [44] by
          unfold pk
          rw [← hTd, len_size, hQd]
          simp)
        rw [HE.out] at HP
        have HS := hid (pk_short ns[i] (by omega))
        have HTS := hid hTs
        have HLE := hid (show (l ++ pk ns[i]).length = l.length + (pk ns[i]).length by rw [List.length_append])
        rw [HE.out] at HLE
        clear hbig hTs hTd HWT hQ hQs hQd HE
        go_wp2_with fail
        refine (K.out _).mono ?_
        rintro e w1 ⟨rfl, t1⟩
        have OW1 := hid (OW.out.still t1)
        have BW1 := hid (show w.heap.size ≤ w1.heap.size from OW1.out.touch.size)
        clear t1 OW K hci
        go_wp2_with (at_builtin; refine wpList_append_own_string _ rfl _ _ 58 9 rfl w.heap.size 5 i0 Tryd.underlying58 Tryd.underlying9 hi hz0 hz1 hz2 _ _ _ rfl OW1.out.own Q rfl ?c3 ?c4 ?c5 ?_)
        case c3 => unfold maxLen; omega
        case c4 => omega
        case c5 => exact BW1.out
        intro v' w2 hown' hgrow _
        have OW2 := hid (OW1.out.grow (t := Q.data.toList) (len_size Q).symm hown' hgrow)
        have HL2 := hid (show (l ++ Q.data.toList).length = l.length + Q.size by rw [List.length_append, len_size])
        have BW2 := hid (show w.heap.size ≤ w2.heap.size from OW2.out.touch.size)
        obtain ⟨l2, he2⟩ : ∃ l2, l2 = l ++ Q.data.toList := ⟨_, rfl⟩
        rw [← he2] at OW2 HL2 HP HLE
        obtain ⟨a2, c2, hv2⟩ := own_shape OW2.out.own
        subst hv2
        have hl2 : l2.length ≤ l.length + 19 := by have := HL2.out; omega
        clear hown' hgrow OW1 BW1 he2
        go_wp2_with (at_builtin; refine wpList_append_own_at _ rfl _ _ 58 rfl w.heap.size 5 i0 (.int .u8 0) 1 1 Tryd.underlying58 hi hz0 hz1 hz2 rfl (by decide) _ _ _ rfl (OW2.out.own.alloc _) ⟨w2.heap.size, 0, none⟩ 1 1 [.int .u8 58] rfl rfl (row_new w2 [.int .u8 58] 5) (by intro u hu; simp at hu; subst hu; rfl) (by unfold maxLen; omega) (by omega) (by have := BW2.out; simp; omega) ?_)
        intro v3' w3 hown3 hgrow3 _ _
        have OW3 := hid (OW2.out.grow1 (c := 58) hown3 hgrow3)
        have HL3 := hid (show (l2 ++ [58]).length = l2.length + 1 by rw [List.length_append]; rfl)
        have BW3 := hid (show w.heap.size ≤ w3.heap.size from OW3.out.touch.size)
        have hci : w3.cell? ⟨b, o + i, none⟩ = some (.string T) := by
          rw [OW3.out.touch.cell (p := ⟨b, o + i, none⟩) hbl id]
          exact CI.out
        obtain ⟨l3, he3⟩ : ∃ l3, l3 = l2 ++ [58] := ⟨_, rfl⟩
        rw [← he3] at OW3 HL3 HP HLE
        obtain ⟨a4, c4, hv4⟩ := own_shape OW3.out.own
        subst hv4
        have hl3 : l3.length ≤ l.length + 20 := by have := HL3.out; omega
        clear hown3 hgrow3 OW2 BW2 he3 hl2
        go_wp2_with (at_builtin; refine wpList_append_own_string _ rfl _ _ 58 9 rfl w.heap.size 5 i0 Tryd.underlying58 Tryd.underlying9 hi hz0 hz1 hz2 _ _ _ rfl OW3.out.own T rfl ?c3 ?c4 ?c5 ?_)
        case c3 => unfold maxLen; omega
        case c4 => omega
        case c5 => exact BW3.out
        intro v4' w4 hown4 hgrow4 _
        have OW4 := hid (OW3.out.grow (t := T.data.toList) (len_size T).symm hown4 hgrow4)
        have HL4 := hid (show (l3 ++ T.data.toList).length = l3.length + T.size by rw [List.length_append, len_size])
        have BW4 := hid (show w.heap.size ≤ w4.heap.size from OW4.out.touch.size)
        obtain ⟨l4, he4⟩ : ∃ l4, l4 = l3 ++ T.data.toList := ⟨_, rfl⟩
        rw [← he4] at OW4 HL4 HP HLE
        obtain ⟨a5, c5, hv5⟩ := own_shape OW4.out.own
        subst hv5
        have hl4 : l4.length ≤ l.length + T.size + 20 := by have := HL4.out; omega
        clear hown4 hgrow4 OW3 BW3 he4 hl3 hci
        go_wp2_with (at_builtin; refine wpList_append_own_at _ rfl _ _ 58 rfl w.heap.size 5 i0 (.int .u8 0) 1 1 Tryd.underlying58 hi hz0 hz1 hz2 rfl (by decide) _ _ _ rfl (OW4.out.own.alloc _) ⟨w4.heap.size, 0, none⟩ 1 1 [.int .u8 44] rfl rfl (row_new w4 [.int .u8 44] 5) (by intro u hu; simp at hu; subst hu; rfl) (by unfold maxLen; omega) (by omega) (by have := BW4.out; simp; omega) ?_)
        intro v5' w5 hown5 hgrow5 _ _
        have OW5 := hid (OW4.out.grow1 (c := 44) hown5 hgrow5)
        clear hown5 hgrow5 OW4 BW4
        go_wp2
        go_roundg G
        case measure => omega
        case rel => exact ⟨i + 1, _, by omega, by go_num, HP, hid (by rw [HLE.out]; have h1 := HL.out; have h2 := HS.out; have h3 := HTS.out; omega), OW5.out⟩
    · have hltI : ¬ (i : Int) < (ns.length : Int) := by omega
      rw [List.drop_eq_nil_of_le (by omega), packL, List.append_nil] at HP
      have hcv := OW.out.conv
      clear HC HWT
      go_wp2
      go_ret
      exact ⟨by rw [← HP.out]; rfl, OW.out.touch⟩
end Go.Proofs.YtmeekjfnmdbnpaaDoor
