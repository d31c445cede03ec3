/- Bytes of a writer; condition: together at most two to the forty-seventh bytes. -/
import Derived.Test.YtcpjbagljpohnaaPut
import Derived.Test.YtcpjbagljpohnaaWby
import Derived.Test.YtcpjbagljpohnaaWmath
namespace Go.Proofs.Ytcpjbagljpohnaa
open Go.RowKit Go.Lib

theorem wbytes_nil (s : ByteArray) (w : World) :
    Calls Try.prog 19 #[.pointer none, .string s] w fun e w' => e = .returned (.tuple #[]) ∧ w' = w := by
  go_enter Try.func19, Try.ntmps19
  go_wp2
  refine bodyPost_ret (results_none rfl _ _ _) rfl ?_
  exact ⟨rfl, rfl⟩

theorem strCells_eq (s : ByteArray) : strCells s = bytesV (Bt.strNats s) := by
  unfold strCells bytesV Bt.strNats
  rw [List.map_map]
  apply List.ext_getElem
  · simp
  · intro i h1 h2
    have hi : i < s.data.size := by simpa using h1
    simp only [List.getElem_map, List.getElem_range, Function.comp_def, Array.getElem_toList, Bt.byteN, Array.getD]
    rw [dif_pos hi]
    rfl

set_option maxHeartbeats 400000 in
theorem wbytes_raw (b n q : Nat) (v : Value) (xs : List Value) (s : ByteArray) (w : World) (hv : (∃ g cap, v = .slice (some ⟨g, 0, none⟩) n cap) ∨ v = .slice none 0 0)
    (hown : w.ownsRow 0 5 1 v n xs) (hb : w.heap[b]? = some (.cells #[v, .int .i64 q] 41 (0, 0))) (hlen : n + s.size ≤ 140737488355328) :
    Calls Try.prog 19 #[.pointer (some ⟨b, 0, none⟩), .string s] w fun e w' => e = .returned (.tuple #[]) ∧
      ∃ w1 v', w1.ownsRow 0 5 1 v' (n + s.size) (xs ++ strCells s) ∧ w.grownBy w1 v.ownBlock ∧ (v'.ownBlock = v.ownBlock ∨ ∃ g, v'.ownBlock = some g ∧ w.heap.size ≤ g) ∧
      w' = ((w1.setCell ⟨b, 0, none⟩ v').setCell ⟨b, 1, none⟩ (.int .i64 (8 * (n + s.size : Nat)))) := by
  obtain ⟨i0, hi, hz0, hz1, hz2⟩ := info_parts Try.info5
  have hblt : b < w.heap.size := lt_of_block hb
  have hbv : v.ownBlock ≠ some b := by
    intro e
    rcases hown.2 with ⟨rfl, _⟩ | ⟨g, cap, cur, rfl, _, hh, _⟩
    · simp [Value.ownBlock] at e
    · simp [Value.ownBlock] at e
      subst e
      rw [hb] at hh
      simp at hh
  have h0 := cell_two0 hb
  have key : ∀ (v' : Value) (w1 : World), w1.ownsRow 0 5 1 v' (n + s.size) (xs ++ strCells s) → w.grownBy w1 v.ownBlock →
      ((∃ g cap, v' = .slice (some ⟨g, 0, none⟩) (n + s.size) cap) ∨ (v' = .slice none 0 0 ∧ n + s.size = 0)) ∧ w1.heap[b]? = some (.cells #[v, .int .i64 q] 41 (0, 0)) := by
    intro v' w1 hown' hgrow
    refine ⟨?_, ?_⟩
    · rcases hown'.2 with h | ⟨g, cap, cur, rfl, _⟩
      · exact .inr h
      · exact .inl ⟨g, cap, rfl⟩
    · rw [hgrow.block b hblt (fun e => hbv e.symm)]; exact hb
  have KEY : Hid _ := key
  clear key hb hbv hblt
  rcases hv with ⟨g, cap, rfl⟩ | rfl
  all_goals
    go_enter Try.func19, Try.ntmps19
    go_wp2_with (first
      | (at_builtin; refine wpList_append_string_at _ rfl _ _ 39 9 rfl 5 i0 Try.underlying39 Try.underlying9 hi hz0 hz1 hz2 _ _ _ rfl hown s rfl (by unfold maxLen; omega) (by omega) ?_)
      | go_in)
    intro v' w1 hown' hgrow hwh
    obtain ⟨hv', hb1⟩ := KEY.out v' w1 hown' hgrow
    have k0 := cell_two0 hb1
    have k1 := cell_two1 hb1
    have kf0 := free_two (i := 0) hb1
    have kf1 := free_two (i := 1) hb1
    clear KEY hown h0
    rcases hv' with ⟨g1, cap1, hv1⟩ | ⟨hv1, hz⟩
    · rw [hv1] at hown' hwh ⊢
      have H1 : Hid _ := hown'
      have H2 : Hid _ := hgrow
      have H3 : Hid _ := hwh
      clear hv1 hown' hgrow hwh
      go_wp2
      go_end0
      exact ⟨rfl, w1, _, H1.out, H2.out, H3.out, by simp⟩
    · rw [hv1]
      have H1 : Hid _ := hown'
      have H2 : Hid _ := hgrow
      have H3 : Hid _ := hwh
      have HZ : Hid _ := hz
      have HV : Hid _ := hv1
      clear hv1 hown' hgrow hwh hz
      go_wp2
      go_end0
      exact ⟨rfl, w1, v', H1.out, H2.out, H3.out, by rw [HV.out, HZ.out]; rfl⟩

theorem wbytes_any (b : Nat) (bs : List Bool) (s : ByteArray) (w : World) (h : Wr w b bs) (hlen : (bs.length + 7) / 8 + s.size ≤ 140737488355328) :
    Calls Try.prog 19 #[.pointer (some ⟨b, 0, none⟩), .string s] w fun e w' => e = .returned (.tuple #[]) ∧ WStep w w' b (Bt.behind bs s) := by
  obtain ⟨v, hb, hown⟩ := h
  refine (wbytes_raw b _ bs.length v _ s w ?_ hown hb hlen).mono ?_
  · rcases hown.2 with ⟨h, _⟩ | ⟨g, cap, cur, h, _⟩
    · exact .inr h
    · exact .inl ⟨g, cap, h⟩
  · rintro e w' ⟨rfl, w1, v', hown1, hgrow, hwh, rfl⟩
    have hbv : v.ownBlock ≠ some b := by
      intro e
      rcases hown.2 with ⟨rfl, _⟩ | ⟨g, cap, cur, rfl, _, hh, _⟩
      · simp [Value.ownBlock] at e
      · simp [Value.ownBlock] at e
        subst e
        rw [hb] at hh
        simp at hh
    have hblt := lt_of_block hb
    have hb1 : w1.heap[b]? = some (.cells #[v, .int .i64 bs.length] 41 (0, 0)) := by
      rw [hgrow.block b hblt (fun e => hbv e.symm)]; exact hb
    have hvb : v'.ownBlock ≠ some b := by
      intro e
      rcases hown1.2 with ⟨rfl, _⟩ | ⟨g, cap, cur, rfl, _, hh, _⟩
      · simp [Value.ownBlock] at e
      · simp [Value.ownBlock] at e
        subst e
        rw [hb1] at hh
        simp at hh
    have hfb : Fp w b b := Fp.self w b
    have hfv : ∀ k, v.ownBlock = some k → Fp w b k := fun k hk => .inr ⟨v, _, hb, hk⟩
    have kb : ((w1.setCell ⟨b, 0, none⟩ v').setCell ⟨b, 1, none⟩ (.int .i64 (8 * ((bs.length + 7) / 8 + s.size : Nat)))).heap[b]? = some (.cells #[v', .int .i64 (Bt.behind bs s).length] 41 (0, 0)) := by
      have k2 := two_set1 (x := .int .i64 (8 * ((bs.length + 7) / 8 + s.size : Nat))) (two_set0 (x := v') hb1)
      rw [Bt.length_behind]
      rw [show ((8 * ((bs.length + 7) / 8 + s.size) : Nat) : Int) = 8 * (((bs.length + 7) / 8 + s.size : Nat) : Int) by omega]
      exact k2
    refine ⟨rfl, ⟨v', kb, ?_⟩, ?_, ?_⟩
    · refine ownsRow_setCell_other (ownsRow_setCell_other ?_ hvb _) hvb _
      rw [Bt.pack_behind, Bt.length_behind, show (8 * ((bs.length + 7) / 8 + s.size) + 7) / 8 = (bs.length + 7) / 8 + s.size by omega]
      rw [strCells_eq] at hown1
      simpa [bytesV] using hown1
    · exact Touch.setCell (Touch.setCell ((Touch.refl _ w).grown hgrow (fun k hk _ => hfv k hk)) (fun _ => hfb) _) (fun _ => hfb) _
    · intro k hk
      rcases hk with hk | ⟨v2, c2, hk, ho⟩
      · exact .inl (.inl hk)
      · rw [kb] at hk
        simp at hk
        obtain ⟨rfl, rfl⟩ := hk
        rcases hwh with h | ⟨g, h, hg⟩
        · exact .inl (hfv k (by rw [← h]; exact ho))
        · rw [h] at ho
          simp at ho
          exact .inr (by omega)

end Go.Proofs.Ytcpjbagljpohnaa
