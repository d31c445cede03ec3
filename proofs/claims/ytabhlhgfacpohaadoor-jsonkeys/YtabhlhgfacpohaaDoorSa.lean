/- Show of an object of texts; conditions: the two tables lie there, and what is told of lengths. -/
import Derived.Test.YtabhlhgfacpohaaDoorOw
namespace Go.Proofs.YtabhlhgfacpohaaDoor
open Go.RowKit
open Go.Lib

/-- A text in quotes. -/
def quB (s : ByteArray) : Bs := 34 :: ((scs s).flatMap qo ++ [34])
theorem flat_qo (L : List Nat) : (L.flatMap qo).length ≤ 6 * L.length := by
  have := flat_le (qo := qo) (rs := L) (fun x _ => qo_len x) L.length
  rwa [List.take_of_length_le (Nat.le_refl _)] at this
theorem quB_len (s : ByteArray) : (quB s).length ≤ 6 * s.size + 2 := by
  have h1 := flat_qo (scs s)
  have h2 := scs_len s
  unfold quB
  simp only [List.length_cons, List.length_append, List.length_nil]
  omega
theorem quote_any (s : ByteArray) (l : Bs) (v : Value) (w : World) (ht : Tabs w) (ho : OB w v l) (hs : s.size ≤ 1048576) (hl : l.length ≤ 1073741824) :
    Calls Tryd.prog 21 #[v, .string s] w fun e w' => ∃ v', e = .returned v' ∧ Grew w w' v v' (l ++ quB s) := by
  have := scs_len s
  exact quote_of qo s (scs s) l v w ht ho (by omega) (by omega) (by omega) (fun x _ => qo_len x) (decX_any s (by omega)) (fun x hx => one_all x (scs_sc s x hx))
/-- What isn't bytes is left alone. -/
theorem other_kept {w w' : World} {v v' : Value} {l l' : Bs} (ho : OB w v l) (g : Grew w w' v v' l') {b : Nat} {cs : Array Value} {ty : TypeId} {fr : Nat × Nat} (h : w.heap[b]? = some (.cells cs ty fr)) (ht : ty ≠ 5) : w'.heap[b]? = some (.cells cs ty fr) := by
  refine (g.touch.block b (lt_of_block h) (fun e => ?_)).trans h
  rcases ho.2 with ⟨hv, _⟩ | ⟨g', cap, cur, hv, _, hh, _⟩
  · rw [hv] at e
    cases e
  · rw [hv] at e
    cases e
    rw [hh] at h
    cases h
    exact ht rfl
theorem row_other {w w' : World} {v v' x : Value} {l l' : Bs} {e : TypeId} {sz n : Nat} {xs : List Value} (ho : OB w v l) (g : Grew w w' v v' l') (h : w.ownsRow 0 e sz x n xs) (he : e ≠ 5) : w'.ownsRow 0 e sz x n xs := by
  refine ⟨h.1, ?_⟩
  rcases h.2 with h0 | ⟨g2, cap, cur, hv, hg, hh, rest⟩
  · exact .inl h0
  · exact .inr ⟨g2, cap, cur, hv, hg, other_kept ho g hh he, rest⟩
theorem SL.at {w : World} {a : Option Addr} {n c : Nat} {ks : List ByteArray} (h : SL w (.slice a n c) ks) (i : Nat) (hi : i < ks.length) : ∃ g, a = some ⟨g, 0, none⟩ ∧ w.cell? ⟨g, i, none⟩ = some (.string (ks.getD i ⟨#[]⟩)) := by
  rcases h.2 with ⟨_, h0⟩ | ⟨g, cap, cur, hv, hg, hh, rest⟩
  · omega
  · cases hv
    refine ⟨g, rfl, ?_⟩
    have h' := h
    unfold SL at h'
    rw [h'.cellAt i (by omega), List.getElem?_map, List.getElem?_eq_getElem hi, List.getD_eq_getElem?_getD, List.getElem?_eq_getElem hi]
    rfl
theorem SL.len {w : World} {a : Option Addr} {n c : Nat} {ks : List ByteArray} (h : SL w (.slice a n c) ks) : n = ks.length := by
  obtain ⟨_, _, hh⟩ := own_shape h
  cases hh
  rfl
theorem VL.len {w : World} {a : Option Addr} {n c : Nat} {ks : List ByteArray} (h : VL w (.slice a n c) ks) : n = ks.length := by
  obtain ⟨_, _, hh⟩ := own_shape h
  cases hh
  rfl
theorem kid_get (ts : List ByteArray) (i j : Nat) (hi : i < ts.length) (hj : j < 4) : (ts.flatMap kidC)[i * 4 + j]? = (kidC (ts.getD i ⟨#[]⟩))[j]? := by
  induction ts generalizing i with
  | nil => simp at hi
  | cons a l ih =>
    rw [List.flatMap_cons]
    cases i with
    | zero =>
      rw [Nat.zero_mul, Nat.zero_add, List.getElem?_append_left (by show j < 4; exact hj)]
      rfl
    | succ i =>
      rw [List.getElem?_append_right (by show 4 ≤ _; omega)]
      rw [show (i + 1) * 4 + j - (kidC a).length = i * 4 + j from by show _ - 4 = _; omega, ih i (by simpa using hi)]
      rfl
theorem VL.at {w : World} {a : Option Addr} {n c : Nat} {ts : List ByteArray} (h : VL w (.slice a n c) ts) (i : Nat) (hi : i < ts.length) : ∃ g, a = some ⟨g, 0, none⟩ ∧ w.cell? ⟨g, i * 4, none⟩ = some (.int .i64 4) ∧ w.cell? ⟨g, i * 4 + 1, none⟩ = some (.string (ts.getD i ⟨#[]⟩)) ∧ w.cell? ⟨g, i * 4 + 2, none⟩ = some (.slice none 0 0) ∧ w.cell? ⟨g, i * 4 + 3, none⟩ = some (.slice none 0 0) := by
  rcases h.2 with ⟨_, h0⟩ | ⟨g, cap, cur, hv, hg, hh, rest⟩
  · omega
  · cases hv
    have h' := h
    unfold VL at h'
    refine ⟨g, rfl, ?_, ?_, ?_, ?_⟩
    · have := kid_get ts i 0 hi (by decide)
      rw [Nat.add_zero] at this
      rw [h'.cellAt (i * 4) (by omega), this]
      rfl
    · rw [h'.cellAt (i * 4 + 1) (by omega), kid_get ts i 1 hi (by decide)]
      rfl
    · rw [h'.cellAt (i * 4 + 2) (by omega), kid_get ts i 2 hi (by decide)]
      rfl
    · rw [h'.cellAt (i * 4 + 3) (by omega), kid_get ts i 3 hi (by decide)]
      rfl
set_option maxRecDepth 100000 in
set_option maxHeartbeats 4000000 in
theorem key_any (k0 : Int) (t0 : ByteArray) (a2 a3 : Option Addr) (n2 c2 n3 c3 : Nat) (ks : List ByteArray) (i : Nat) (w : World) (h : SL w (.slice a2 n2 c2) ks) (hi : i < ks.length) :
    Calls Tryd.prog 64 #[.agg #[.int .i64 k0, .string t0, .slice a2 n2 c2, .slice a3 n3 c3], .int .i64 (i : Nat)] w fun e w' => e = .returned (.string (ks.getD i ⟨#[]⟩)) ∧ Touch (fun _ => False) w w' := by
  obtain ⟨g, rfl, hc⟩ := h.at i hi
  have hn := h.len
  have hiI : (i : Int) < (n2 : Int) := by omega
  have TA := (Touch.refl (fun _ => False) w).alloc (.cells #[.int .i64 k0, .string t0, .slice (some ⟨g, 0, none⟩) n2 c2, .slice a3 n3 c3] 26)
  have hg : g < w.heap.size := World.block_lt_of_cell? w _ hc
  have hc2 := (TA.cell (p := ⟨g, i, none⟩) hg id).trans hc
  have HT := hid TA
  clear h hn hc hg TA hi
  go_enter Tryd.func64, Tryd.ntmps64
  go_wp2
  go_ret
  exact ⟨rfl, HT.out⟩
set_option maxRecDepth 100000 in
set_option maxHeartbeats 4000000 in
theorem show_text (s : ByteArray) (l : Bs) (v : Value) (w : World) (ht : Tabs w) (ho : OB w v l) (hs : s.size ≤ 1048576) (hl : l.length ≤ 1073741824) :
    Calls Tryd.prog 20 #[.agg #[.int .i64 4, .string s, .slice none 0 0, .slice none 0 0], v] w fun e w' => ∃ v', e = .returned v' ∧ Grew w w' v v' (l ++ quB s) := by
  have TA := hid ((Touch.refl (fun _ => False) w).alloc (.cells #[.int .i64 4, .string s, .slice none 0 0, .slice none 0 0] 26))
  have K := hid (quote_any s l v (w.alloc (.cells #[.int .i64 4, .string s, .slice none 0 0, .slice none 0 0] 26)) (ht.new TA.out) (ho.kept TA.out (fun _ _ e => e)) hs hl)
  clear ht ho
  go_enter Tryd.func20, Tryd.ntmps20
  go_wp2_with fail
  refine K.out.mono ?_
  rintro e w1 ⟨v', rfl, g⟩
  have G := hid (Grew.from TA.out g)
  clear g K TA
  go_wp2
  go_ret
  exact ⟨v', rfl, G.out⟩
/-- What stands in an object for a pair. -/
def pcF (ks ts : List ByteArray) (i : Nat) : Bs := (if i = 0 then [] else [44]) ++ (quB (ks.getD i ⟨#[]⟩) ++ [58] ++ quB (ts.getD i ⟨#[]⟩))
def jnF (ks ts : List ByteArray) (k : Nat) : Bs := (List.range k).flatMap (pcF ks ts)
theorem jn_more (ks ts : List ByteArray) (k : Nat) : jnF ks ts (k + 1) = jnF ks ts k ++ pcF ks ts k := by
  unfold jnF
  rw [List.range_succ, List.flatMap_append]
  simp
def objB (ks ts : List ByteArray) : Bs := 123 :: (jnF ks ts ts.length ++ [125])
theorem getD_size {ks : List ByteArray} {B : Nat} (h : ∀ x ∈ ks, x.size ≤ B) (i : Nat) : (ks.getD i ⟨#[]⟩).size ≤ B := by
  rw [List.getD_eq_getElem?_getD]
  cases e : ks[i]? with
  | none => exact Nat.zero_le _
  | some x => exact h x (List.mem_of_getElem? e)
theorem jn_len {ks ts : List ByteArray} (h2 : ∀ x ∈ ks, x.size ≤ 4000) (h3 : ∀ x ∈ ts, x.size ≤ 4000) : ∀ k, (jnF ks ts k).length ≤ 50000 * k
  | 0 => by simp [jnF]
  | k + 1 => by
    have ih := jn_len h2 h3 k
    have a := quB_len (ks.getD k ⟨#[]⟩)
    have b := quB_len (ts.getD k ⟨#[]⟩)
    have a' := getD_size h2 k
    have b' := getD_size h3 k
    have c : (if k = 0 then ([] : Bs) else [44]).length ≤ 1 := by split <;> simp
    rw [jn_more, List.length_append]
    unfold pcF
    simp only [List.length_append, List.length_singleton]
    omega
end Go.Proofs.YtabhlhgfacpohaaDoor
