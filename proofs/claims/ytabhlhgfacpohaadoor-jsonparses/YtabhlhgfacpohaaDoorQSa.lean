/- Texts of this proof, one behind the other: what each says stands ahead of it. -/
import Derived.Test.YtabhlhgfacpohaaDoorOa
import Derived.Test.YtabhlhgfacpohaaDoorM19
/- Show of an object of texts; conditions: the two tables lie there, and what is told of lengths. -/
namespace Go.Proofs.YtabhlhgfacpohaaDoor
open Go.RowKit
open Go.Lib

/-- A text in quotes. -/
def quB (s : ByteArray) : Bs := 34 :: ((scs s).flatMap qo ++ [34])
theorem flat_qo (L : List Nat) : (L.flatMap qo).length ≤ 6 * L.length := by
  have := flat_le (qo := qo) (rs := L) (fun x _ => qo_len x) L.length
  rwa [List.take_of_length_le (Nat.le_refl _)] at this
theorem quB_len (s : ByteArray) : (quB s).length ≤ 6 * s.size + 2 := by
  have h1 := flat_qo (scs s)
  have h2 := scs_len s
  unfold quB
  simp only [List.length_cons, List.length_append, List.length_nil]
  omega
theorem quote_any (s : ByteArray) (l : Bs) (v : Value) (w : World) (ht : Tabs w) (ho : OB w v l) (hs : s.size ≤ 1048576) (hl : l.length ≤ 1073741824) :
    Calls Tryd.prog 21 #[v, .string s] w fun e w' => ∃ v', e = .returned v' ∧ Grew w w' v v' (l ++ quB s) := by
  have := scs_len s
  exact quote_of qo s (scs s) l v w ht ho (by omega) (by omega) (by omega) (fun x _ => qo_len x) (decX_any s (by omega)) (fun x hx => one_all x (scs_sc s x hx))
/-- What isn't bytes is left alone. -/
theorem other_kept {w w' : World} {v v' : Value} {l l' : Bs} (ho : OB w v l) (g : Grew w w' v v' l') {b : Nat} {cs : Array Value} {ty : TypeId} {fr : Nat × Nat} (h : w.heap[b]? = some (.cells cs ty fr)) (ht : ty ≠ 5) : w'.heap[b]? = some (.cells cs ty fr) := by
  refine (g.touch.block b (lt_of_block h) (fun e => ?_)).trans h
  rcases ho.2 with ⟨hv, _⟩ | ⟨g', cap, cur, hv, _, hh, _⟩
  · rw [hv] at e
    cases e
  · rw [hv] at e
    cases e
    rw [hh] at h
    cases h
    exact ht rfl
theorem row_other {w w' : World} {v v' x : Value} {l l' : Bs} {e : TypeId} {sz n : Nat} {xs : List Value} (ho : OB w v l) (g : Grew w w' v v' l') (h : w.ownsRow 0 e sz x n xs) (he : e ≠ 5) : w'.ownsRow 0 e sz x n xs := by
  refine ⟨h.1, ?_⟩
  rcases h.2 with h0 | ⟨g2, cap, cur, hv, hg, hh, rest⟩
  · exact .inl h0
  · exact .inr ⟨g2, cap, cur, hv, hg, other_kept ho g hh he, rest⟩
theorem SL.at {w : World} {a : Option Addr} {n c : Nat} {ks : List ByteArray} (h : SL w (.slice a n c) ks) (i : Nat) (hi : i < ks.length) : ∃ g, a = some ⟨g, 0, none⟩ ∧ w.cell? ⟨g, i, none⟩ = some (.string (ks.getD i ⟨#[]⟩)) := by
  rcases h.2 with ⟨_, h0⟩ | ⟨g, cap, cur, hv, hg, hh, rest⟩
  · omega
  · cases hv
    refine ⟨g, rfl, ?_⟩
    have h' := h
    unfold SL at h'
    rw [h'.cellAt i (by omega), List.getElem?_map, List.getElem?_eq_getElem hi, List.getD_eq_getElem?_getD, List.getElem?_eq_getElem hi]
    rfl
theorem SL.len {w : World} {a : Option Addr} {n c : Nat} {ks : List ByteArray} (h : SL w (.slice a n c) ks) : n = ks.length := by
  obtain ⟨_, _, hh⟩ := own_shape h
  cases hh
  rfl
theorem VL.len {w : World} {a : Option Addr} {n c : Nat} {ks : List ByteArray} (h : VL w (.slice a n c) ks) : n = ks.length := by
  obtain ⟨_, _, hh⟩ := own_shape h
  cases hh
  rfl
theorem kid_get (ts : List ByteArray) (i j : Nat) (hi : i < ts.length) (hj : j < 4) : (ts.flatMap kidC)[i * 4 + j]? = (kidC (ts.getD i ⟨#[]⟩))[j]? := by
  induction ts generalizing i with
  | nil => simp at hi
  | cons a l ih =>
    rw [List.flatMap_cons]
    cases i with
    | zero =>
      rw [Nat.zero_mul, Nat.zero_add, List.getElem?_append_left (by show j < 4; exact hj)]
      rfl
    | succ i =>
      rw [List.getElem?_append_right (by show 4 ≤ _; omega)]
      rw [show (i + 1) * 4 + j - (kidC a).length = i * 4 + j from by show _ - 4 = _; omega, ih i (by simpa using hi)]
      rfl
theorem VL.at {w : World} {a : Option Addr} {n c : Nat} {ts : List ByteArray} (h : VL w (.slice a n c) ts) (i : Nat) (hi : i < ts.length) : ∃ g, a = some ⟨g, 0, none⟩ ∧ w.cell? ⟨g, i * 4, none⟩ = some (.int .i64 4) ∧ w.cell? ⟨g, i * 4 + 1, none⟩ = some (.string (ts.getD i ⟨#[]⟩)) ∧ w.cell? ⟨g, i * 4 + 2, none⟩ = some (.slice none 0 0) ∧ w.cell? ⟨g, i * 4 + 3, none⟩ = some (.slice none 0 0) := by
  rcases h.2 with ⟨_, h0⟩ | ⟨g, cap, cur, hv, hg, hh, rest⟩
  · omega
  · cases hv
    have h' := h
    unfold VL at h'
    refine ⟨g, rfl, ?_, ?_, ?_, ?_⟩
    · have := kid_get ts i 0 hi (by decide)
      rw [Nat.add_zero] at this
      rw [h'.cellAt (i * 4) (by omega), this]
      rfl
    · rw [h'.cellAt (i * 4 + 1) (by omega), kid_get ts i 1 hi (by decide)]
      rfl
    · rw [h'.cellAt (i * 4 + 2) (by omega), kid_get ts i 2 hi (by decide)]
      rfl
    · rw [h'.cellAt (i * 4 + 3) (by omega), kid_get ts i 3 hi (by decide)]
      rfl
set_option maxRecDepth 100000 in
set_option maxHeartbeats 4000000 in
theorem key_any (k0 : Int) (t0 : ByteArray) (a2 a3 : Option Addr) (n2 c2 n3 c3 : Nat) (ks : List ByteArray) (i : Nat) (w : World) (h : SL w (.slice a2 n2 c2) ks) (hi : i < ks.length) :
    Calls Tryd.prog 64 #[.agg #[.int .i64 k0, .string t0, .slice a2 n2 c2, .slice a3 n3 c3], .int .i64 (i : Nat)] w fun e w' => e = .returned (.string (ks.getD i ⟨#[]⟩)) ∧ Touch (fun _ => False) w w' := by
  obtain ⟨g, rfl, hc⟩ := h.at i hi
  have hn := h.len
  have hiI : (i : Int) < (n2 : Int) := by omega
  have TA := (Touch.refl (fun _ => False) w).alloc (.cells #[.int .i64 k0, .string t0, .slice (some ⟨g, 0, none⟩) n2 c2, .slice a3 n3 c3] 26)
  have hg : g < w.heap.size := World.block_lt_of_cell? w _ hc
  have hc2 := (TA.cell (p := ⟨g, i, none⟩) hg id).trans hc
  have HT := hid TA
  clear h hn hc hg TA hi
  go_enter Tryd.func64, Tryd.ntmps64
  go_wp2
  go_ret
  exact ⟨rfl, HT.out⟩
set_option maxRecDepth 100000 in
set_option maxHeartbeats 4000000 in
theorem show_text (s : ByteArray) (l : Bs) (v : Value) (w : World) (ht : Tabs w) (ho : OB w v l) (hs : s.size ≤ 1048576) (hl : l.length ≤ 1073741824) :
    Calls Tryd.prog 20 #[.agg #[.int .i64 4, .string s, .slice none 0 0, .slice none 0 0], v] w fun e w' => ∃ v', e = .returned v' ∧ Grew w w' v v' (l ++ quB s) := by
  have TA := hid ((Touch.refl (fun _ => False) w).alloc (.cells #[.int .i64 4, .string s, .slice none 0 0, .slice none 0 0] 26))
  have K := hid (quote_any s l v (w.alloc (.cells #[.int .i64 4, .string s, .slice none 0 0, .slice none 0 0] 26)) (ht.new TA.out) (ho.kept TA.out (fun _ _ e => e)) hs hl)
  clear ht ho
  go_enter Tryd.func20, Tryd.ntmps20
  go_wp2_with fail
  refine K.out.mono ?_
  rintro e w1 ⟨v', rfl, g⟩
  have G := hid (Grew.from TA.out g)
  clear g K TA
  go_wp2
  go_ret
  exact ⟨v', rfl, G.out⟩
/-- What stands in an object for a pair. -/
def pcF (ks ts : List ByteArray) (i : Nat) : Bs := (if i = 0 then [] else [44]) ++ (quB (ks.getD i ⟨#[]⟩) ++ [58] ++ quB (ts.getD i ⟨#[]⟩))
def jnF (ks ts : List ByteArray) (k : Nat) : Bs := (List.range k).flatMap (pcF ks ts)
theorem jn_more (ks ts : List ByteArray) (k : Nat) : jnF ks ts (k + 1) = jnF ks ts k ++ pcF ks ts k := by
  unfold jnF
  rw [List.range_succ, List.flatMap_append]
  simp
def objB (ks ts : List ByteArray) : Bs := 123 :: (jnF ks ts ts.length ++ [125])
theorem getD_size {ks : List ByteArray} {B : Nat} (h : ∀ x ∈ ks, x.size ≤ B) (i : Nat) : (ks.getD i ⟨#[]⟩).size ≤ B := by
  rw [List.getD_eq_getElem?_getD]
  cases e : ks[i]? with
  | none => exact Nat.zero_le _
  | some x => exact h x (List.mem_of_getElem? e)
theorem jn_len {ks ts : List ByteArray} (h2 : ∀ x ∈ ks, x.size ≤ 4000) (h3 : ∀ x ∈ ts, x.size ≤ 4000) : ∀ k, (jnF ks ts k).length ≤ 50000 * k
  | 0 => by simp [jnF]
  | k + 1 => by
    have ih := jn_len h2 h3 k
    have a := quB_len (ks.getD k ⟨#[]⟩)
    have b := quB_len (ts.getD k ⟨#[]⟩)
    have a' := getD_size h2 k
    have b' := getD_size h3 k
    have c : (if k = 0 then ([] : Bs) else [44]).length ≤ 1 := by split <;> simp
    rw [jn_more, List.length_append]
    unfold pcF
    simp only [List.length_append, List.length_singleton]
    omega
end Go.Proofs.YtabhlhgfacpohaaDoor

/- Show of an object of texts: the walks; conditions: the two tables lie there, and what is told of lengths. -/
namespace Go.Proofs.YtabhlhgfacpohaaDoor
open Go.RowKit
open Go.Lib

/-- Bytes of the call's own, their number named. -/
theorem OB.named {w : World} {v : Value} {l : Bs} (h : OB w v l) : ∃ a c N, v = .slice a N c ∧ l.length = N ∧ w.ownsRow 0 5 1 (.slice a N c) N (bv l) := by
  obtain ⟨a, c, hv⟩ := own_shape h
  exact ⟨a, c, _, hv, rfl, by rw [← hv]; exact h⟩
/-- All that an object's Show reads. -/
structure SK (w : World) (q : Nat) (v2 v3 : Value) (ks ts : List ByteArray) : Prop where
  obj : w.heap[q]? = some (.cells #[.int .i64 6, .string ⟨#[]⟩, v2, v3] 26 (0, 0))
  keys : SL w v2 ks
  kids : VL w v3 ts
  tabs : Tabs w
theorem SK.new {w w' : World} {q : Nat} {v2 v3 : Value} {ks ts : List ByteArray} (h : SK w q v2 v3 ks ts) (tc : Touch (fun _ => False) w w') : SK w' q v2 v3 ks ts :=
  ⟨(tc.block q (lt_of_block h.obj) id).trans h.obj, rowKept h.keys tc (fun _ _ e => e), rowKept h.kids tc (fun _ _ e => e), h.tabs.new tc⟩
theorem tabs_other {w w' : World} {v v' : Value} {l' : Bs} (g : Grew w w' v v' l') (h : Tabs w) (h2 : ∀ k, v.ownBlock = some k → 2 ≤ k) : Tabs w' :=
  h.kept g.touch (fun e => by have := h2 0 e; omega) (fun e => by have := h2 1 e; omega)
theorem SK.grew {w w' : World} {q : Nat} {v2 v3 v v' : Value} {ks ts : List ByteArray} {l l' : Bs} (h : SK w q v2 v3 ks ts) (ho : OB w v l) (g : Grew w w' v v' l') (h2 : ∀ k, v.ownBlock = some k → 2 ≤ k) : SK w' q v2 v3 ks ts :=
  ⟨other_kept ho g h.obj (by decide), row_other ho g h.keys (by decide), row_other ho g h.kids (by decide), tabs_other g h.tabs h2⟩
theorem two_le {w w' : World} {v v' : Value} {l' : Bs} (g : Grew w w' v v' l') (h2 : ∀ k, v.ownBlock = some k → 2 ≤ k) (hw : 2 ≤ w.heap.size) : ∀ k, v'.ownBlock = some k → 2 ≤ k := by
  intro k e
  rcases g.pos with e2 | ⟨g2, e2, h3⟩
  · exact h2 k (by rw [← e2]; exact e)
  · rw [e2] at e
    cases e
    omega
set_option maxRecDepth 100000 in
set_option maxHeartbeats 8000000 in
theorem showKids_obj (a2 a3 : Option Addr) (n2 c2 n3 c3 : Nat) (ks ts : List ByteArray) (l : Bs) (v : Value) (w : World) (h2 : SL w (.slice a2 n2 c2) ks) (h3 : VL w (.slice a3 n3 c3) ts) (ht : Tabs w) (ho : OB w v l) (hv : ∀ k, v.ownBlock = some k → 2 ≤ k) (hl : l.length ≤ 1000) (hn : ts.length ≤ 60) (hk : ks.length = ts.length)
    (s2 : ∀ x ∈ ks, x.size ≤ 4000) (s3 : ∀ x ∈ ts, x.size ≤ 4000) :
    Calls Tryd.prog 35 #[.agg #[.int .i64 6, .string ⟨#[]⟩, .slice a2 n2 c2, .slice a3 n3 c3], v, .string ⟨#[123, 125]⟩] w fun e w' => ∃ v', e = .returned v' ∧ Grew w w' v v' (l ++ objB ks ts) := by
  obtain ⟨i0, hi5, hz0, hz1, hz2⟩ := info_parts info5b
  have hlen3 := h3.len
  have TA := (Touch.refl (fun _ => False) w).alloc (.cells #[.int .i64 6, .string ⟨#[]⟩, .slice a2 n2 c2, .slice a3 n3 c3] 26)
  have S0 := hid (show SK (w.alloc (.cells #[.int .i64 6, .string ⟨#[]⟩, .slice a2 n2 c2, .slice a3 n3 c3] 26)) w.heap.size (.slice a2 n2 c2) (.slice a3 n3 c3) ks ts from ⟨jfour_new _ _ _ _ _, rowKept h2 TA (fun _ _ e => e), rowKept h3 TA (fun _ _ e => e), ht.new TA⟩)
  have O0 := hid (ho.kept TA (fun _ _ e => e))
  have T0 := hid TA
  have HV := hid hv
  have JL := hid (fun k => jn_len s2 s3 k)
  have G2 := hid (fun i => getD_size s2 i)
  have G3 := hid (fun i => getD_size s3 i)
  have HN3 := hid hlen3
  have HW2 := hid (Nat.le_trans ht.two TA.size)
  clear h2 h3 ht ho hv TA s2 s3
  obtain ⟨av, cv, N, hvv, hN, _⟩ := OB.named O0.out
  subst hvv
  obtain ⟨BR, hBR⟩ : ∃ BR : ByteArray, BR = ⟨#[123, 125]⟩ := ⟨_, rfl⟩
  have ix0 : ∀ w, (Instr.index 9 (.string BR) (.int .i64 0)).run Tryd.prog w = .ok (.int .u8 123) w := fun w => by rw [hBR]; rfl
  have ix1 : ∀ w, (Instr.index 9 (.string BR) (.int .i64 1)).run Tryd.prog w = .ok (.int .u8 125) w := fun w => by rw [hBR]; rfl
  rw [← hBR]
  clear hBR
  have hn3 : n3 ≤ 60 := by omega
  rw [hN] at hl
  have HN := hid hN
  clear hN hlen3
  go_enter Tryd.func35, Tryd.ntmps35
  go_upto_region 1 with fail
  generalize w.alloc (.cells #[.int .i64 6, .string ⟨#[]⟩, .slice a2 n2 c2, .slice a3 n3 c3] 26) = w1 at *
  generalize w.heap.size = q at *
  have OW1 := hid (show w1.ownsRow 0 5 1 (.slice av N cv) N (bv l) from by have := O0.out; unfold OB at this; rw [HN.out] at this; exact this)
  go_wp2_with (at_builtin; (refine wpList_append_own_at _ rfl _ _ 53 rfl 0 5 i0 (.int .u8 0) 1 1 Tryd.underlying53 hi5 hz0 hz1 hz2 rfl (by decide) _ _ _ rfl (OW1.out.alloc _) ⟨w1.heap.size, 0, none⟩ 1 1 [.int .u8 123] rfl rfl (row_new w1 [.int .u8 123] 5) (by intro u hu; simp at hu; subst hu; rfl) (by unfold maxLen; omega) (by omega) (Nat.zero_le _) ?_))
  intro v1 w2 hown hgrow _ hat
  have G1 := hid (grew_of (m := [123]) (l := l) (by rw [HN.out]; exact hown) hgrow hat)
  have S1 := hid (S0.out.grew O0.out G1.out HV.out)
  have V1 := hid (two_le G1.out HV.out HW2.out)
  clear hown hgrow hat OW1 S0
  obtain ⟨⟨_, _, _, z3⟩, _⟩ := cells4 S1.out.obj
  go_wp2_with fail
  clear z3
  have GS := hid (show Grew w2 w2 v1 v1 ((l ++ [123]) ++ jnF ks ts 0) from by
    have := Grew.refl G1.out.own
    simpa [jnF] using this)
  go_loopg [1, 17] n3 (fun gk v0 v17 wq => ∃ (k : Nat) (av : Option Addr) (N cv : Nat), v0 = .slice av N cv ∧ k + gk = n3 ∧ v17 = .int .i64 (k : Nat) ∧ N ≤ 1001 + 50000 * k ∧ Hid (((l ++ [123]) ++ jnF ks ts k).length = N) ∧ Hid (Grew w2 wq v1 (.slice av N cv) ((l ++ [123]) ++ jnF ks ts k)) ∧ Hid (SK wq q (.slice a2 n2 c2) (.slice a3 n3 c3) ks ts) ∧ Hid (∀ k, (Value.slice av N cv).ownBlock = some k → 2 ≤ k))
  case atStart =>
    obtain ⟨a1, c1, N1, hv1, hN1, _⟩ := OB.named G1.out.own
    subst hv1
    have HL1 := HN.out
    refine ⟨0, a1, N1, c1, rfl, by omega, rfl, by rw [List.length_append, List.length_singleton] at hN1; omega, hid ?_, GS, S1, V1⟩
    unfold jnF
    simpa using hN1
  case round =>
    obtain ⟨k, ak, Nk, ck, rfl, hkk, rfl, hNk, HNk, GK, SS, VK⟩ := hrel
    clear GS S1 V1
    by_cases hlt : k < n3
    · have hltI : (k : Int) < (n3 : Int) := by omega
      obtain ⟨g3, hg3, e0, e1, e2, e3⟩ := SS.out.kids.at k (by have := HN3.out; omega)
      subst hg3
      obtain ⟨TK, hTK⟩ : ∃ TK, TK = ts.getD k ⟨#[]⟩ := ⟨_, rfl⟩
      obtain ⟨KY, hKY⟩ : ∃ KY, KY = ks.getD k ⟨#[]⟩ := ⟨_, rfl⟩
      rw [← hTK] at e1
      have hTKs : TK.size ≤ 4000 := by rw [hTK]; exact G3.out k
      have hKYs : KY.size ≤ 4000 := by rw [hKY]; exact G2.out k
      have HTK := hid hTK
      have HKY := hid hKY
      clear hTK hKY
      go_upto_region 5 with fail
      have TA := (Touch.refl (fun _ => False) wr).alloc (.cells #[.int .i64 4, .string TK, .slice none 0 0, .slice none 0 0] 26)
      have S3 := hid (SS.out.new TA)
      have R3 := hid (jfour_new (w := wr) (.int .i64 4) (.string TK) (.slice none 0 0) (.slice none 0 0) 26)
      have O3 := hid (GK.out.own.kept TA (fun _ _ e => e))
      have T3 := hid TA
      have HS3 := hid S3.out.tabs.two
      obtain ⟨L, hL⟩ : ∃ L, L = (l ++ [123]) ++ jnF ks ts k := ⟨_, rfl⟩
      have HLL := hid hL
      rw [← hL] at HNk GK O3
      clear TA e0 e1 e2 e3 hL SS
      generalize wr.alloc (.cells #[.int .i64 4, .string TK, .slice none 0 0, .slice none 0 0] 26) = w3 at *
      generalize wr.heap.size = r3 at *
      by_cases hk0 : k = 0
      · have hkI : ¬ (0 : Int) < (k : Int) := by omega
        have HK0 := hid hk0
        clear hk0
        have G4 := hid (show Grew w3 w3 (.slice ak Nk ck) (.slice ak Nk ck) (L ++ []) from by simpa using Grew.refl O3.out)
        have hN4 : (L ++ ([] : Bs)).length = Nk := by rw [List.append_nil, HNk.out]
        have S4 := hid (S3.out.grew O3.out G4.out VK.out)
        have V4 := hid (two_le G4.out VK.out HS3.out)
        have R4 := hid (other_kept O3.out G4.out R3.out (by decide))
        have HL4 := hid hN4
        have hN4b : Nk ≤ 1002 + 50000 * k := by
          have := HNk.out
          rw [List.length_append] at hN4
          simp only [List.length_nil] at hN4
          omega
        clear hN4
        obtain ⟨⟨q0, q1, q2, q3⟩, _⟩ := cells4 S4.out.obj
        have KK := hid (key_any 6 ⟨#[]⟩ a2 (some ⟨g3, 0, none⟩) n2 c2 n3 c3 ks k w3 S4.out.keys (by have := HN3.out; omega))
        rw [← HKY.out] at KK
        go_wp2_with fail
        refine KK.out.mono ?_
        rintro e w5 ⟨rfl, t5⟩
        have T5 := hid t5
        have S5 := hid (S4.out.new t5)
        have O5 := hid (G4.out.own.kept t5 (fun _ _ e => e))
        have R5 := hid ((t5.block r3 (lt_of_block R4.out) id).trans R4.out)
        clear t5 KK q0 q1 q2 q3
        have KQ := hid (quote_any KY (L ++ []) (.slice ak Nk ck) w5 S5.out.tabs O5.out (by omega) (by rw [HL4.out]; omega))
        go_wp2_with fail
        refine KQ.out.mono ?_
        rintro e w6 ⟨v6, rfl, g6⟩
        have G6 := hid g6
        obtain ⟨M6, hM6⟩ : ∃ M6, M6 = L ++ [] ++ quB KY := ⟨_, rfl⟩
        rw [← hM6] at G6
        have HM6 := hid hM6
        have hM6l : M6.length = (L ++ []).length + (quB KY).length := by rw [hM6, List.length_append]
        clear hM6
        have S6 := hid (S5.out.grew O5.out g6 V4.out)
        have V6 := hid (two_le g6 V4.out S5.out.tabs.two)
        have R6 := hid (other_kept O5.out g6 R5.out (by decide))
        clear g6 KQ
        obtain ⟨a6, c6, N6, hv6, hN6, hO6⟩ := OB.named G6.out.own
        subst hv6
        have OW6 := hid hO6
        have HL6 := hid hN6
        have hN6b : N6 ≤ 26000 + 50000 * k := by
          have := HL4.out
          have := quB_len KY
          omega
        clear hN6 hO6
        go_wp2_with (at_builtin; (refine wpList_append_own_at _ rfl _ _ 53 rfl 0 5 i0 (.int .u8 0) 1 1 Tryd.underlying53 hi5 hz0 hz1 hz2 rfl (by decide) _ _ _ rfl (OW6.out.alloc _) ⟨w6.heap.size, 0, none⟩ 1 1 [.int .u8 58] rfl rfl (row_new w6 [.int .u8 58] 5) (by intro u hu; simp at hu; subst hu; rfl) (by unfold maxLen; omega) (by omega) (Nat.zero_le _) ?_))
        intro v7 w7 hown hgrow _ hat
        have G7 := hid (grew_of (m := [58]) (l := M6) (by rw [HL6.out]; exact hown) hgrow hat)
        clear hown hgrow hat OW6
        obtain ⟨a7, c7, N7, hv7, hN7, _⟩ := OB.named G7.out.own
        subst hv7
        have S7 := hid (S6.out.grew G6.out.own G7.out V6.out)
        have V7 := hid (two_le G7.out V6.out S6.out.tabs.two)
        have R7 := hid (other_kept G6.out.own G7.out R6.out (by decide))
        have HL7 := hid hN7
        have hN7b : N7 ≤ 26001 + 50000 * k := by
          have := HL6.out
          rw [List.length_append, List.length_singleton] at hN7
          omega
        clear hN7
        obtain ⟨⟨r0, r1, r2, r4⟩, _⟩ := cells4 R7.out
        have KS := hid (show_text TK _ (.slice a7 N7 c7) w7 S7.out.tabs G7.out.own (by omega) (by rw [HL7.out]; omega))
        go_wp2_with fail
        refine KS.out.mono ?_
        rintro e w8 ⟨v8, rfl, g8⟩
        have S8 := hid (S7.out.grew G7.out.own g8 V7.out)
        have V8 := hid (two_le g8 V7.out S7.out.tabs.two)
        have GA := hid ((G4.out.trans (Grew.from T5.out G6.out)).trans (G7.out.trans g8))
        have GB := hid (GK.out.trans (Grew.from T3.out GA.out))
        clear KS g8 r0 r1 r2 r4
        have hfin : M6 ++ [58] ++ quB TK = (l ++ [123]) ++ jnF ks ts (k + 1) := by
          rw [HM6.out, jn_more, ← List.append_assoc, HLL.out]
          unfold pcF
          rw [← HTK.out, ← HKY.out]
          rw [if_pos HK0.out]
          simp only [List.append_assoc, List.nil_append]
        rw [hfin] at GB
        obtain ⟨a8, c8, N8, hv8, hN8, _⟩ := OB.named GB.out.own
        subst hv8
        have HL8 := hid hN8
        have hN8b : N8 ≤ 1001 + 50000 * (k + 1) := by
          have := JL.out (k + 1)
          have := HN.out
          rw [List.length_append, List.length_append, List.length_singleton] at hN8
          omega
        clear hN8 hfin
        go_wp2
        go_roundg (gk - 1)
        case measure => omega
        case rel => exact ⟨k + 1, a8, N8, c8, rfl, by omega, by go_num, hN8b, HL8, GB, S8, V8⟩

      · have hkI : (0 : Int) < (k : Int) := by omega
        have HK0 := hid hk0
        clear hk0
        have OW3 := hid (show w3.ownsRow 0 5 1 (.slice ak Nk ck) Nk (bv L) from by have := O3.out; unfold OB at this; rw [HNk.out] at this; exact this)
        go_wp2_with (at_builtin; (refine wpList_append_own_at _ rfl _ _ 53 rfl 0 5 i0 (.int .u8 0) 1 1 Tryd.underlying53 hi5 hz0 hz1 hz2 rfl (by decide) _ _ _ rfl (OW3.out.alloc _) ⟨w3.heap.size, 0, none⟩ 1 1 [.int .u8 44] rfl rfl (row_new w3 [.int .u8 44] 5) (by intro u hu; simp at hu; subst hu; rfl) (by unfold maxLen; omega) (by omega) (Nat.zero_le _) ?_))
        intro v4 w4 hown hgrow _ hat
        have G4 := hid (grew_of (m := [44]) (l := L) (by rw [HNk.out]; exact hown) hgrow hat)
        clear hown hgrow hat OW3
        obtain ⟨a4, c4, N4, hv4, hN4, _⟩ := OB.named G4.out.own
        subst hv4
        have S4 := hid (S3.out.grew O3.out G4.out VK.out)
        have V4 := hid (two_le G4.out VK.out HS3.out)
        have R4 := hid (other_kept O3.out G4.out R3.out (by decide))
        have HL4 := hid hN4
        have hN4b : N4 ≤ 1002 + 50000 * k := by
          have := HNk.out
          rw [List.length_append] at hN4
          simp only [List.length_singleton] at hN4
          omega
        clear hN4
        obtain ⟨⟨q0, q1, q2, q3⟩, _⟩ := cells4 S4.out.obj
        have KK := hid (key_any 6 ⟨#[]⟩ a2 (some ⟨g3, 0, none⟩) n2 c2 n3 c3 ks k w4 S4.out.keys (by have := HN3.out; omega))
        rw [← HKY.out] at KK
        go_wp2_with fail
        refine KK.out.mono ?_
        rintro e w5 ⟨rfl, t5⟩
        have T5 := hid t5
        have S5 := hid (S4.out.new t5)
        have O5 := hid (G4.out.own.kept t5 (fun _ _ e => e))
        have R5 := hid ((t5.block r3 (lt_of_block R4.out) id).trans R4.out)
        clear t5 KK q0 q1 q2 q3
        have KQ := hid (quote_any KY (L ++ [44]) (.slice a4 N4 c4) w5 S5.out.tabs O5.out (by omega) (by rw [HL4.out]; omega))
        go_wp2_with fail
        refine KQ.out.mono ?_
        rintro e w6 ⟨v6, rfl, g6⟩
        have G6 := hid g6
        obtain ⟨M6, hM6⟩ : ∃ M6, M6 = L ++ [44] ++ quB KY := ⟨_, rfl⟩
        rw [← hM6] at G6
        have HM6 := hid hM6
        have hM6l : M6.length = (L ++ [44]).length + (quB KY).length := by rw [hM6, List.length_append]
        clear hM6
        have S6 := hid (S5.out.grew O5.out g6 V4.out)
        have V6 := hid (two_le g6 V4.out S5.out.tabs.two)
        have R6 := hid (other_kept O5.out g6 R5.out (by decide))
        clear g6 KQ
        obtain ⟨a6, c6, N6, hv6, hN6, hO6⟩ := OB.named G6.out.own
        subst hv6
        have OW6 := hid hO6
        have HL6 := hid hN6
        have hN6b : N6 ≤ 26000 + 50000 * k := by
          have := HL4.out
          have := quB_len KY
          omega
        clear hN6 hO6
        go_wp2_with (at_builtin; (refine wpList_append_own_at _ rfl _ _ 53 rfl 0 5 i0 (.int .u8 0) 1 1 Tryd.underlying53 hi5 hz0 hz1 hz2 rfl (by decide) _ _ _ rfl (OW6.out.alloc _) ⟨w6.heap.size, 0, none⟩ 1 1 [.int .u8 58] rfl rfl (row_new w6 [.int .u8 58] 5) (by intro u hu; simp at hu; subst hu; rfl) (by unfold maxLen; omega) (by omega) (Nat.zero_le _) ?_))
        intro v7 w7 hown hgrow _ hat
        have G7 := hid (grew_of (m := [58]) (l := M6) (by rw [HL6.out]; exact hown) hgrow hat)
        clear hown hgrow hat OW6
        obtain ⟨a7, c7, N7, hv7, hN7, _⟩ := OB.named G7.out.own
        subst hv7
        have S7 := hid (S6.out.grew G6.out.own G7.out V6.out)
        have V7 := hid (two_le G7.out V6.out S6.out.tabs.two)
        have R7 := hid (other_kept G6.out.own G7.out R6.out (by decide))
        have HL7 := hid hN7
        have hN7b : N7 ≤ 26001 + 50000 * k := by
          have := HL6.out
          rw [List.length_append, List.length_singleton] at hN7
          omega
        clear hN7
        obtain ⟨⟨r0, r1, r2, r4⟩, _⟩ := cells4 R7.out
        have KS := hid (show_text TK _ (.slice a7 N7 c7) w7 S7.out.tabs G7.out.own (by omega) (by rw [HL7.out]; omega))
        go_wp2_with fail
        refine KS.out.mono ?_
        rintro e w8 ⟨v8, rfl, g8⟩
        have S8 := hid (S7.out.grew G7.out.own g8 V7.out)
        have V8 := hid (two_le g8 V7.out S7.out.tabs.two)
        have GA := hid ((G4.out.trans (Grew.from T5.out G6.out)).trans (G7.out.trans g8))
        have GB := hid (GK.out.trans (Grew.from T3.out GA.out))
        clear KS g8 r0 r1 r2 r4
        have hfin : M6 ++ [58] ++ quB TK = (l ++ [123]) ++ jnF ks ts (k + 1) := by
          rw [HM6.out, jn_more, ← List.append_assoc, HLL.out]
          unfold pcF
          rw [← HTK.out, ← HKY.out]
          rw [if_neg HK0.out]
          simp only [List.append_assoc]
        rw [hfin] at GB
        obtain ⟨a8, c8, N8, hv8, hN8, _⟩ := OB.named GB.out.own
        subst hv8
        have HL8 := hid hN8
        have hN8b : N8 ≤ 1001 + 50000 * (k + 1) := by
          have := JL.out (k + 1)
          have := HN.out
          rw [List.length_append, List.length_append, List.length_singleton] at hN8
          omega
        clear hN8 hfin
        go_wp2
        go_roundg (gk - 1)
        case measure => omega
        case rel => exact ⟨k + 1, a8, N8, c8, rfl, by omega, by go_num, hN8b, HL8, GB, S8, V8⟩

    · have hltI : ¬ (k : Int) < (n3 : Int) := by omega
      obtain rfl : k = n3 := by omega
      obtain ⟨L, hL⟩ : ∃ L, L = (l ++ [123]) ++ jnF ks ts k := ⟨_, rfl⟩
      have HLL := hid hL
      rw [← hL] at HNk GK
      clear hL
      have OWF := hid (show wr.ownsRow 0 5 1 (.slice ak Nk ck) Nk (bv L) from by have := GK.out.own; unfold OB at this; rw [HNk.out] at this; exact this)
      go_wp2_with (at_builtin; (refine wpList_append_own_at _ rfl _ _ 53 rfl 0 5 i0 (.int .u8 0) 1 1 Tryd.underlying53 hi5 hz0 hz1 hz2 rfl (by decide) _ _ _ rfl (OWF.out.alloc _) ⟨wr.heap.size, 0, none⟩ 1 1 [.int .u8 125] rfl rfl (row_new wr [.int .u8 125] 5) (by intro u hu; simp at hu; subst hu; rfl) (by unfold maxLen; omega) (by omega) (Nat.zero_le _) ?_))
      intro v9 w9 hown hgrow _ hat
      have G9 := hid (grew_of (m := [125]) (l := L) (by rw [HNk.out]; exact hown) hgrow hat)
      clear hown hgrow hat OWF
      go_wp2
      go_ret
      refine ⟨v9, rfl, ?_⟩
      have := Grew.from T0.out ((G1.out.trans GK.out).trans G9.out)
      rw [HLL.out] at this
      unfold objB
      rw [← HN3.out]
      simpa using this
end Go.Proofs.YtabhlhgfacpohaaDoor

/- Show of an object of texts, whole, and clean; conditions: the two tables lie there, and what is told of lengths. -/
namespace Go.Proofs.YtabhlhgfacpohaaDoor
open Go.RowKit
open Go.Lib

set_option maxRecDepth 100000 in
set_option maxHeartbeats 4000000 in
theorem show_obj (a2 a3 : Option Addr) (n2 c2 n3 c3 : Nat) (ks ts : List ByteArray) (w : World) (h2 : SL w (.slice a2 n2 c2) ks) (h3 : VL w (.slice a3 n3 c3) ts) (ht : Tabs w) (hn : ts.length ≤ 60) (hk : ks.length = ts.length)
    (s2 : ∀ x ∈ ks, x.size ≤ 4000) (s3 : ∀ x ∈ ts, x.size ≤ 4000) :
    Calls Tryd.prog 20 #[.agg #[.int .i64 6, .string ⟨#[]⟩, .slice a2 n2 c2, .slice a3 n3 c3], .slice none 0 0] w fun e w' => ∃ v', e = .returned v' ∧ Grew w w' (.slice none 0 0) v' (objB ks ts) := by
  have TA := hid ((Touch.refl (fun _ => False) w).alloc (.cells #[.int .i64 6, .string ⟨#[]⟩, .slice a2 n2 c2, .slice a3 n3 c3] 26))
  have K := hid (showKids_obj a2 a3 n2 c2 n3 c3 ks ts [] (.slice none 0 0) (w.alloc (.cells #[.int .i64 6, .string ⟨#[]⟩, .slice a2 n2 c2, .slice a3 n3 c3] 26)) (rowKept h2 TA.out (fun _ _ e => e)) (rowKept h3 TA.out (fun _ _ e => e)) (ht.new TA.out) (OB.nil _) (fun k e => by cases e) (by decide) hn hk s2 s3)
  rw [List.nil_append] at K
  clear h2 h3 ht s2 s3
  go_enter Tryd.func20, Tryd.ntmps20
  go_wp2_with fail
  refine K.out.mono ?_
  rintro e w1 ⟨v', rfl, g⟩
  have G := hid (Grew.from TA.out g)
  clear g K TA
  go_wp2
  go_ret
  exact ⟨v', rfl, G.out⟩
set_option maxRecDepth 100000 in
set_option maxHeartbeats 4000000 in
theorem Show_obj (a2 a3 : Option Addr) (n2 c2 n3 c3 : Nat) (ks ts : List ByteArray) (w : World) (h2 : SL w (.slice a2 n2 c2) ks) (h3 : VL w (.slice a3 n3 c3) ts) (ht : Tabs w) (hn : ts.length ≤ 60) (hk : ks.length = ts.length)
    (s2 : ∀ x ∈ ks, x.size ≤ 4000) (s3 : ∀ x ∈ ts, x.size ≤ 4000) :
    Calls Tryd.prog 10 #[.agg #[.int .i64 6, .string ⟨#[]⟩, .slice a2 n2 c2, .slice a3 n3 c3]] w fun e w' => e = .returned (.string ⟨(objB ks ts).toArray⟩) ∧ Touch (fun _ => False) w w' := by
  have TA := hid ((Touch.refl (fun _ => False) w).alloc (.cells #[.int .i64 6, .string ⟨#[]⟩, .slice a2 n2 c2, .slice a3 n3 c3] 26))
  have K := hid (show_obj a2 a3 n2 c2 n3 c3 ks ts (w.alloc (.cells #[.int .i64 6, .string ⟨#[]⟩, .slice a2 n2 c2, .slice a3 n3 c3] 26)) (rowKept h2 TA.out (fun _ _ e => e)) (rowKept h3 TA.out (fun _ _ e => e)) (ht.new TA.out) hn hk s2 s3)
  clear h2 h3 ht s2 s3
  go_enter Tryd.func10, Tryd.ntmps10
  go_wp2_with fail
  refine K.out.mono ?_
  rintro e w1 ⟨v', rfl, g⟩
  have hconv := g.own.conv
  have G := hid (TA.out.trans (g.touch.mono (S' := fun _ => False) (fun k _ e => by cases e)) (fun _ _ e => e))
  clear g K TA
  go_wp2
  go_ret
  exact ⟨rfl, G.out⟩
/-- A text, with what stands for what is bad. -/
def clS (s : ByteArray) : ByteArray := ⟨(UB (scs s)).toArray⟩
set_option maxRecDepth 100000 in
set_option maxHeartbeats 8000000 in
theorem clean_any (s : ByteArray) (w : World) (ht : Tabs w) (hs : s.size ≤ 1048576) :
    Calls Tryd.prog 16 #[.string s] w fun e w' => e = .returned (.string (clS s)) ∧ Touch (fun _ => False) w w' := by
  have HSC := hid (scs_sc s)
  have KD := hid (decX_any s (by omega) w ht)
  have hR := scs_len s
  have KE := hid (fun (a : Option Addr) (c : Nat) (w' : World) (ht' : Tabs w') (hl : ints (scs s) = [] ∨ Ig1 w' a (ints (scs s))) => by
    have := encode_1o a c (ints (scs s)) false w' ht' hl (by unfold ints; rw [List.length_map]; omega)
    rw [enc_quot (scs s) HSC.out] at this
    exact this)
  have HI := hid (show (ints (scs s)).length = (scs s).length from by unfold ints; rw [List.length_map])
  have HT := hid ht
  have HU := hid (show (⟨(UB (scs s)).toArray⟩ : ByteArray) = clS s from rfl)
  clear ht
  rw [HU.out] at KE
  generalize clS s = U at *
  unfold xs at KD
  obtain ⟨R, hRR⟩ : ∃ R, (scs s).length = R := ⟨_, rfl⟩
  rw [HI.out] at KE
  rw [hRR] at KD hR KE HI
  have HR := hid hRR
  clear hRR HU
  go_enter Tryd.func16, Tryd.ntmps16
  go_wp2_with fail
  refine KD.out.mono ?_
  rintro e w4 ⟨g, c, a2, n2, c2, bad, rfl, t4, hg1, hg2, hc, hcell⟩
  have T4 := hid t4
  have H4 := hid (HT.out.new t4)
  have HG := hid hg2
  have HC := hid hcell
  clear t4 KD hg1 hg2 hcell HT
  go_upto_region 2 with fail
  have TA := (Touch.refl (fun _ => False) w4).alloc (.cells #[.int .i64 1, .slice (some ⟨g, 0, none⟩) (R + 1) c, .slice a2 n2 c2, .int .i64 (bad : Nat)] 37) |>.alloc (.cells #[.int .i64 0, .int .i64 0] 29)
  have BX := hid ((((Touch.refl (fun _ => False) (w4.alloc (.cells #[.int .i64 1, .slice (some ⟨g, 0, none⟩) (R + 1) c, .slice a2 n2 c2, .int .i64 (bad : Nat)] 37))).alloc (.cells #[.int .i64 0, .int .i64 0] 29)).block w4.heap.size (by rw [size_alloc1]; omega) id).trans (jfour_new (w := w4) (.int .i64 1) (.slice (some ⟨g, 0, none⟩) (R + 1) c) (.slice a2 n2 c2) (.int .i64 (bad : Nat)) 37))
  have T5 := hid (T4.out.trans TA (fun _ _ e => e))
  have H5 := hid (H4.out.new TA)
  have C5 := hid (fun i x (h : (scs s)[i]? = some x) => (TA.cell (p := ⟨g, i + 1, none⟩) HG.out id).trans (HC.out i x h))
  have HG5 := hid (Nat.lt_of_lt_of_le HG.out TA.size)
  clear TA T4 H4 HC HG
  generalize (w4.alloc (.cells #[.int .i64 1, .slice (some ⟨g, 0, none⟩) (R + 1) c, .slice a2 n2 c2, .int .i64 (bad : Nat)] 37)).alloc (.cells #[.int .i64 0, .int .i64 0] 29) = w5 at *
  generalize w4.heap.size = q at *
  obtain ⟨⟨_, z1, _, _⟩, _⟩ := cells4 BX.out
  have hR1 : ¬ ((R : Int) + 1 < 1) := by omega
  have hcI : ((R : Int) + 1) ≤ (c : Int) := by omega
  have IG := hid (show Ig1 w5 (some ⟨g, 1, none⟩) (ints (scs s)) from by
    refine ⟨g, rfl, HG5.out, fun i hi => ?_⟩
    unfold ints at hi ⊢
    rw [List.length_map] at hi
    rw [List.getElem_map, Nat.add_comm]
    exact C5.out i _ (List.getElem?_eq_getElem hi))
  go_wp2_with fail
  case inl h =>
    have KE5 := hid (fun a cc => KE.out a cc w5 H5.out (.inl (List.eq_nil_of_length_eq_zero (by rw [HI.out]; omega))))
    refine (KE5.out _ _).mono ?_
    rintro e w6 ⟨rfl, t6⟩
    have T6 := hid (T5.out.trans t6 (fun _ _ e => e))
    have H6 := hid (H5.out.new t6)
    clear t6 KE5 KE T5 H5 BX IG C5 z1
    go_wp2
    go_ret
    exact ⟨rfl, T6.out⟩
  case inr h =>
    have KE5 := hid (fun cc => KE.out (some ⟨g, 1, none⟩) cc w5 H5.out (.inr IG.out))
    refine (KE5.out _).mono ?_
    rintro e w6 ⟨rfl, t6⟩
    have T6 := hid (T5.out.trans t6 (fun _ _ e => e))
    have H6 := hid (H5.out.new t6)
    clear t6 KE5 KE T5 H5 BX IG C5 z1
    go_wp2
    go_ret
    exact ⟨rfl, T6.out⟩
end Go.Proofs.YtabhlhgfacpohaaDoor

/- A text in quotes is read wherever it stands: plain; no condition. -/
namespace Go.Proofs.YtabhlhgfacpohaaDoor
open Go.RowKit
open Go.Lib

theorem run_endsR (R : Bs) (s : ByteArray) (t : Nat) (L : List Nat) (hs : ∀ x ∈ L, isSc x) (hl : ∀ x, L.head? = some x → lowB x = false) (h : At s t (L.flatMap qo ++ 34 :: R)) : isU s t = false := by
  unfold isU
  cases L with
  | nil =>
    rw [(at_lk h).1]
    rfl
  | cons x L =>
    have hx := hl x rfl
    rw [List.flatMap_cons, List.append_assoc] at h
    cases he : escB x with
    | some c =>
      obtain ⟨c1, _, _⟩ := esc_facts he
      rw [show qo x = [92, c] from by unfold qo; rw [he]] at h
      obtain ⟨_, h⟩ := at_lk h
      obtain ⟨l1, _⟩ := at_lk h
      rw [l1]
      have : ¬ ((c.toNat : Int) = 117) := by
        intro e
        apply c1
        apply UInt8.toNat_inj.1
        show c.toNat = 117
        omega
      rw [decide_eq_false this, Bool.and_false]
    | none =>
      have h32 : ¬ x < 32 := by
        intro e
        have := (low_iff x).2 ⟨e, he⟩
        rw [this] at hx
        cases hx
      rw [show qo x = ub x from by unfold qo; rw [he]; simp only; rw [if_neg h32]] at h
      have hr := raw_ub (hs x (by simp)) h32 he
      obtain ⟨c, m, hc⟩ := ub_pos x
      rw [hc] at h hr
      have := hr c (by simp)
      rw [(at_lk h).1, decide_eq_false (by omega)]
      rfl
theorem qd_allR (R : Bs) (s : ByteArray) : ∀ (n : Nat) (L : List Nat), L.length ≤ n → (∀ x ∈ L, isSc x) → ∀ (k t : Nat) (out : Bs), At s t (L.flatMap qo ++ 34 :: R) → (L.flatMap qo).length < k → qdF s k t out = .ok (out ++ UB L, t + (L.flatMap qo).length + 1)
  | n, [], _, _, k, t, out, ha, hk => by
    obtain ⟨k, rfl⟩ : ∃ j, k = j + 1 := ⟨k - 1, by omega⟩
    rw [qdF, (at_lk ha).1, if_pos (by decide)]
    simp [UB]
  | 0, x :: L, hn, _, _, _, _, _, _ => by
    rw [List.length_cons] at hn
    omega
  | n + 1, x :: L, hn, hs, k, t, out, ha, hk => by
    rw [List.length_cons] at hn
    have hsL : ∀ y ∈ L, isSc y := fun y hy => hs y (by simp [hy])
    have ha0 := ha
    rw [List.flatMap_cons, List.append_assoc] at ha
    have hk0 := hk
    rw [List.flatMap_cons, List.length_append] at hk
    cases he : escB x with
    | some c =>
      obtain ⟨c1, c2, c3⟩ := esc_facts he
      have hq : qo x = [92, c] := by unfold qo; rw [he]
      rw [hq] at ha hk
      obtain ⟨l0, ha⟩ := at_lk ha
      obtain ⟨l1, ha⟩ := at_lk ha
      simp only [List.length_cons, List.length_nil] at hk
      obtain ⟨k, rfl⟩ : ∃ j, k = j + 1 := ⟨k - 1, by omega⟩
      have hU : isU s t = false := by
        unfold isU
        rw [l1]
        have : ¬ ((c.toNat : Int) = 117) := by
          intro e
          apply c1
          apply UInt8.toNat_inj.1
          show c.toNat = 117
          omega
        rw [decide_eq_false this, Bool.and_false]
      have hE : escE s t = .ok ([x.toUInt8], t + 2) := by
        unfold escE
        rw [if_neg (by rw [hU]; decide), l1, c2]
      rw [qdF, l0, if_neg (by decide), if_neg (by decide), if_pos (by decide), hE]
      simp only
      rw [show t + 2 = t + 1 + 1 by omega, qd_allR R s n L (by omega) hsL k (t + 1 + 1) _ ha (by omega)]
      rw [List.flatMap_cons, hq]
      unfold UB
      rw [List.flatMap_cons, c3, List.append_assoc]
      congr 2
      simp only [List.length_append, List.length_cons, List.length_nil]
      omega
    | none =>
      by_cases h32 : x < 32
      · have hE0 : L = L.takeWhile lowB ++ L.dropWhile lowB := (List.takeWhile_append_dropWhile).symm
        obtain ⟨run, hrun⟩ : ∃ run, run = x :: L.takeWhile lowB := ⟨_, rfl⟩
        obtain ⟨rest, hrest⟩ : ∃ rest, rest = L.dropWhile lowB := ⟨_, rfl⟩
        have hxl : x :: L = run ++ rest := by rw [hrun, hrest, List.cons_append, ← hE0]
        have hlow : ∀ y ∈ run, y < 32 ∧ escB y = none := by
          intro y hy
          rw [hrun] at hy
          rcases List.mem_cons.1 hy with e | e
          · rw [e]; exact ⟨h32, he⟩
          · exact (low_iff y).1 (List.all_eq_true.1 (List.all_takeWhile) y e)
        have hsr : ∀ y ∈ rest, isSc y := fun y hy => hs y (by rw [hxl]; simp [hy])
        have hlr : rest.length ≤ n := by
          have := congrArg List.length hxl
          rw [List.length_append, List.length_cons] at this
          have : 0 < run.length := by rw [hrun]; simp
          omega
        rw [hxl, List.flatMap_append, List.append_assoc] at ha0
        have ha1 := at_app ha0
        rw [qo_low_len run hlow] at ha1
        have hU := run_endsR R s _ rest hsr (fun y hy => head_drop L y (by rw [← hrest]; exact hy)) ha1
        have hne : run.flatMap qo ++ (rest.flatMap qo ++ 34 :: R) ≠ [] := by simp
        have hsz := at_len ha0 hne
        rw [List.length_append, qo_low_len run hlow] at hsz
        have hF := us_run s run _ s.size t [] hlow ha0 hU (by omega)
        rw [List.nil_append] at hF
        obtain ⟨k, rfl⟩ : ∃ j, k = j + 1 := ⟨k - 1, by omega⟩
        have hq := qo_unit h32 he
        rw [hq] at ha
        obtain ⟨l0, ha⟩ := at_lk ha
        obtain ⟨l1, ha⟩ := at_lk ha
        have hU0 : isU s t = true := by
          unfold isU
          rw [l0, l1]
          rfl
        have hE : escE s t = .ok (UB run, t + 6 * run.length) := by
          unfold escE
          rw [if_pos hU0]
          unfold usE
          rw [hF]
          simp only
          rw [su_low run (fun y hy => by have := (hlow y hy).1; omega)]
          rfl
        rw [qdF, l0, if_neg (by decide), if_neg (by decide), if_pos (by decide), hE]
        simp only
        rw [hxl, List.flatMap_append, List.length_append, qo_low_len run hlow] at hk0
        have hr0 : 0 < run.length := by rw [hrun]; simp
        rw [qd_allR R s n rest hlr hsr k _ _ ha1 (by omega)]
        rw [hxl, List.flatMap_append, List.length_append, qo_low_len run hlow]
        unfold UB
        rw [List.flatMap_append, List.append_assoc]
        congr 2
        omega
      · have hq : qo x = ub x := by unfold qo; rw [he]; simp only; rw [if_neg h32]
        rw [hq] at ha hk
        obtain ⟨j, rfl⟩ : ∃ j, k = j + (ub x).length := ⟨k - (ub x).length, by omega⟩
        rw [qd_raw s (ub x) _ j t out (raw_ub (hs x (by simp)) h32 he) ha]
        rw [qd_allR R s n L (by omega) hsL j _ _ (at_app ha) (by omega)]
        rw [List.flatMap_cons, hq]
        unfold UB
        rw [List.flatMap_cons, List.append_assoc]
        congr 2
        rw [List.length_append]
        omega
/-- A text's scalars in quotes. -/
def quL (L : List Nat) : Bs := 34 :: (L.flatMap qo ++ [34])
theorem quot_at (s : ByteArray) (t : Nat) (L : List Nat) (R : Bs) (h : At s t (quL L ++ R)) (hs : ∀ x ∈ L, isSc x) : lk s t = 34 ∧ quotE s t = .ok (UB L, t + (quL L).length) ∧ At s (t + (quL L).length) R := by
  have h' : At s t (34 :: (L.flatMap qo ++ 34 :: R)) := by
    unfold quL at h
    simpa using h
  obtain ⟨l0, ha⟩ := at_lk h'
  have hlen : (quL L).length = (L.flatMap qo).length + 2 := by
    unfold quL
    simp
  have hz := at_len ha (by simp)
  refine ⟨l0, ?_, at_app h⟩
  unfold quotE
  rw [needE, if_pos l0, needE]
  simp only
  rw [qd_allR R s L.length L (Nat.le_refl _) hs _ _ [] ha (by simp only [List.length_append, List.length_cons] at hz; omega), List.nil_append, hlen]
  congr 2
  omega
/-- The scalars of a text that was made of scalars. -/
theorem scs_ub (L : List Nat) (h : ∀ x ∈ L, isSc x) : scs ⟨(UB L).toArray⟩ = L := by
  have hx : (xs ⟨(UB L).toArray⟩).data.toList = UB (120 :: L) := by
    rw [xs_list]
    unfold UB
    rw [List.flatMap_cons]
    simp [ub]
  have h' : ∀ x ∈ (120 :: L), isSc x := by
    intro x hx
    rcases List.mem_cons.1 hx with e | e
    · rw [e]; unfold isSc; omega
    · exact h x e
  obtain ⟨ps, hp⟩ := dec_ub _ (120 :: L) hx h' false
  have h2 := dc_sc (xs ⟨(UB L).toArray⟩) (xs ⟨(UB L).toArray⟩).size 0 [] [] 0
  rw [hp, List.nil_append, scF_x] at h2
  simp only at h2
  unfold ints at h2
  rw [List.map_cons] at h2
  have h3 := (List.cons.inj h2).2
  unfold scs
  rw [← h3, List.map_map]
  conv => rhs; rw [← List.map_id L]
  exact List.map_congr_left (fun x _ => by simp)
theorem quB_cl (s : ByteArray) : quB (clS s) = quL (scs s) := by
  unfold quB clS quL
  rw [scs_ub _ (scs_sc s)]
theorem quL_ub (L : List Nat) (h : ∀ x ∈ L, isSc x) : ∃ M, UB M = quL L ∧ ∀ x ∈ M, isSc x := by
  obtain ⟨h1, h2⟩ := flat_qsc L h
  refine ⟨34 :: (L.flatMap qsc ++ [34]), ?_, ?_⟩
  · unfold quL
    rw [← h1]
    unfold UB
    rw [List.flatMap_cons, List.flatMap_append]
    rfl
  · intro x hx
    simp only [List.mem_cons, List.mem_append, List.not_mem_nil, or_false] at hx
    rcases hx with rfl | hx | rfl
    · unfold isSc; omega
    · exact h2 x hx
    · unfold isSc; omega
end Go.Proofs.YtabhlhgfacpohaaDoor
