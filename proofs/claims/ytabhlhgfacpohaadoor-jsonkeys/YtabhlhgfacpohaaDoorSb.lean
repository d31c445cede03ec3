/- Show of an object of texts: the walks; conditions: the two tables lie there, and what is told of lengths. -/
import Derived.Test.YtabhlhgfacpohaaDoorSa
namespace Go.Proofs.YtabhlhgfacpohaaDoor
open Go.RowKit
open Go.Lib

/-- Bytes of the call's own, their number named. -/
theorem OB.named {w : World} {v : Value} {l : Bs} (h : OB w v l) : ∃ a c N, v = .slice a N c ∧ l.length = N ∧ w.ownsRow 0 5 1 (.slice a N c) N (bv l) := by
  obtain ⟨a, c, hv⟩ := own_shape h
  exact ⟨a, c, _, hv, rfl, by rw [← hv]; exact h⟩
/-- All that an object's Show reads. -/
structure SK (w : World) (q : Nat) (v2 v3 : Value) (ks ts : List ByteArray) : Prop where
  obj : w.heap[q]? = some (.cells #[.int .i64 6, .string ⟨#[]⟩, v2, v3] 26 (0, 0))
  keys : SL w v2 ks
  kids : VL w v3 ts
  tabs : Tabs w
theorem SK.new {w w' : World} {q : Nat} {v2 v3 : Value} {ks ts : List ByteArray} (h : SK w q v2 v3 ks ts) (tc : Touch (fun _ => False) w w') : SK w' q v2 v3 ks ts :=
  ⟨(tc.block q (lt_of_block h.obj) id).trans h.obj, rowKept h.keys tc (fun _ _ e => e), rowKept h.kids tc (fun _ _ e => e), h.tabs.new tc⟩
theorem tabs_other {w w' : World} {v v' : Value} {l' : Bs} (g : Grew w w' v v' l') (h : Tabs w) (h2 : ∀ k, v.ownBlock = some k → 2 ≤ k) : Tabs w' :=
  h.kept g.touch (fun e => by have := h2 0 e; omega) (fun e => by have := h2 1 e; omega)
theorem SK.grew {w w' : World} {q : Nat} {v2 v3 v v' : Value} {ks ts : List ByteArray} {l l' : Bs} (h : SK w q v2 v3 ks ts) (ho : OB w v l) (g : Grew w w' v v' l') (h2 : ∀ k, v.ownBlock = some k → 2 ≤ k) : SK w' q v2 v3 ks ts :=
  ⟨other_kept ho g h.obj (by decide), row_other ho g h.keys (by decide), row_other ho g h.kids (by decide), tabs_other g h.tabs h2⟩
theorem two_le {w w' : World} {v v' : Value} {l' : Bs} (g : Grew w w' v v' l') (h2 : ∀ k, v.ownBlock = some k → 2 ≤ k) (hw : 2 ≤ w.heap.size) : ∀ k, v'.ownBlock = some k → 2 ≤ k := by
  intro k e
  rcases g.pos with e2 | ⟨g2, e2, h3⟩
  · exact h2 k (by rw [← e2]; exact e)
  · rw [e2] at e
    cases e
    omega
set_option maxRecDepth 100000 in
set_option maxHeartbeats 8000000 in
theorem showKids_obj (a2 a3 : Option Addr) (n2 c2 n3 c3 : Nat) (ks ts : List ByteArray) (l : Bs) (v : Value) (w : World) (h2 : SL w (.slice a2 n2 c2) ks) (h3 : VL w (.slice a3 n3 c3) ts) (ht : Tabs w) (ho : OB w v l) (hv : ∀ k, v.ownBlock = some k → 2 ≤ k) (hl : l.length ≤ 1000) (hn : ts.length ≤ 60) (hk : ks.length = ts.length)
    (s2 : ∀ x ∈ ks, x.size ≤ 4000) (s3 : ∀ x ∈ ts, x.size ≤ 4000) :
    Calls Tryd.prog 35 #[.agg #[.int .i64 6, .string ⟨#[]⟩, .slice a2 n2 c2, .slice a3 n3 c3], v, .string ⟨#[123, 125]⟩] w fun e w' => ∃ v', e = .returned v' ∧ Grew w w' v v' (l ++ objB ks ts) := by
  obtain ⟨i0, hi5, hz0, hz1, hz2⟩ := info_parts info5b
  have hlen3 := h3.len
  have TA := (Touch.refl (fun _ => False) w).alloc (.cells #[.int .i64 6, .string ⟨#[]⟩, .slice a2 n2 c2, .slice a3 n3 c3] 26)
  have S0 := hid (show SK (w.alloc (.cells #[.int .i64 6, .string ⟨#[]⟩, .slice a2 n2 c2, .slice a3 n3 c3] 26)) w.heap.size (.slice a2 n2 c2) (.slice a3 n3 c3) ks ts from ⟨jfour_new _ _ _ _ _, rowKept h2 TA (fun _ _ e => e), rowKept h3 TA (fun _ _ e => e), ht.new TA⟩)
  have O0 := hid (ho.kept TA (fun _ _ e => e))
  have T0 := hid TA
  have HV := hid hv
  have JL := hid (fun k => jn_len s2 s3 k)
  have G2 := hid (fun i => getD_size s2 i)
  have G3 := hid (fun i => getD_size s3 i)
  have HN3 := hid hlen3
  have HW2 := hid (Nat.le_trans ht.two TA.size)
  clear h2 h3 ht ho hv TA s2 s3
  obtain ⟨av, cv, N, hvv, hN, _⟩ := OB.named O0.out
  subst hvv
  obtain ⟨BR, hBR⟩ : ∃ BR : ByteArray, BR = ⟨#[123, 125]⟩ := ⟨_, rfl⟩
  have ix0 : ∀ w, (Instr.index 9 (.string BR) (.int .i64 0)).run Tryd.prog w = .ok (.int .u8 123) w := fun w => by rw [hBR]; rfl
  have ix1 : ∀ w, (Instr.index 9 (.string BR) (.int .i64 1)).run Tryd.prog w = .ok (.int .u8 125) w := fun w => by rw [hBR]; rfl
  rw [← hBR]
  clear hBR
  have hn3 : n3 ≤ 60 := by omega
  rw [hN] at hl
  have HN := hid hN
  clear hN hlen3
  go_enter Tryd.func35, Tryd.ntmps35
  go_upto_region 1 with fail
  generalize w.alloc (.cells #[.int .i64 6, .string ⟨#[]⟩, .slice a2 n2 c2, .slice a3 n3 c3] 26) = w1 at *
  generalize w.heap.size = q at *
  have OW1 := hid (show w1.ownsRow 0 5 1 (.slice av N cv) N (bv l) from by have := O0.out; unfold OB at this; rw [HN.out] at this; exact this)
  go_wp2_with (at_builtin; (refine wpList_append_own_at _ rfl _ _ 53 rfl 0 5 i0 (.int .u8 0) 1 1 Tryd.underlying53 hi5 hz0 hz1 hz2 rfl (by decide) _ _ _ rfl (OW1.out.alloc _) ⟨w1.heap.size, 0, none⟩ 1 1 [.int .u8 123] rfl rfl (row_new w1 [.int .u8 123] 5) (by intro u hu; simp at hu; subst hu; rfl) (by unfold maxLen; omega) (by omega) (Nat.zero_le _) ?_))
  intro v1 w2 hown hgrow _ hat
  have G1 := hid (grew_of (m := [123]) (l := l) (by rw [HN.out]; exact hown) hgrow hat)
  have S1 := hid (S0.out.grew O0.out G1.out HV.out)
  have V1 := hid (two_le G1.out HV.out HW2.out)
  clear hown hgrow hat OW1 S0
  obtain ⟨⟨_, _, _, z3⟩, _⟩ := cells4 S1.out.obj
  go_wp2_with fail
  clear z3
  have GS := hid (show Grew w2 w2 v1 v1 ((l ++ [123]) ++ jnF ks ts 0) from by
    have := Grew.refl G1.out.own
    simpa [jnF] using this)
  go_loopg [1, 17] n3 (fun gk v0 v17 wq => ∃ (k : Nat) (av : Option Addr) (N cv : Nat), v0 = .slice av N cv ∧ k + gk = n3 ∧ v17 = .int .i64 (k : Nat) ∧ N ≤ 1001 + 50000 * k ∧ Hid (((l ++ [123]) ++ jnF ks ts k).length = N) ∧ Hid (Grew w2 wq v1 (.slice av N cv) ((l ++ [123]) ++ jnF ks ts k)) ∧ Hid (SK wq q (.slice a2 n2 c2) (.slice a3 n3 c3) ks ts) ∧ Hid (∀ k, (Value.slice av N cv).ownBlock = some k → 2 ≤ k))
  case atStart =>
    obtain ⟨a1, c1, N1, hv1, hN1, _⟩ := OB.named G1.out.own
    subst hv1
    have HL1 := HN.out
    refine ⟨0, a1, N1, c1, rfl, by omega, rfl, by rw [List.length_append, List.length_singleton] at hN1; omega, hid ?_, GS, S1, V1⟩
    unfold jnF
    simpa using hN1
  case round =>
    obtain ⟨k, ak, Nk, ck, rfl, hkk, rfl, hNk, HNk, GK, SS, VK⟩ := hrel
    clear GS S1 V1
    by_cases hlt : k < n3
    · have hltI : (k : Int) < (n3 : Int) := by omega
      obtain ⟨g3, hg3, e0, e1, e2, e3⟩ := SS.out.kids.at k (by have := HN3.out; omega)
      subst hg3
      obtain ⟨TK, hTK⟩ : ∃ TK, TK = ts.getD k ⟨#[]⟩ := ⟨_, rfl⟩
      obtain ⟨KY, hKY⟩ : ∃ KY, KY = ks.getD k ⟨#[]⟩ := ⟨_, rfl⟩
      rw [← hTK] at e1
      have hTKs : TK.size ≤ 4000 := by rw [hTK]; exact G3.out k
      have hKYs : KY.size ≤ 4000 := by rw [hKY]; exact G2.out k
      have HTK := hid hTK
      have HKY := hid hKY
      clear hTK hKY
      go_upto_region 5 with fail
      have TA := (Touch.refl (fun _ => False) wr).alloc (.cells #[.int .i64 4, .string TK, .slice none 0 0, .slice none 0 0] 26)
      have S3 := hid (SS.out.new TA)
      have R3 := hid (jfour_new (w := wr) (.int .i64 4) (.string TK) (.slice none 0 0) (.slice none 0 0) 26)
      have O3 := hid (GK.out.own.kept TA (fun _ _ e => e))
      have T3 := hid TA
      have HS3 := hid S3.out.tabs.two
      obtain ⟨L, hL⟩ : ∃ L, L = (l ++ [123]) ++ jnF ks ts k := ⟨_, rfl⟩
      have HLL := hid hL
      rw [← hL] at HNk GK O3
      clear TA e0 e1 e2 e3 hL SS
      generalize wr.alloc (.cells #[.int .i64 4, .string TK, .slice none 0 0, .slice none 0 0] 26) = w3 at *
      generalize wr.heap.size = r3 at *
      by_cases hk0 : k = 0
      · have hkI : ¬ (0 : Int) < (k : Int) := by omega
        have HK0 := hid hk0
        clear hk0
        have G4 := hid (show Grew w3 w3 (.slice ak Nk ck) (.slice ak Nk ck) (L ++ []) from by simpa using Grew.refl O3.out)
        have hN4 : (L ++ ([] : Bs)).length = Nk := by rw [List.append_nil, HNk.out]
        have S4 := hid (S3.out.grew O3.out G4.out VK.out)
        have V4 := hid (two_le G4.out VK.out HS3.out)
        have R4 := hid (other_kept O3.out G4.out R3.out (by decide))
        have HL4 := hid hN4
        have hN4b : Nk ≤ 1002 + 50000 * k := by
          have := HNk.out
          rw [List.length_append] at hN4
          simp only [List.length_nil] at hN4
          omega
        clear hN4
        obtain ⟨⟨q0, q1, q2, q3⟩, _⟩ := cells4 S4.out.obj
        have KK := hid (key_any 6 ⟨#[]⟩ a2 (some ⟨g3, 0, none⟩) n2 c2 n3 c3 ks k w3 S4.out.keys (by have := HN3.out; omega))
        rw [← HKY.out] at KK
        go_wp2_with fail
        refine KK.out.mono ?_
        rintro e w5 ⟨rfl, t5⟩
        have T5 := hid t5
        have S5 := hid (S4.out.new t5)
        have O5 := hid (G4.out.own.kept t5 (fun _ _ e => e))
        have R5 := hid ((t5.block r3 (lt_of_block R4.out) id).trans R4.out)
        clear t5 KK q0 q1 q2 q3
        have KQ := hid (quote_any KY (L ++ []) (.slice ak Nk ck) w5 S5.out.tabs O5.out (by omega) (by rw [HL4.out]; omega))
        go_wp2_with fail
        refine KQ.out.mono ?_
        rintro e w6 ⟨v6, rfl, g6⟩
        have G6 := hid g6
        obtain ⟨M6, hM6⟩ : ∃ M6, M6 = L ++ [] ++ quB KY := ⟨_, rfl⟩
        rw [← hM6] at G6
        have HM6 := hid hM6
        have hM6l : M6.length = (L ++ []).length + (quB KY).length := by rw [hM6, List.length_append]
        clear hM6
        have S6 := hid (S5.out.grew O5.out g6 V4.out)
        have V6 := hid (two_le g6 V4.out S5.out.tabs.two)
        have R6 := hid (other_kept O5.out g6 R5.out (by decide))
        clear g6 KQ
        obtain ⟨a6, c6, N6, hv6, hN6, hO6⟩ := OB.named G6.out.own
        subst hv6
        have OW6 := hid hO6
        have HL6 := hid hN6
        have hN6b : N6 ≤ 26000 + 50000 * k := by
          have := HL4.out
          have := quB_len KY
          omega
        clear hN6 hO6
        go_wp2_with (at_builtin; (refine wpList_append_own_at _ rfl _ _ 53 rfl 0 5 i0 (.int .u8 0) 1 1 Tryd.underlying53 hi5 hz0 hz1 hz2 rfl (by decide) _ _ _ rfl (OW6.out.alloc _) ⟨w6.heap.size, 0, none⟩ 1 1 [.int .u8 58] rfl rfl (row_new w6 [.int .u8 58] 5) (by intro u hu; simp at hu; subst hu; rfl) (by unfold maxLen; omega) (by omega) (Nat.zero_le _) ?_))
        intro v7 w7 hown hgrow _ hat
        have G7 := hid (grew_of (m := [58]) (l := M6) (by rw [HL6.out]; exact hown) hgrow hat)
        clear hown hgrow hat OW6
        obtain ⟨a7, c7, N7, hv7, hN7, _⟩ := OB.named G7.out.own
        subst hv7
        have S7 := hid (S6.out.grew G6.out.own G7.out V6.out)
        have V7 := hid (two_le G7.out V6.out S6.out.tabs.two)
        have R7 := hid (other_kept G6.out.own G7.out R6.out (by decide))
        have HL7 := hid hN7
        have hN7b : N7 ≤ 26001 + 50000 * k := by
          have := HL6.out
          rw [List.length_append, List.length_singleton] at hN7
          omega
        clear hN7
        obtain ⟨⟨r0, r1, r2, r4⟩, _⟩ := cells4 R7.out
        have KS := hid (show_text TK _ (.slice a7 N7 c7) w7 S7.out.tabs G7.out.own (by omega) (by rw [HL7.out]; omega))
        go_wp2_with fail
        refine KS.out.mono ?_
        rintro e w8 ⟨v8, rfl, g8⟩
        have S8 := hid (S7.out.grew G7.out.own g8 V7.out)
        have V8 := hid (two_le g8 V7.out S7.out.tabs.two)
        have GA := hid ((G4.out.trans (Grew.from T5.out G6.out)).trans (G7.out.trans g8))
        have GB := hid (GK.out.trans (Grew.from T3.out GA.out))
        clear KS g8 r0 r1 r2 r4
        have hfin : M6 ++ [58] ++ quB TK = (l ++ [123]) ++ jnF ks ts (k + 1) := by
          rw [HM6.out, jn_more, ← List.append_assoc, HLL.out]
          unfold pcF
          rw [← HTK.out, ← HKY.out]
          rw [if_pos HK0.out]
          simp only [List.append_assoc, List.nil_append]
        rw [hfin] at GB
        obtain ⟨a8, c8, N8, hv8, hN8, _⟩ := OB.named GB.out.own
        subst hv8
        have HL8 := hid hN8
        have hN8b : N8 ≤ 1001 + 50000 * (k + 1) := by
          have := JL.out (k + 1)
          have := HN.out
          rw [List.length_append, List.length_append, List.length_singleton] at hN8
          omega
        clear hN8 hfin
        go_wp2
        go_roundg (gk - 1)
        case measure => omega
        case rel => exact ⟨k + 1, a8, N8, c8, rfl, by omega, by go_num, hN8b, HL8, GB, S8, V8⟩

      · have hkI : (0 : Int) < (k : Int) := by omega
        have HK0 := hid hk0
        clear hk0
        have OW3 := hid (show w3.ownsRow 0 5 1 (.slice ak Nk ck) Nk (bv L) from by have := O3.out; unfold OB at this; rw [HNk.out] at this; exact this)
        go_wp2_with (at_builtin; (refine wpList_append_own_at _ rfl _ _ 53 rfl 0 5 i0 (.int .u8 0) 1 1 Tryd.underlying53 hi5 hz0 hz1 hz2 rfl (by decide) _ _ _ rfl (OW3.out.alloc _) ⟨w3.heap.size, 0, none⟩ 1 1 [.int .u8 44] rfl rfl (row_new w3 [.int .u8 44] 5) (by intro u hu; simp at hu; subst hu; rfl) (by unfold maxLen; omega) (by omega) (Nat.zero_le _) ?_))
        intro v4 w4 hown hgrow _ hat
        have G4 := hid (grew_of (m := [44]) (l := L) (by rw [HNk.out]; exact hown) hgrow hat)
        clear hown hgrow hat OW3
        obtain ⟨a4, c4, N4, hv4, hN4, _⟩ := OB.named G4.out.own
        subst hv4
        have S4 := hid (S3.out.grew O3.out G4.out VK.out)
        have V4 := hid (two_le G4.out VK.out HS3.out)
        have R4 := hid (other_kept O3.out G4.out R3.out (by decide))
        have HL4 := hid hN4
        have hN4b : N4 ≤ 1002 + 50000 * k := by
          have := HNk.out
          rw [List.length_append] at hN4
          simp only [List.length_singleton] at hN4
          omega
        clear hN4
        obtain ⟨⟨q0, q1, q2, q3⟩, _⟩ := cells4 S4.out.obj
        have KK := hid (key_any 6 ⟨#[]⟩ a2 (some ⟨g3, 0, none⟩) n2 c2 n3 c3 ks k w4 S4.out.keys (by have := HN3.out; omega))
        rw [← HKY.out] at KK
        go_wp2_with fail
        refine KK.out.mono ?_
        rintro e w5 ⟨rfl, t5⟩
        have T5 := hid t5
        have S5 := hid (S4.out.new t5)
        have O5 := hid (G4.out.own.kept t5 (fun _ _ e => e))
        have R5 := hid ((t5.block r3 (lt_of_block R4.out) id).trans R4.out)
        clear t5 KK q0 q1 q2 q3
        have KQ := hid (quote_any KY (L ++ [44]) (.slice a4 N4 c4) w5 S5.out.tabs O5.out (by omega) (by rw [HL4.out]; omega))
        go_wp2_with fail
        refine KQ.out.mono ?_
        rintro e w6 ⟨v6, rfl, g6⟩
        have G6 := hid g6
        obtain ⟨M6, hM6⟩ : ∃ M6, M6 = L ++ [44] ++ quB KY := ⟨_, rfl⟩
        rw [← hM6] at G6
        have HM6 := hid hM6
        have hM6l : M6.length = (L ++ [44]).length + (quB KY).length := by rw [hM6, List.length_append]
        clear hM6
        have S6 := hid (S5.out.grew O5.out g6 V4.out)
        have V6 := hid (two_le g6 V4.out S5.out.tabs.two)
        have R6 := hid (other_kept O5.out g6 R5.out (by decide))
        clear g6 KQ
        obtain ⟨a6, c6, N6, hv6, hN6, hO6⟩ := OB.named G6.out.own
        subst hv6
        have OW6 := hid hO6
        have HL6 := hid hN6
        have hN6b : N6 ≤ 26000 + 50000 * k := by
          have := HL4.out
          have := quB_len KY
          omega
        clear hN6 hO6
        go_wp2_with (at_builtin; (refine wpList_append_own_at _ rfl _ _ 53 rfl 0 5 i0 (.int .u8 0) 1 1 Tryd.underlying53 hi5 hz0 hz1 hz2 rfl (by decide) _ _ _ rfl (OW6.out.alloc _) ⟨w6.heap.size, 0, none⟩ 1 1 [.int .u8 58] rfl rfl (row_new w6 [.int .u8 58] 5) (by intro u hu; simp at hu; subst hu; rfl) (by unfold maxLen; omega) (by omega) (Nat.zero_le _) ?_))
        intro v7 w7 hown hgrow _ hat
        have G7 := hid (grew_of (m := [58]) (l := M6) (by rw [HL6.out]; exact hown) hgrow hat)
        clear hown hgrow hat OW6
        obtain ⟨a7, c7, N7, hv7, hN7, _⟩ := OB.named G7.out.own
        subst hv7
        have S7 := hid (S6.out.grew G6.out.own G7.out V6.out)
        have V7 := hid (two_le G7.out V6.out S6.out.tabs.two)
        have R7 := hid (other_kept G6.out.own G7.out R6.out (by decide))
        have HL7 := hid hN7
        have hN7b : N7 ≤ 26001 + 50000 * k := by
          have := HL6.out
          rw [List.length_append, List.length_singleton] at hN7
          omega
        clear hN7
        obtain ⟨⟨r0, r1, r2, r4⟩, _⟩ := cells4 R7.out
        have KS := hid (show_text TK _ (.slice a7 N7 c7) w7 S7.out.tabs G7.out.own (by omega) (by rw [HL7.out]; omega))
        go_wp2_with fail
        refine KS.out.mono ?_
        rintro e w8 ⟨v8, rfl, g8⟩
        have S8 := hid (S7.out.grew G7.out.own g8 V7.out)
        have V8 := hid (two_le g8 V7.out S7.out.tabs.two)
        have GA := hid ((G4.out.trans (Grew.from T5.out G6.out)).trans (G7.out.trans g8))
        have GB := hid (GK.out.trans (Grew.from T3.out GA.out))
        clear KS g8 r0 r1 r2 r4
        have hfin : M6 ++ [58] ++ quB TK = (l ++ [123]) ++ jnF ks ts (k + 1) := by
          rw [HM6.out, jn_more, ← List.append_assoc, HLL.out]
          unfold pcF
          rw [← HTK.out, ← HKY.out]
          rw [if_neg HK0.out]
          simp only [List.append_assoc]
        rw [hfin] at GB
        obtain ⟨a8, c8, N8, hv8, hN8, _⟩ := OB.named GB.out.own
        subst hv8
        have HL8 := hid hN8
        have hN8b : N8 ≤ 1001 + 50000 * (k + 1) := by
          have := JL.out (k + 1)
          have := HN.out
          rw [List.length_append, List.length_append, List.length_singleton] at hN8
          omega
        clear hN8 hfin
        go_wp2
        go_roundg (gk - 1)
        case measure => omega
        case rel => exact ⟨k + 1, a8, N8, c8, rfl, by omega, by go_num, hN8b, HL8, GB, S8, V8⟩

    · have hltI : ¬ (k : Int) < (n3 : Int) := by omega
      obtain rfl : k = n3 := by omega
      obtain ⟨L, hL⟩ : ∃ L, L = (l ++ [123]) ++ jnF ks ts k := ⟨_, rfl⟩
      have HLL := hid hL
      rw [← hL] at HNk GK
      clear hL
      have OWF := hid (show wr.ownsRow 0 5 1 (.slice ak Nk ck) Nk (bv L) from by have := GK.out.own; unfold OB at this; rw [HNk.out] at this; exact this)
      go_wp2_with (at_builtin; (refine wpList_append_own_at _ rfl _ _ 53 rfl 0 5 i0 (.int .u8 0) 1 1 Tryd.underlying53 hi5 hz0 hz1 hz2 rfl (by decide) _ _ _ rfl (OWF.out.alloc _) ⟨wr.heap.size, 0, none⟩ 1 1 [.int .u8 125] rfl rfl (row_new wr [.int .u8 125] 5) (by intro u hu; simp at hu; subst hu; rfl) (by unfold maxLen; omega) (by omega) (Nat.zero_le _) ?_))
      intro v9 w9 hown hgrow _ hat
      have G9 := hid (grew_of (m := [125]) (l := L) (by rw [HNk.out]; exact hown) hgrow hat)
      clear hown hgrow hat OWF
      go_wp2
      go_ret
      refine ⟨v9, rfl, ?_⟩
      have := Grew.from T0.out ((G1.out.trans GK.out).trans G9.out)
      rw [HLL.out] at this
      unfold objB
      rw [← HN3.out]
      simpa using this
end Go.Proofs.YtabhlhgfacpohaaDoor
