/- Texts of this proof, one behind the other: what each says stands ahead of it. -/
import Derived.Test.YtpjnnbegimaaeaaDoorM3
import Derived.Test.YtpjnnbegimaaeaaDoorM14
import Derived.Test.YtpjnnbegimaaeaaDoorM11
import Derived.Deep.RegionHeld3
/- CodingDecodes' walk: Decode and the document's Decode hand back the same; conditions: the text is of at most 1048576 bytes. -/
namespace Go.Proofs.YtpjnnbegimaaeaaDoor
open Go.RowKit

/-- A value that shows a list of ints. -/
def Sh (w : World) (v : Value) (l : List Int) : Prop := ∃ a k, v = .slice a l.length k ∧ (l = [] ∨ Ig w a l)
theorem Sh.new {w w' : World} {v : Value} {l : List Int} (h : Sh w v l) (t : Touch (fun _ => False) w w') : Sh w' v l := by
  obtain ⟨a, k, rfl, h⟩ := h
  exact ⟨a, k, rfl, h.imp id (fun h => h.new t)⟩
theorem OwI.sh {w0 w : World} {v : Value} {l : List Int} (h : OwI w0 w v l) : Sh w v l := by
  obtain ⟨a, k, rfl⟩ := own_shape h.own
  exact ⟨a, k, rfl, h.in.1.imp (fun h => h.1) id⟩
theorem sh_nil (w : World) : Sh w (.slice none 0 0) [] := ⟨none, 0, rfl, .inl rfl⟩

theorem dc_len (s : ByteArray) (c : Nat) (strict : Bool) : ∀ (k i : Nat) (rs ps : List Int) (bad : Nat), (dcGo s c strict k i rs ps bad).2.1.length ≤ rs.length + k ∧ (dcGo s c strict k i rs ps bad).2.2.1.length ≤ ps.length + k
  | 0, i, rs, ps, bad => ⟨Nat.le_refl _, Nat.le_refl _⟩
  | k + 1, i, rs, ps, bad => by
    have key : ∀ j y b, (dcGo s c strict k j (rs ++ [y]) (ps ++ [(i : Int)]) b).2.1.length ≤ rs.length + (k + 1) ∧ (dcGo s c strict k j (rs ++ [y]) (ps ++ [(i : Int)]) b).2.2.1.length ≤ ps.length + (k + 1) := fun j y b => by
      have := dc_len s c strict k j (rs ++ [y]) (ps ++ [(i : Int)]) b
      simp only [List.length_append, List.length_singleton] at this
      omega
    unfold dcGo
    split
    · split
      · split
        · exact ⟨Nat.zero_le _, Nat.zero_le _⟩
        · exact key _ _ _
      · exact key _ _ _
    · exact ⟨Nat.le_add_right _ _, Nat.le_add_right _ _⟩
theorem dc_pre (s : ByteArray) (c : Nat) : ∀ (k i : Nat) (rs ps : List Int) (bad : Nat), (dcGo s c false k i rs ps bad).1 = none ∧ ∃ t, (dcGo s c false k i rs ps bad).2.2.1 = ps ++ t
  | 0, i, rs, ps, bad => ⟨rfl, [], by simp [dcGo]⟩
  | k + 1, i, rs, ps, bad => by
    have key : ∀ j y b, (dcGo s c false k j (rs ++ [y]) (ps ++ [(i : Int)]) b).1 = none ∧ ∃ t, (dcGo s c false k j (rs ++ [y]) (ps ++ [(i : Int)]) b).2.2.1 = ps ++ t := fun j y b => by
      obtain ⟨h, t, ht⟩ := dc_pre s c k j (rs ++ [y]) (ps ++ [(i : Int)]) b
      exact ⟨h, [(i : Int)] ++ t, by rw [ht, List.append_assoc]⟩
    unfold dcGo
    split
    · split
      · split
        · rename_i h; cases h
        · exact key _ _ _
      · exact key _ _ _
    · exact ⟨rfl, [], by simp⟩
theorem dc_head (s : ByteArray) (c i : Nat) (hi : i ≤ s.size) : ((dcGo s c false s.size i [] [] 0).2.2.1 ++ [(s.size : Int)])[0]? = some (i : Int) := by
  by_cases h : i < s.size
  · obtain ⟨k, hk⟩ : ∃ k, s.size = k + 1 := ⟨s.size - 1, by omega⟩
    have key : ∀ j y b, ((dcGo s c false k j ([] ++ [y]) ([] ++ [(i : Int)]) b).2.2.1 ++ [(s.size : Int)])[0]? = some (i : Int) := fun j y b => by
      obtain ⟨_, t, ht⟩ := dc_pre s c k j ([] ++ [y]) ([] ++ [(i : Int)]) b
      rw [ht]
      rfl
    rw [show dcGo s c false s.size i [] [] 0 = dcGo s c false (k + 1) i [] [] 0 by rw [hk], dc_step h]
    split
    · rw [if_neg (by simp)]
      exact key _ _ _
    · exact key _ _ _
  · rw [dc_end (by omega), show i = s.size by omega]
    rfl

theorem both (s : ByteArray) (c : Int) (strict : Bool) (hs : s.size ≤ 1048576) : ∃ (c1 bad er ix : Int) (rs ps : List Int), rs.length ≤ 1099511627776 ∧ ps.length ≤ 1099511627776 ∧
    (∀ w, Tabs w → Calls Tryd.prog 10 #[.string s, .int .i64 c, .bool strict] w fun e w' => ∃ v1 v2, e = .returned (.tuple #[.agg #[.int .i64 c1, v1, v2, .int .i64 bad], .agg #[.int .i64 er, .int .i64 ix]]) ∧ Sh w' v1 rs ∧ Sh w' v2 ps ∧ Touch (fun _ => False) w w') ∧
    (∀ w, Calls Tryd.prog 12 #[.string s, .int .i64 c, .bool strict] w fun e w' => ∃ v1 v2, e = .returned (.tuple #[.agg #[.int .i64 c1, .int .i64 bad, v1, v2], .int .i64 er, .int .i64 ix]) ∧ Sh w' v1 rs ∧ Sh w' v2 ps ∧ Touch (fun _ => False) w w') := by
  by_cases hc : 0 ≤ c ∧ c ≤ 4
  · obtain ⟨h0, h4⟩ := hc
    obtain ⟨n, rfl⟩ := Int.eq_ofNat_of_zero_le h0
    have hn : n ≤ 4 := by omega
    have hl := dc_len s (bg s n).1 strict s.size (bg s n).2 [] [] 0
    obtain ⟨R, hR⟩ : ∃ R, dcGo s (bg s n).1 strict s.size (bg s n).2 [] [] 0 = R := ⟨_, rfl⟩
    have K := fun w ht => decode_any s n strict w ht (by omega) hn
    have K' := fun w => rdecode_any s n strict w (by omega) hn
    rw [hR] at hl K K'
    simp only [List.length_nil, Nat.zero_add] at hl
    obtain ⟨o, rs, ps, bad⟩ := R
    cases o with
    | some i =>
      refine ⟨0, 0, ((17 : Nat) : Int), (i : Int), [], [], Nat.zero_le _, Nat.zero_le _, fun w ht => (K w ht).mono ?_, fun w => (K' w).mono ?_⟩
      · rintro e w' (⟨j, hj, ⟨rfl, t⟩⟩ | ⟨h, _⟩)
        · cases hj
          exact ⟨_, _, rfl, sh_nil _, sh_nil _, t⟩
        · cases h
      · rintro e w' (⟨j, hj, ⟨rfl, t⟩⟩ | ⟨h, _⟩)
        · cases hj
          exact ⟨_, _, rfl, sh_nil _, sh_nil _, t⟩
        · cases h
    | none =>
      refine ⟨((bg s n).1 : Int), (bad : Int), 0, 0, rs, ps ++ [(s.size : Int)], by have := hl.1; simp only at this; omega, by have := hl.2; simp only at this; rw [List.length_append, List.length_singleton]; omega, fun w ht => (K w ht).mono ?_, fun w => (K' w).mono ?_⟩
      · rintro e w' (⟨j, hj, _⟩ | ⟨_, ⟨v1, v2, rfl, o1, o2⟩⟩)
        · cases hj
        · exact ⟨v1, v2, rfl, o1.sh, o2.sh, o1.touch⟩
      · rintro e w' (⟨j, hj, _⟩ | ⟨_, ⟨v1, v2, rfl, o1, o2⟩⟩)
        · cases hj
        · exact ⟨v1, v2, rfl, o1.sh, o2.sh, o1.touch⟩
  · have hc' : c < 0 ∨ (0 ≤ c ∧ 4 < c) := by omega
    refine ⟨0, 0, ((1 : Nat) : Int), ((0 : Nat) : Int), [], [], Nat.zero_le _, Nat.zero_le _, fun w _ => (decode_out s c strict w hc').mono ?_, fun w => (rdecode_out s c strict w hc').mono ?_⟩
    · rintro e w' ⟨rfl, t⟩
      exact ⟨_, _, rfl, sh_nil _, sh_nil _, t⟩
    · rintro e w' ⟨rfl, t⟩
      exact ⟨_, _, rfl, sh_nil _, sh_nil _, t⟩

theorem sniffed (s : ByteArray) (hs : s.size ≤ 1048576) (w : World) : Calls Tryd.prog 12 #[.string s, .int .i64 0, .bool false] w fun e w' => ∃ a5 l5 k6 g len k bad, e = .returned (.tuple #[.agg #[.int .i64 ((sn s 3 1).1 : Nat), .int .i64 bad, .slice a5 l5 k6, .slice (some ⟨g, 0, none⟩) len k], .int .i64 0, .int .i64 0]) ∧ 0 < len ∧ len ≤ 1099511627776 ∧ g < w'.heap.size ∧ w'.cell? ⟨g, 0, none⟩ = some (.int .i64 ((sn s 3 1).2 : Nat)) ∧ Touch (fun _ => False) w w' := by
  have hi := bg_in s 0 (by omega)
  have hl := dc_len s (bg s 0).1 false s.size (bg s 0).2 [] [] 0
  have hp := dc_pre s (bg s 0).1 s.size (bg s 0).2 [] [] 0
  have hh := dc_head s (bg s 0).1 (bg s 0).2 hi.2.2
  refine (rdecode_any s 0 false w (by omega) (by omega)).mono ?_
  rintro e w' (⟨j, hj, _⟩ | ⟨_, ⟨v1, v2, rfl, o1, o2⟩⟩)
  · rw [hp.1] at hj
    cases hj
  · obtain ⟨a, k, rfl, g, rfl, hg, hcell⟩ := o2.ig (by simp)
    obtain ⟨hlt, he⟩ := List.getElem?_eq_some_iff.1 hh
    obtain ⟨a5, k6, rfl⟩ := own_shape o1.own
    refine ⟨a5, _, k6, g, _, k, _, rfl, hlt, ?_, hg, ?_, o1.touch⟩
    · rw [List.length_append, List.length_singleton]
      have := hl.2
      simp only [List.length_nil] at this
      omega
    · rw [hcell 0 hlt, he]
      rfl

/-- The two blocks that the law keeps. -/
structure RB2 (wz : World) (q : Nat) (b0 b1 b2 b3 f0 f1 : Value) : Prop where
  a : wz.heap[q]? = some (.cells #[b0, b1, b2, b3] 25 (0, 0))
  b : wz.heap[q + 1]? = some (.cells #[f0, f1] 28 (0, 0))
theorem RB2.made (w : World) (b0 b1 b2 b3 f0 f1 : Value) : RB2 ((w.alloc (.cells #[b0, b1, b2, b3] 25)).alloc (.cells #[f0, f1] 28)) w.heap.size b0 b1 b2 b3 f0 f1 := by
  have h := block_new w #[b0, b1, b2, b3] 25
  have t := (Touch.refl (fun _ => False) (w.alloc (.cells #[b0, b1, b2, b3] 25))).alloc (.cells #[f0, f1] 28)
  refine ⟨(t.block _ (lt_of_block h) id).trans h, ?_⟩
  have k := block_new (w.alloc (.cells #[b0, b1, b2, b3] 25)) #[f0, f1] 28
  rwa [show (w.alloc (.cells #[b0, b1, b2, b3] 25)).heap.size = w.heap.size + 1 by simp] at k
theorem RB2.kept {w w' : World} {q : Nat} {b0 b1 b2 b3 f0 f1 : Value} (h : RB2 w q b0 b1 b2 b3 f0 f1) (t : Touch (fun _ => False) w w') : RB2 w' q b0 b1 b2 b3 f0 f1 :=
  ⟨(t.block _ (lt_of_block h.a) id).trans h.a, (t.block _ (lt_of_block h.b) id).trans h.b⟩
theorem four_cells' {w : World} {g : Nat} {t : TypeId} {a0 a1 a2 a3 : Value} (h : w.heap[g]? = some (.cells #[a0, a1, a2, a3] t (0, 0))) : (w.cell? ⟨g, 0, none⟩ = some a0 ∧ w.cell? ⟨g, 1, none⟩ = some a1 ∧ w.cell? ⟨g, 2, none⟩ = some a2 ∧ w.cell? ⟨g, 3, none⟩ = some a3) ∧ ∀ i, w.frozen? ⟨g, i, none⟩ = false := four_cells h
theorem two_cells {w : World} {g : Nat} {t : TypeId} {a0 a1 : Value} (h : w.heap[g]? = some (.cells #[a0, a1] t (0, 0))) : (w.cell? ⟨g, 0, none⟩ = some a0 ∧ w.cell? ⟨g, 1, none⟩ = some a1) ∧ ∀ i, w.frozen? ⟨g, i, none⟩ = false := by
  simp [World.cell?, World.frozen?, h]

set_option maxRecDepth 100000 in
set_option maxHeartbeats 16000000 in
theorem codingDecodes_walk (s : ByteArray) (c : Int) (strict : Bool) (w : World) (ht : Tabs w) (hs : s.size ≤ 1048576) : Calls Tryd.prog 4 #[.string s, .int .i64 c, .bool strict] w fun e w' => e = .returned (.bool true) ∧ Touch (fun _ => False) w w' := by
  obtain ⟨c1, bad, er, ix, rs, ps, hlr, hlp, k10, k12⟩ := both s c strict hs
  have K10 := hid k10
  have K12 := hid k12
  have KX := hid (sniffed s hs)
  have hin := bg_in s 0 (by omega)
  have halt := bg_alt s 0
  have HT := hid ht
  have KS := hid (fun w ht => sniff_any s w ht)
  rw [show bg s 0 = sn s 3 1 from rfl] at hin halt
  obtain ⟨c0, hc0⟩ : ∃ x, x = (sn s 3 1).1 := ⟨_, rfl⟩
  obtain ⟨n, hn⟩ : ∃ x, x = (sn s 3 1).2 := ⟨_, rfl⟩
  rw [← hc0, ← hn] at hin halt KX KS
  have hM : n = (mk c0).size ∨ (n = 0 ∧ n ≠ (mk c0).size) := by
    split at halt
    · exact .inl halt
    · by_cases h : n = (mk c0).size
      · exact .inl h
      · exact .inr ⟨halt, h⟩
  have KM := hid (mark_any c0 ⟨hin.1, hin.2.1⟩)
  obtain ⟨M, hMe⟩ : ∃ M, mk c0 = M := ⟨_, rfl⟩
  rw [hMe] at hM KM
  have HM := hid hM
  have hns : n ≤ s.size := hin.2.2
  have hc0b : c0 ≤ 4 := hin.2.1
  clear k10 k12 ht halt hc0 hn hMe hM hin
  go_enter Tryd.func4, Tryd.ntmps4
  go_wp2_with fail
  refine (speaks_yes w HT.out).mono ?_
  rintro e w1 ⟨rfl, t1⟩
  have T1 := hid t1
  have KK := hid (K10.out w1 (HT.out.new t1))
  clear t1
  go_wp2_with fail
  refine KK.out.mono ?_
  rintro e w2 ⟨v1, v2, rfl, s1, s2, t2⟩
  have T2 := hid (T1.out.trans t2 (fun _ _ e => e))
  obtain ⟨a1, k1, rfl, i1⟩ := s1
  obtain ⟨a2, k2, rfl, i2⟩ := s2
  have I1 := hid i1
  have I2 := hid i2
  clear i1 i2 t2 T1 KK K10
  have B1 := hid (RB2.made w2 (.int .i64 c1) (.slice a1 rs.length k1) (.slice a2 ps.length k2) (.int .i64 bad) (.int .i64 er) (.int .i64 ix))
  have TA := hid (((Touch.refl (fun _ => False) w2).alloc (.cells #[.int .i64 c1, .slice a1 rs.length k1, .slice a2 ps.length k2, .int .i64 bad] 25)).alloc (.cells #[.int .i64 er, .int .i64 ix] 28))
  go_upto_region 4 with fail
  generalize ((w2.alloc (.cells #[.int .i64 c1, .slice a1 rs.length k1, .slice a2 ps.length k2, .int .i64 bad] 25)).alloc (.cells #[.int .i64 er, .int .i64 ix] 28)) = w3 at *
  obtain ⟨q, hq⟩ : ∃ q, q = w2.heap.size := ⟨_, rfl⟩
  rw [← hq] at B1 ⊢
  clear hq
  have T3 := hid (T2.out.trans TA.out (fun _ _ e => e))
  replace I1 := hid (I1.out.imp id (fun h => h.new TA.out))
  replace I2 := hid (I2.out.imp id (fun h => h.new TA.out))
  have KK := hid (K12.out w3)
  clear T2 TA
  go_wp2_with fail
  refine KK.out.mono ?_
  rintro e w4 ⟨v3, v4, rfl, s3, s4, t4⟩
  have T4 := hid (T3.out.trans t4 (fun _ _ e => e))
  replace I1 := hid (I1.out.imp id (fun h => h.new t4))
  replace I2 := hid (I2.out.imp id (fun h => h.new t4))
  replace B1 := hid (B1.out.kept t4)
  obtain ⟨a3, k3, rfl, i3⟩ := s3
  obtain ⟨a4, k4, rfl, i4⟩ := s4
  have I3 := hid i3
  have I4 := hid i4
  clear i3 i4 t4 T3 KK K12
  have BX := hid (block_new w4 #[.int .i64 c1, .int .i64 bad, .slice a3 rs.length k3, .slice a4 ps.length k4] 35)
  have TA := hid ((Touch.refl (fun _ => False) w4).alloc (.cells #[.int .i64 c1, .int .i64 bad, .slice a3 rs.length k3, .slice a4 ps.length k4] 35))
  go_upto_region 5 with fail
  generalize (w4.alloc (.cells #[.int .i64 c1, .int .i64 bad, .slice a3 rs.length k3, .slice a4 ps.length k4] 35)) = w5 at *
  obtain ⟨x, hx⟩ : ∃ x, x = w4.heap.size := ⟨_, rfl⟩
  rw [← hx] at BX ⊢
  clear hx
  have T5 := hid (T4.out.trans TA.out (fun _ _ e => e))
  replace I1 := hid (I1.out.imp id (fun h => h.new TA.out))
  replace I2 := hid (I2.out.imp id (fun h => h.new TA.out))
  replace I3 := hid (I3.out.imp id (fun h => h.new TA.out))
  replace I4 := hid (I4.out.imp id (fun h => h.new TA.out))
  replace B1 := hid (B1.out.kept TA.out)
  have KK := hid (KS.out w5 (HT.out.new T5.out))
  clear T4 TA
  go_wp2_with fail
  refine KK.out.mono ?_
  rintro e w6 ⟨rfl, t6⟩
  have T6 := hid (T5.out.trans t6 (fun _ _ e => e))
  replace I1 := hid (I1.out.imp id (fun h => h.new t6))
  replace I2 := hid (I2.out.imp id (fun h => h.new t6))
  replace I3 := hid (I3.out.imp id (fun h => h.new t6))
  replace I4 := hid (I4.out.imp id (fun h => h.new t6))
  replace B1 := hid (B1.out.kept t6)
  replace BX := hid ((t6.block x (lt_of_block BX.out) id).trans BX.out)
  clear KK KS t6 T5
  have KK := hid (KX.out w6)
  go_wp2_with fail
  refine KK.out.mono ?_
  rintro e w7 ⟨a5, l5, k6, g, len, k5, bad5, rfl, hl0, hl1, hg, hcell, t7⟩
  have T7 := hid (T6.out.trans t7 (fun _ _ e => e))
  replace I1 := hid (I1.out.imp id (fun h => h.new t7))
  replace I2 := hid (I2.out.imp id (fun h => h.new t7))
  replace I3 := hid (I3.out.imp id (fun h => h.new t7))
  replace I4 := hid (I4.out.imp id (fun h => h.new t7))
  replace B1 := hid (B1.out.kept t7)
  replace BX := hid ((t7.block x (lt_of_block BX.out) id).trans BX.out)
  have HC := hid hcell
  have HG := hid hg
  clear KK KX t7 T6 hcell hg
  have BY := hid (block_new w7 #[.int .i64 (c0 : Nat), .int .i64 bad5, .slice a5 l5 k6, .slice (some ⟨g, 0, none⟩) len k5] 35)
  have TA := hid ((Touch.refl (fun _ => False) w7).alloc (.cells #[.int .i64 (c0 : Nat), .int .i64 bad5, .slice a5 l5 k6, .slice (some ⟨g, 0, none⟩) len k5] 35))
  go_upto_region 7 with fail
  generalize (w7.alloc (.cells #[.int .i64 (c0 : Nat), .int .i64 bad5, .slice a5 l5 k6, .slice (some ⟨g, 0, none⟩) len k5] 35)) = w8 at *
  obtain ⟨y, hy⟩ : ∃ x, x = w7.heap.size := ⟨_, rfl⟩
  rw [← hy] at BY ⊢
  clear hy
  have T8 := hid (T7.out.trans TA.out (fun _ _ e => e))
  replace I1 := hid (I1.out.imp id (fun h => h.new TA.out))
  replace I2 := hid (I2.out.imp id (fun h => h.new TA.out))
  replace I3 := hid (I3.out.imp id (fun h => h.new TA.out))
  replace I4 := hid (I4.out.imp id (fun h => h.new TA.out))
  replace B1 := hid (B1.out.kept TA.out)
  replace BX := hid ((TA.out.block x (lt_of_block BX.out) id).trans BX.out)
  replace HC := hid ((TA.out.cell (p := ⟨g, 0, none⟩) HG.out id).trans HC.out)
  replace HG := hid (Nat.lt_of_lt_of_le HG.out TA.out.size)
  clear TA T7
  have KK := hid (KM.out w8)
  obtain ⟨⟨y0, _, _, _⟩, _⟩ := four_cells BY.out
  go_wp2_with fail
  refine KK.out.mono ?_
  rintro e w9 ⟨rfl, t9⟩
  have T9 := hid (T8.out.trans t9 (fun _ _ e => e))
  replace I1 := hid (I1.out.imp id (fun h => h.new t9))
  replace I2 := hid (I2.out.imp id (fun h => h.new t9))
  replace I3 := hid (I3.out.imp id (fun h => h.new t9))
  replace I4 := hid (I4.out.imp id (fun h => h.new t9))
  replace B1 := hid (B1.out.kept t9)
  replace BX := hid ((t9.block x (lt_of_block BX.out) id).trans BX.out)
  replace BY := hid ((t9.block y (lt_of_block BY.out) id).trans BY.out)
  replace HC := hid ((t9.cell (p := ⟨g, 0, none⟩) HG.out id).trans HC.out)
  clear KK KM t9 T8 y0 HG
  obtain ⟨⟨y0, _, _, y3⟩, _⟩ := four_cells BY.out
  have hcell := HC.out
  go_upto_region 8 with fail
  go_cut [61] (fun v wd => v = .bool (decide (n ≠ M.size)) ∧ w9 = wd)
  case first =>
    rcases HM.out with h | ⟨h, h'⟩
    · subst h
      have hnl : ¬ ((s.size : Int) < (M.size : Int)) := by omega
      go_wp2
      go_meet
      case rel => exact ⟨by simp, rfl⟩
    · have hne : ¬ ((n : Int) = (M.size : Int)) := by omega
      clear h
      go_wp2
      go_meet
      case rel => exact ⟨by rw [decide_eq_true h'], rfl⟩
  obtain ⟨rfl, rfl⟩ := hcut
  go_upto_if 61 with fail
  go_cut [17] (fun v wd => v = .int .i64 (n : Nat) ∧ w9 = wd)
  case first =>
    rcases HM.out with h | ⟨h, h'⟩
    · rw [decide_eq_false (show ¬ (n ≠ M.size) by omega)]
      have H0 := hid h
      clear h
      go_wp2
      go_meet
      case rel => exact ⟨by rw [H0.out], rfl⟩
    · rw [decide_eq_true h']
      have H0 := hid h
      clear h h'
      go_wp2
      go_meet
      case rel => exact ⟨by rw [H0.out]; rfl, rfl⟩
  obtain ⟨rfl, rfl⟩ := hcut
  clear hcell y3 HC HM
  obtain ⟨⟨x0, x1, x2, x3⟩, _⟩ := four_cells BX.out
  obtain ⟨⟨q0, q1, q2, q3⟩, _⟩ := four_cells' B1.out.a
  obtain ⟨⟨p0, p1⟩, _⟩ := two_cells B1.out.b
  -- END
  have K1 := hid (ints_yes a1 a3 k1 k3 rs w9 I1.out I3.out hlr)
  go_wp2_with fail
  -- END
  have K1 := hid (ints_yes a1 a3 k1 k3 rs w9 I1.out I3.out hlr)
  go_wp2_with fail
  refine K1.out.mono ?_
  rintro e w10 ⟨rfl, t10⟩
  have T10 := hid (T9.out.trans t10 (fun _ _ e => e))
  have K2 := hid (ints_yes a2 a4 k2 k4 ps w10 (I2.out.imp id (fun h => h.new t10)) (I4.out.imp id (fun h => h.new t10)) hlp)
  replace B1 := hid (B1.out.kept t10)
  replace BX := hid ((t10.block x (lt_of_block BX.out) id).trans BX.out)
  replace BY := hid ((t10.block y (lt_of_block BY.out) id).trans BY.out)
  clear t10 K1 T9 x0 x1 x2 x3 q0 q1 q2 q3 p0 p1 y0 I1 I2 I3 I4
  obtain ⟨⟨x0, x1, x2, x3⟩, _⟩ := four_cells BX.out
  obtain ⟨⟨q0, q1, q2, q3⟩, _⟩ := four_cells' B1.out.a
  go_wp2_with fail
  refine K2.out.mono ?_
  rintro e w11 ⟨rfl, t11⟩
  have T11 := hid (T10.out.trans t11 (fun _ _ e => e))
  replace B1 := hid (B1.out.kept t11)
  replace BY := hid ((t11.block y (lt_of_block BY.out) id).trans BY.out)
  clear t11 K2 T10 x0 x1 x2 x3 q0 q1 q2 q3 BX
  obtain ⟨⟨y0, _, _, _⟩, _⟩ := four_cells BY.out
  obtain ⟨⟨p0, p1⟩, _⟩ := two_cells B1.out.b
  go_wp2
  go_ret
  exact ⟨rfl, T11.out⟩
end Go.Proofs.YtpjnnbegimaaeaaDoor

/- CodingPlaces' walk: places rise, each scalar's bytes are those between two of them, or it is bad; conditions: the text is of at most 1048576 bytes. -/
namespace Go.Proofs.YtpjnnbegimaaeaaDoor
open Go.RowKit
open Go.Lib

theorem sn_le (s : ByteArray) : ∀ k c, (sn s k c).2 ≤ 3
  | 0, c => by simp [sn]
  | k + 1, c => by
    unfold sn
    split
    · exact mk_size c
    · exact sn_le s k (c + 1)
theorem bg_le (s : ByteArray) (c : Nat) : (bg s c).2 ≤ 3 := by
  unfold bg
  split
  · exact sn_le s 3 1
  · split
    · exact mk_size c
    · exact Nat.zero_le _
def outL (s : ByteArray) (c : Nat) (L : List Nat) : List Int := L.map (outAt s c)
def plL (s : ByteArray) (L : List Nat) : List Int := L.map (fun (p : Nat) => (p : Int)) ++ [(s.size : Int)]
theorem plL_eq (s : ByteArray) (L : List Nat) : plL s L = (L ++ [s.size]).map (fun (p : Nat) => (p : Int)) := by
  unfold plL
  rw [List.map_append]
  rfl
theorem outL_len (s : ByteArray) (c : Nat) (L : List Nat) : (outL s c L).length = L.length := by unfold outL; rw [List.length_map]
theorem plL_len (s : ByteArray) (L : List Nat) : (plL s L).length = L.length + 1 := by unfold plL; simp
theorem plL_at (s : ByteArray) (L : List Nat) (j p : Nat) (h : (L ++ [s.size])[j]? = some p) (hj : j < (plL s L).length) : (plL s L)[j] = (p : Int) := by
  have : (plL s L)[j]? = some (p : Int) := by rw [plL_eq, List.getElem?_map, h]; rfl
  rw [List.getElem?_eq_getElem hj] at this
  exact Option.some.inj this
theorem pl_dec1 (s : ByteArray) (c : Nat) (hc : c ≤ 4) (hs : s.size ≤ 1048576) (L : List Nat) (hL : L = seg s (bg s c).1 s.size (bg s c).2) (w : World) (ht : Tabs w) :
    Calls Tryd.prog 10 #[.string s, .int .i64 (c : Nat), .bool false] w fun e w' => ∃ a1 k1 a2 k2, e = .returned (.tuple #[.agg #[.int .i64 ((bg s c).1 : Nat), .slice a1 L.length k1, .slice a2 (L.length + 1) k2, .int .i64 (L.countP (badAt s (bg s c).1) : Nat)], .agg #[.int .i64 0, .int .i64 0]]) ∧ (outL s (bg s c).1 L = [] ∨ Ig w' a1 (outL s (bg s c).1 L)) ∧ Ig w' a2 (plL s L) ∧ Touch (fun _ => False) w w' := by
  have K := decode_any s c false w ht (by omega) hc
  rw [dc_seg, ← hL] at K
  refine K.mono ?_
  rintro e w' (⟨i, h, _⟩ | ⟨_, ⟨v1, v2, rfl, o1, o2⟩⟩)
  · cases h
  · rw [List.nil_append] at o1
    simp only [List.nil_append] at o2
    obtain ⟨a1, k1, rfl, i1⟩ := o1.sh
    obtain ⟨a2, k2, rfl, i2⟩ := o2.sh
    refine ⟨a1, k1, a2, k2, ?_, i1, i2.resolve_left (by simp), o1.touch⟩
    rw [List.length_map, show (L.map (fun (p : Nat) => (p : Int)) ++ [(s.size : Int)]).length = L.length + 1 by simp, Nat.zero_add]
theorem pl_dec2 (s : ByteArray) (c : Nat) (hc : c ≤ 4) (hs : s.size ≤ 1048576) (L : List Nat) (hL : L = seg s (bg s c).1 s.size (bg s c).2) (w : World) (ht : Tabs w) :
    Calls Tryd.prog 10 #[.string s, .int .i64 (c : Nat), .bool true] w fun e w' => ∃ er ix c2 b2 a1 n1 k1 a2 n2 k2, e = .returned (.tuple #[.agg #[.int .i64 c2, .slice a1 n1 k1, .slice a2 n2 k2, .int .i64 b2], .agg #[.int .i64 er, .int .i64 ix]]) ∧ ((er = 0 ∧ L.countP (badAt s (bg s c).1) = 0) ∨ (er = 17 ∧ L.countP (badAt s (bg s c).1) ≠ 0)) ∧ Touch (fun _ => False) w w' := by
  have K := decode_any s c true w ht (by omega) hc
  have E := dc_strict s (bg s c).1 s.size (bg s c).2 [] [] 0
  rw [← hL] at E
  refine K.mono ?_
  rintro e w' (⟨i, h, ⟨rfl, t⟩⟩ | ⟨h, ⟨v1, v2, rfl, o1, o2⟩⟩)
  · refine ⟨17, i, 0, 0, none, 0, 0, none, 0, 0, rfl, .inr ⟨rfl, fun e => ?_⟩, t⟩
    rw [E.2 e] at h
    cases h
  · obtain ⟨a1, k1, rfl⟩ := own_shape o1.own
    obtain ⟨a2, k2, rfl⟩ := own_shape o2.own
    exact ⟨0, 0, _, _, a1, _, k1, a2, _, k2, rfl, .inl ⟨rfl, E.1 h⟩, o1.touch⟩
theorem pl_enc (s : ByteArray) (c : Nat) (hc : c = 1 ∨ c = 2 ∨ c = 3 ∨ c = 4) (p : Nat) (hp : p < s.size) : ∃ e1, (∀ (w : World) (b : Nat), Tabs w → Ig w (some ⟨b, 0, none⟩) [outAt s c p] → Calls Tryd.prog 11 #[.slice (some ⟨b, 0, none⟩) 1 1, .int .i64 (c : Nat), .bool false] w fun e w' => e = .returned (.tuple #[.string e1, .int .i64 0]) ∧ Touch (fun _ => False) w w') ∧ (badAt s c p = false → e1 = s.extract p (p + (tkAt s c p).2)) := by
  have hok := out_ok c hc s p hp
  have hall : [outAt s c p].all (okc c) = true := by rw [List.all_cons, hok]; rfl
  refine ⟨encS c false [outAt s c p], fun w b ht hi => ?_, fun hb => ?_⟩
  · have K := encode_any c hc (some ⟨b, 0, none⟩) 1 [outAt s c p] false w ht (.inr hi) (by simp)
    rw [encR_yes hc hall] at K
    exact K
  · have hb' : ¬ (tkAt s c p).1 = -1 := of_decide_eq_false hb
    obtain ⟨h1, h2, h3⟩ := tkAt_bwd c hc s p hp hb'
    have hr := tkAt_room c hc s p hp
    have e : outAt s c p = (tkAt s c p).1 := by unfold outAt; rw [if_neg hb']
    unfold encS fullL
    rw [if_neg (fun e => by cases e.1), e, List.flatMap_cons, List.flatMap_nil, List.append_nil, h3]
    exact lays_cut s p _ h2 (by omega)
set_option maxRecDepth 100000 in
set_option maxHeartbeats 8000000 in
theorem codingPlaces_out (s : ByteArray) (c : Int) (w : World) (ht : Tabs w) (hc : c < 0 ∨ (0 ≤ c ∧ 4 < c)) : Calls Tryd.prog 5 #[.string s, .int .i64 c] w fun e w' => e = .returned (.bool true) ∧ Touch (fun _ => False) w w' := by
  have HT := hid ht
  have HC := hid hc
  clear ht
  go_enter Tryd.func5, Tryd.ntmps5
  go_wp2_with fail
  refine (speaks_yes w HT.out).mono ?_
  rintro e w1 ⟨rfl, t1⟩
  have TC := hid t1
  clear t1
  go_wp2_with fail
  refine (decode_out s c false w1 HC.out).mono ?_
  rintro e w2 ⟨rfl, t2⟩
  have T2 := hid (TC.out.trans t2 (fun _ _ e => e))
  clear t2 TC
  have B1 := hid (RB2.made w2 (.int .i64 0) (.slice none 0 0) (.slice none 0 0) (.int .i64 0) (.int .i64 1) (.int .i64 0))
  have TA := hid (((Touch.refl (fun _ => False) w2).alloc (.cells #[.int .i64 0, .slice none 0 0, .slice none 0 0, .int .i64 0] 25)).alloc (.cells #[.int .i64 1, .int .i64 0] 28))
  unfold zeroT
  go_upto_region 4 with fail
  generalize ((w2.alloc (.cells #[.int .i64 0, .slice none 0 0, .slice none 0 0, .int .i64 0] 25)).alloc (.cells #[.int .i64 1, .int .i64 0] 28)) = w3 at *
  obtain ⟨q, hq⟩ : ∃ q, q = w2.heap.size := ⟨_, rfl⟩
  rw [← hq] at B1 ⊢
  clear hq
  have T3 := hid (T2.out.trans TA.out (fun _ _ e => e))
  obtain ⟨⟨p0, p1⟩, _⟩ := two_cells B1.out.b
  rcases hc with h | ⟨h0, h4⟩
  · clear HC
    go_wp2
    go_ret
    exact ⟨rfl, T3.out⟩
  · have hn : ¬ (c < 0) := by omega
    clear HC
    go_wp2
    go_ret
    exact ⟨rfl, T3.out⟩
end Go.Proofs.YtpjnnbegimaaeaaDoor
