/- Texts of this proof, one behind the other: what each says stands ahead of it. -/
import Derived.Test.YtnohikoeaepfpaaDoorM7
import Derived.Test.YtnohikoeaepfpaaDoorM6
/- TemplParses' walk; conditions: the text is of at most 1048576 bytes, there are at most 1048576 names, the errors' values lie there. -/
namespace Go.Proofs.YtnohikoeaepfpaaDoor
open Go.RowKit
open Go.Lib

theorem info9 : (Tryd.prog.info? 9).map (fun i => (i.zero, i.size, i.bytes)) = some (some (.string ⟨#[]⟩), 1, 16) := by kernel_rfl
theorem add_at (b o j : Nat) : (⟨b, o, none⟩ : Addr).add j = ⟨b, o + j, none⟩ := by
  unfold Addr.add
  split
  · rename_i h; rw [h]; rfl
  · rfl
theorem own_none (w : World) : (w.alloc (.cells #[] 9)).ownsRow 0 9 1 (.slice (some ⟨w.heap.size, 0, none⟩) 0 0) 0 [] :=
  ⟨rfl, .inr ⟨w.heap.size, 0, #[], rfl, Nat.zero_le _, new_block _ _ _, Nat.le_refl _, by decide, rfl, rfl⟩⟩
theorem own_names {w : World} {v : Value} {ns : List Bs} (h : w.ownsRow 0 9 1 v ns.length (ns.map sv)) : Nl w v ns := by
  rcases h.2 with ⟨hv, h0⟩ | ⟨g, cap, cur, hv, hg, hh, rest⟩
  · exact ⟨none, 0, by rw [hv, h0], .inl (List.eq_nil_of_length_eq_zero h0)⟩
  · refine ⟨_, cap, hv, .inr ⟨g, 0, rfl, lt_of_block hh, fun j hj => ?_⟩⟩
    have := h.cells (g := g) (by rw [hv]; rfl) j (sv ns[j]) (by rw [List.getElem?_map, List.getElem?_eq_getElem hj]; rfl)
    rw [add_at] at this
    exact this
theorem nm_app (o : List Pc) (p t : Bs) : (nm o (p ++ t)).length ≤ (nm o p).length + 1 := by
  unfold nm
  split <;> split <;> simp <;> omega
theorem go_len (ns : List Bs) : ∀ (f : Nat) (o : List Pc) (p cs : Bs) (k : Nat) (l : List Pc), goR ns f o p cs k = .inl l → l.length ≤ (nm o p).length + cs.length := by
  intro f
  induction f with
  | zero =>
    intro o p cs k l h
    cases cs with
    | nil => rw [goR_nil] at h; cases h; omega
    | cons c r => cases h
  | succ f ih =>
    intro o p cs k l h
    cases cs with
    | nil => rw [goR_nil] at h; cases h; omega
    | cons c r =>
      have hz := tk1_size (ns := ns) (cs := c :: r)
      rw [goR] at h
      cases ht : tk1 ns (c :: r) with
      | text t n =>
        rw [ht] at h
        have h1 := ih _ _ _ _ _ h
        have h2 := hz.1 t n ht
        have h3 := nm_app o p t
        rw [List.length_drop] at h1
        omega
      | grp g n =>
        rw [ht] at h
        have h1 := ih _ _ _ _ _ h
        have h2 := hz.2 g n ht
        rw [nm_nil, List.length_append, List.length_drop] at h1
        simp only [List.length_cons, List.length_nil] at h1 h2 ⊢
        omega
      | bad => rw [ht] at h; cases h
theorem parse_len (ns : List Bs) (cs : Bs) : (parseP ns cs).1.length ≤ cs.length := by
  unfold parseP
  split
  · exact Nat.zero_le _
  · cases h : G ns [] [] cs 0 with
    | inl l =>
      have := go_len ns _ _ _ _ _ _ h
      rw [nm_nil] at this
      simpa using this
    | inr k => exact Nat.zero_le _
set_option maxRecDepth 100000 in
set_option maxHeartbeats 8000000 in
theorem templParses_walk (s : ByteArray) (v : Value) (ns : List Bs) (w : World) (hs : s.size ≤ 1048576) (hN : Nl w v ns) (hn : ns.length ≤ 1048576) (hx : Sx w) :
    Calls Tryd.prog 5 #[.string s, v] w fun e w' => e = .returned (.bool true) ∧ Below w.heap.size w w' := by
  obtain ⟨i0, hi, hz0, hz1, hz2⟩ := info_parts info9
  have KS := hid (speaks_yes w hx)
  have NL := hid hN
  obtain ⟨a, c, rfl, hN⟩ := hN
  have HN := hid hN
  have HX := hid hx
  clear hN hx
  obtain ⟨l, hl⟩ : ∃ l, l = (parseP ns s.data.toList).1 := ⟨_, rfl⟩
  obtain ⟨ec, hec⟩ : ∃ ec, ec = (parseP ns s.data.toList).2.1 := ⟨_, rfl⟩
  obtain ⟨ea, hea⟩ : ∃ ea, ea = (parseP ns s.data.toList).2.2 := ⟨_, rfl⟩
  have KP := hid (fun v w h1 h2 => parse_any s v ns w (by omega) h1 (by omega) h2)
  have KR := hid (fun v w h1 => rparse_any s v ns w hs h1 hn)
  rw [← hl, ← hec, ← hea] at KP KR
  have hll : l.length ≤ 1048576 := by
    rw [hl]
    have := parse_len ns s.data.toList
    rw [size_list] at this
    omega
  clear hl hec hea
  go_enter Tryd.func5, Tryd.ntmps5
  go_wp2_with fail
  refine KS.out.mono ?_
  rintro e w1 ⟨rfl, t1⟩
  have T1 := hid t1
  clear t1 KS
  have X1 := hid (HX.out.new T1.out)
  have N1 := hid (NL.out.new T1.out)
  by_cases hne : ns = []
  · subst hne
    have NV := hid (show Nl (w1.alloc (.cells #[] 9)) (.slice (some ⟨w1.heap.size, 0, none⟩) 0 0) [] from ⟨_, 0, rfl, .inl rfl⟩)
    have T2 := hid (T1.out.alloc (.cells #[] 9))
    clear T1 X1 N1
    cases a with
    | none =>
      go_wp2_with fail
      generalize w1.alloc (.cells #[] 9) = w2 at *
      generalize w1.heap.size = q1 at *
      have KP2 := hid (KP.out _ w2 NV.out (HX.out.new T2.out))
      refine KP2.out.mono ?_
      rintro e w3 ⟨v3, rfl, ow3⟩
      have T3 := hid (T2.out.trans ow3.touch (fun _ _ e => e))
      obtain ⟨a3, c3, hv3, hr3⟩ := ow3.rg
      subst hv3
      have R3 := hid hr3
      clear KP KP2 ow3 hr3 NV
      go_upto_region 4 with fail
      have T4 := hid (T3.out.alloc (.cells #[.int .i64 ec, .int .i64 ea] 27))
      have R4 := hid (R3.out.new ((Touch.refl _ _).alloc (.cells #[.int .i64 ec, .int .i64 ea] 27)))
      have F4 := hid (two_new (w := w3) (.int .i64 ec) (.int .i64 ea) 27)
      generalize w3.alloc (.cells #[.int .i64 ec, .int .i64 ea] 27) = w4 at *
      generalize w3.heap.size = q4 at *
      clear T3 R3 T2
      have KR4 := hid (KR.out (.slice none 0 c) w4 ⟨_, _, rfl, .inl rfl⟩)
      go_wp2_with fail
      refine KR4.out.mono ?_
      rintro e w5 ⟨v5, rfl, ow5⟩
      have T5 := hid (T4.out.trans ow5.touch (fun _ _ e => e))
      have R5 := hid (R4.out.new ow5.touch)
      have F5 := hid ((ow5.touch.block q4 (lt_of_block F4.out) id).trans F4.out)
      obtain ⟨a5, c5, hv5, hr5⟩ := ow5.rg
      subst hv5
      have S5 := hid hr5
      clear KR KR4 ow5 hr5 T4 R4 F4
      have KM := hid (same_any l a3 a5 c3 c5 w5 R5.out S5.out hll)
      go_wp2_with fail
      refine KM.out.mono ?_
      rintro e w6 ⟨rfl, t6⟩
      have T6 := hid (T5.out.trans t6 (fun _ _ e => e))
      have F6 := hid ((t6.block q4 (lt_of_block F5.out) id).trans F5.out)
      clear KM t6 T5 R5 S5 F5
      have f0 := cell_two0 F6.out
      have f1 := cell_two1 F6.out
      go_wp2
      go_ret
      exact ⟨rfl, T6.out.below _ (Nat.le_refl _) (fun _ e => e.elim)⟩
    | some a =>
      go_wp2_with fail
      generalize w1.alloc (.cells #[] 9) = w2 at *
      generalize w1.heap.size = q1 at *
      have KP2 := hid (KP.out _ w2 NV.out (HX.out.new T2.out))
      refine KP2.out.mono ?_
      rintro e w3 ⟨v3, rfl, ow3⟩
      have T3 := hid (T2.out.trans ow3.touch (fun _ _ e => e))
      obtain ⟨a3, c3, hv3, hr3⟩ := ow3.rg
      subst hv3
      have R3 := hid hr3
      clear KP KP2 ow3 hr3 NV
      go_upto_region 4 with fail
      have T4 := hid (T3.out.alloc (.cells #[.int .i64 ec, .int .i64 ea] 27))
      have R4 := hid (R3.out.new ((Touch.refl _ _).alloc (.cells #[.int .i64 ec, .int .i64 ea] 27)))
      have F4 := hid (two_new (w := w3) (.int .i64 ec) (.int .i64 ea) 27)
      generalize w3.alloc (.cells #[.int .i64 ec, .int .i64 ea] 27) = w4 at *
      generalize w3.heap.size = q4 at *
      clear T3 R3 T2
      have KR4 := hid (KR.out (.slice (some a) 0 c) w4 ⟨_, _, rfl, .inl rfl⟩)
      go_wp2_with fail
      refine KR4.out.mono ?_
      rintro e w5 ⟨v5, rfl, ow5⟩
      have T5 := hid (T4.out.trans ow5.touch (fun _ _ e => e))
      have R5 := hid (R4.out.new ow5.touch)
      have F5 := hid ((ow5.touch.block q4 (lt_of_block F4.out) id).trans F4.out)
      obtain ⟨a5, c5, hv5, hr5⟩ := ow5.rg
      subst hv5
      have S5 := hid hr5
      clear KR KR4 ow5 hr5 T4 R4 F4
      have KM := hid (same_any l a3 a5 c3 c5 w5 R5.out S5.out hll)
      go_wp2_with fail
      refine KM.out.mono ?_
      rintro e w6 ⟨rfl, t6⟩
      have T6 := hid (T5.out.trans t6 (fun _ _ e => e))
      have F6 := hid ((t6.block q4 (lt_of_block F5.out) id).trans F5.out)
      clear KM t6 T5 R5 S5 F5
      have f0 := cell_two0 F6.out
      have f1 := cell_two1 F6.out
      go_wp2
      go_ret
      exact ⟨rfl, T6.out.below _ (Nat.le_refl _) (fun _ e => e.elim)⟩
  · obtain ⟨b, o, rfl, hb, hc⟩ : ∃ b o, a = some ⟨b, o, none⟩ ∧ b < w1.heap.size ∧ ∀ j (h : j < ns.length), w1.cell? ⟨b, o + j, none⟩ = some (sv ns[j]) := by
      obtain ⟨a', c', e, h⟩ := N1.out
      cases e
      rcases h with h | h
      · exact absurd h hne
      · exact h
    have HC := hid (show ∀ (j : Nat) (u : Value), (ns.map sv)[j]? = some u → (w1.alloc (.cells #[] 9)).cell? ((⟨b, o, none⟩ : Addr).add j) = some u from by
      intro j u hu
      rw [List.getElem?_map] at hu
      obtain ⟨x, hx, rfl⟩ := Option.map_eq_some_iff.1 hu
      obtain ⟨hj, e⟩ := List.getElem?_eq_some_iff.1 hx
      rw [add_at, ((Touch.refl (fun _ => False) w1).alloc (.cells #[] 9)).cell (p := ⟨b, o + j, none⟩) hb id, hc j hj, e])
    clear hb hc hne
    go_wp2_with (at_builtin; refine wpList_append_own_at _ rfl _ _ 33 rfl 0 9 i0 (.string ⟨#[]⟩) 1 16 Tryd.underlying33 hi hz0 hz1 hz2 rfl (by decide) _ _ _ rfl (own_none w1) ⟨b, o, none⟩ ns.length c (ns.map sv) rfl (by simp) HC.out (by intro u hu; obtain ⟨x, _, rfl⟩ := List.mem_map.1 hu; rfl) (by unfold maxLen; omega) (by omega) (Nat.zero_le _) ?_)
    intro v2 w2 hown hgrow _ hat
    have NV := hid (own_names hown)
    have T2 := hid ((T1.out.alloc (.cells #[] 9)).grown hgrow (fun k e hk => by
      have := T1.out.size
      simp [Value.ownBlock] at e
      omega))
    clear hown hgrow hat HC T1 X1 N1
    obtain ⟨a2, c2, hv2, _⟩ := NV.out
    subst hv2
    have KP2 := hid (KP.out _ w2 NV.out (HX.out.new T2.out))
    go_wp2_with fail
    refine KP2.out.mono ?_
    rintro e w3 ⟨v3, rfl, ow3⟩
    have T3 := hid (T2.out.trans ow3.touch (fun _ _ e => e))
    obtain ⟨a3, c3, hv3, hr3⟩ := ow3.rg
    subst hv3
    have R3 := hid hr3
    clear KP KP2 ow3 hr3 NV
    go_upto_region 4 with fail
    have T4 := hid (T3.out.alloc (.cells #[.int .i64 ec, .int .i64 ea] 27))
    have R4 := hid (R3.out.new ((Touch.refl _ _).alloc (.cells #[.int .i64 ec, .int .i64 ea] 27)))
    have F4 := hid (two_new (w := w3) (.int .i64 ec) (.int .i64 ea) 27)
    generalize w3.alloc (.cells #[.int .i64 ec, .int .i64 ea] 27) = w4 at *
    generalize w3.heap.size = q4 at *
    clear T3 R3 T2
    have KR4 := hid (KR.out _ w4 (NL.out.new T4.out))
    go_wp2_with fail
    refine KR4.out.mono ?_
    rintro e w5 ⟨v5, rfl, ow5⟩
    have T5 := hid (T4.out.trans ow5.touch (fun _ _ e => e))
    have R5 := hid (R4.out.new ow5.touch)
    have F5 := hid ((ow5.touch.block q4 (lt_of_block F4.out) id).trans F4.out)
    obtain ⟨a5, c5, hv5, hr5⟩ := ow5.rg
    subst hv5
    have S5 := hid hr5
    clear KR KR4 ow5 hr5 T4 R4 F4
    have KM := hid (same_any l a3 a5 c3 c5 w5 R5.out S5.out hll)
    go_wp2_with fail
    refine KM.out.mono ?_
    rintro e w6 ⟨rfl, t6⟩
    have T6 := hid (T5.out.trans t6 (fun _ _ e => e))
    have F6 := hid ((t6.block q4 (lt_of_block F5.out) id).trans F5.out)
    clear KM t6 T5 R5 S5 F5
    have f0 := cell_two0 F6.out
    have f1 := cell_two1 F6.out
    go_wp2
    go_ret
    exact ⟨rfl, T6.out.below _ (Nat.le_refl _) (fun _ e => e.elim)⟩
end Go.Proofs.YtnohikoeaepfpaaDoor
