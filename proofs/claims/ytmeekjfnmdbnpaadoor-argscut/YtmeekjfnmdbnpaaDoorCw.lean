/- ArgsCut's walk; condition: the library's variables lie there. -/
import Derived.Test.YtmeekjfnmdbnpaaDoorSk
import Derived.Deep.RegionWith
import Derived.Deep.RegionHeld3
namespace Go.Proofs.YtmeekjfnmdbnpaaDoor
open Go.RowKit
open Go.Lib

theorem add_list (a b : ByteArray) : (a ++ b).data.toList = a.data.toList ++ b.data.toList := by
  simp [ByteArray.data_append]
theorem plain_whole (a b : Bs) (X Y : ByteArray) (hX : X.data.toList = pk a) (hY : Y.data.toList = pk b) (ha : a.length ≤ 9999999) (hb : b.length ≤ 9999999) : un (X ++ Y).data.toList = .ok [a, b] := by
  rw [add_list, hX, hY]
  have := un_pks [a, b] (by intro t ht; simp at ht; rcases ht with rfl | rfl <;> assumption)
  simpa [pks] using this
theorem plain_cut (a b : Bs) (c : Nat) (X Y : ByteArray) (hX : X.data.toList = pk a) (hY : Y.data.toList = pk b) (ha : a.length ≤ 9999999) (hb : b.length ≤ 9999999) (h1 : 1 ≤ c) (h2 : c < Y.size) : un (X ++ Y.extract 0 (Y.size - c)).data.toList = .error X.size := by
  have hYs : Y.size = (pk b).length := by rw [← hY, len_size]
  have hXs : X.size = (pk a).length := by rw [← hX, len_size]
  rw [add_list, ext_list, hX, hY, List.drop_zero, Nat.sub_zero, hXs]
  have hne : (pk b).take (Y.size - c) ≠ [] := by
    intro e
    have := congrArg List.length e
    rw [List.length_take, List.length_nil] at this
    omega
  have hnone : tk ((pk b).take (Y.size - c)) = none := by
    cases hk : tk ((pk b).take (Y.size - c)) with
    | none => rfl
    | some p =>
      exfalso
      obtain ⟨t, r⟩ := p
      obtain ⟨h3, h4⟩ := tk_some hk
      have e1 : pk b = pk t ++ (r ++ (pk b).drop (Y.size - c)) := by
        rw [← List.append_assoc, ← h3, List.take_append_drop]
      have e2 := tk_pk b [] hb
      rw [List.append_nil, e1, tk_pk t _ h4] at e2
      have e3 := congrArg List.length (congrArg Prod.snd (Option.some.inj e2))
      simp only [List.length_append, List.length_drop, List.length_nil] at e3
      omega
  have := un_app_bad [a] ((pk b).take (Y.size - c)) (by intro t ht; simp at ht; subst ht; exact ha) hne hnone
  simpa [pks] using this
set_option maxRecDepth 100000 in
set_option maxHeartbeats 4000000 in
theorem argsCut_walk (a b : ByteArray) (cut : Int) (w : World) (ha : a.size ≤ 140737488351232) (hb : b.size ≤ 140737488351232) (hcb : -9223372036854775808 ≤ cut ∧ cut ≤ 9223372036854775807) (hx : Sx w) :
    Calls Tryd.prog 3 #[.string a, .string b, .int .i64 cut] w fun e w' => e = .returned (.bool true) ∧ Below w.heap.size w w' := by
  have KS := hid (speaks_yes w hx)
  have HX0 := hid hx
  obtain ⟨hcb1, hcb2⟩ := hcb
  go_enter Tryd.func3, Tryd.ntmps3
  go_wp2_with fail
  refine KS.out.mono ?_
  rintro e w1 ⟨rfl, t1⟩
  have T1 := hid t1
  clear t1 hx KS
  by_cases h9 : (9999 : Int) < (a.size : Int) + (b.size : Int)
  · go_wp2
    go_ret
    exact ⟨rfl, T1.out.below _ (Nat.le_refl _) (fun _ e => e.elim)⟩
  · go_wp2_with fail
    have C1 := hid (show (w1.alloc (.cells #[.string a] 9)).cell? ⟨w1.heap.size, 0, none⟩ = some (.string a) from row_new w1 [.string a] 9 0 _ rfl)
    have TA := hid (T1.out.alloc (.cells #[.string a] 9))
    generalize w1.alloc (.cells #[.string a] 9) = wa at *
    generalize w1.heap.size = qa at *
    have K1 := hid (pack_one qa 1 a wa C1.out (HX0.out.new TA.out) (by omega))
    obtain ⟨X, hX, hXs, hXd⟩ := name_ba (pk a.data.toList)
    rw [hX] at K1
    have hXl := pk_short a.data.toList (by rw [len_size]; omega)
    rw [← hXs, len_size] at hXl
    clear hX hXs
    refine K1.out.mono ?_
    rintro e w2 ⟨rfl, t2⟩
    have T2 := hid (TA.out.trans t2 (fun _ _ e => e))
    clear t2 K1 C1 TA T1
    go_wp2_with fail
    have C2 := hid (show (w2.alloc (.cells #[.string b] 9)).cell? ⟨w2.heap.size, 0, none⟩ = some (.string b) from row_new w2 [.string b] 9 0 _ rfl)
    have TB := hid (T2.out.alloc (.cells #[.string b] 9))
    generalize w2.alloc (.cells #[.string b] 9) = wb at *
    generalize w2.heap.size = qb at *
    have K2 := hid (pack_one qb 1 b wb C2.out (HX0.out.new TB.out) (by omega))
    obtain ⟨Y, hY, hYs, hYd⟩ := name_ba (pk b.data.toList)
    rw [hY] at K2
    have hYl := pk_short b.data.toList (by rw [len_size]; omega)
    have hYp := pk_pos b.data.toList
    rw [← hYs] at hYl hYp
    rw [len_size] at hYl
    clear hY hYs
    refine K2.out.mono ?_
    rintro e w3 ⟨rfl, t3⟩
    have T3 := hid (TB.out.trans t3 (fun _ _ e => e))
    clear t3 K2 C2 TB T2
    by_cases h1 : cut < 1
    · obtain ⟨c, hcE⟩ : ∃ c : Nat, c = 1 := ⟨1, rfl⟩
      have hc1 : 1 ≤ c := by omega
      have hc2 : c < Y.size := by omega

      have hsub : (Y.size : Int) - 1 = ((Y.size - c : Nat) : Int) := by omega
      obtain ⟨m, hm⟩ : ∃ m, m = Y.size - c := ⟨_, rfl⟩
      rw [← hm] at hsub
      have hmI : (m : Int) ≤ (Y.size : Int) := by omega
      have P1 := hid (plain_cut a.data.toList b.data.toList c X Y hXd hYd (by rw [len_size]; omega) (by rw [len_size]; omega) hc1 hc2)
      rw [← hm] at P1
      have P2 := hid (plain_whole a.data.toList b.data.toList X Y hXd hYd (by rw [len_size]; omega) (by rw [len_size]; omega))
      have hsz1 : (X ++ Y.extract 0 m).size ≤ 1099511627776 := by rw [ByteArray.size_append, ByteArray.size_extract]; omega
      have hsz2 : (X ++ Y).size ≤ 1099511627776 := by rw [ByteArray.size_append]; omega
      have K4 := hid (unpack_any (X ++ Y.extract 0 m) w3 hsz1 (HX0.out.new T3.out))
      rw [P1.out] at K4
      unfold faE faA okL at K4
      dsimp only at K4
      clear hXd hYd hm hc1 hc2 hcE
      go_wp2_with fail
      refine K4.out.mono ?_
      rintro e w4 ⟨v4, rfl, ow4⟩
      obtain ⟨a4, c4, hv4⟩ := own_shape ow4.own
      subst hv4
      have T4 := hid ((T3.out.trans ow4.touch (fun _ _ e => e)).alloc (.cells #[.int .i64 4, .int .i64 (X.size : Nat)] 27))
      have F4 := hid (two_new (w := w4) (.int .i64 4) (.int .i64 (X.size : Nat)) 27)
      clear ow4 K4
      go_upto_region 9 with fail
      generalize w4.alloc (.cells #[.int .i64 4, .int .i64 (X.size : Nat)] 27) = w5 at *
      generalize w4.heap.size = q4 at *
      have K5 := hid (unpack_any (X ++ Y) w5 hsz2 (HX0.out.new T4.out))
      rw [P2.out] at K5
      unfold faE faA okL at K5
      dsimp only at K5
      go_wp2_with fail
      refine K5.out.mono ?_
      rintro e w6 ⟨v6, rfl, ow6⟩
      obtain ⟨a6, c6, hv6, hn6⟩ := ow6.nl
      subst hv6
      rcases hn6 with hn6 | ⟨g, o, rfl, hg, hcell⟩
      · cases hn6
      have T6 := hid ((T4.out.trans ow6.touch (fun _ _ e => e)).alloc (.cells #[.int .i64 0, .int .i64 0] 27))
      have F6 := hid (two_new (w := w6) (.int .i64 0) (.int .i64 0) 27)
      have F5 := hid (show (w6.alloc (.cells #[.int .i64 0, .int .i64 0] 27)).heap[q4]? = some (.cells #[.int .i64 4, .int .i64 (X.size : Nat)] 27 (0, 0)) from by
        rw [Below.heap_alloc _ _ _ (Nat.lt_of_lt_of_le (lt_of_block F4.out) ow6.touch.size), ow6.touch.block q4 (lt_of_block F4.out) id]
        exact F4.out)
      have G0 := hid (show (w6.alloc (.cells #[.int .i64 0, .int .i64 0] 27)).cell? ⟨g, o, none⟩ = some (.string a) from by
        rw [((Touch.refl (fun _ => False) w6).alloc _).cell (p := ⟨g, o, none⟩) hg id]
        exact hcell 0 (by simp))
      have G1 := hid (show (w6.alloc (.cells #[.int .i64 0, .int .i64 0] 27)).cell? ⟨g, o + 1, none⟩ = some (.string b) from by
        rw [((Touch.refl (fun _ => False) w6).alloc _).cell (p := ⟨g, o + 1, none⟩) hg id]
        exact hcell 1 (by simp))
      clear ow6 K5 hcell hg
      go_upto_region 10 with fail
      generalize w6.alloc (.cells #[.int .i64 0, .int .i64 0] 27) = w7 at *
      generalize w6.heap.size = q6 at *
      have f0 := cell_two0 F5.out
      have f1 := cell_two1 F5.out
      have f2 := cell_two0 F6.out
      have f3 := cell_two1 F6.out
      have g0 := G0.out
      have g1 := G1.out
      clear F4 F5 F6 G0 G1
      go_wp2_with fail
      go_ret
      exact ⟨rfl, T6.out.below _ (Nat.le_refl _) (fun _ e => e.elim)⟩

    by_cases h2 : (Y.size : Int) ≤ cut
    · obtain ⟨c, hcE⟩ : ∃ c : Nat, c = 1 := ⟨1, rfl⟩
      have hc1 : 1 ≤ c := by omega
      have hc2 : c < Y.size := by omega

      have hsub : (Y.size : Int) - 1 = ((Y.size - c : Nat) : Int) := by omega
      obtain ⟨m, hm⟩ : ∃ m, m = Y.size - c := ⟨_, rfl⟩
      rw [← hm] at hsub
      have hmI : (m : Int) ≤ (Y.size : Int) := by omega
      have P1 := hid (plain_cut a.data.toList b.data.toList c X Y hXd hYd (by rw [len_size]; omega) (by rw [len_size]; omega) hc1 hc2)
      rw [← hm] at P1
      have P2 := hid (plain_whole a.data.toList b.data.toList X Y hXd hYd (by rw [len_size]; omega) (by rw [len_size]; omega))
      have hsz1 : (X ++ Y.extract 0 m).size ≤ 1099511627776 := by rw [ByteArray.size_append, ByteArray.size_extract]; omega
      have hsz2 : (X ++ Y).size ≤ 1099511627776 := by rw [ByteArray.size_append]; omega
      have K4 := hid (unpack_any (X ++ Y.extract 0 m) w3 hsz1 (HX0.out.new T3.out))
      rw [P1.out] at K4
      unfold faE faA okL at K4
      dsimp only at K4
      clear hXd hYd hm hc1 hc2 hcE
      go_wp2_with fail
      refine K4.out.mono ?_
      rintro e w4 ⟨v4, rfl, ow4⟩
      obtain ⟨a4, c4, hv4⟩ := own_shape ow4.own
      subst hv4
      have T4 := hid ((T3.out.trans ow4.touch (fun _ _ e => e)).alloc (.cells #[.int .i64 4, .int .i64 (X.size : Nat)] 27))
      have F4 := hid (two_new (w := w4) (.int .i64 4) (.int .i64 (X.size : Nat)) 27)
      clear ow4 K4
      go_upto_region 9 with fail
      generalize w4.alloc (.cells #[.int .i64 4, .int .i64 (X.size : Nat)] 27) = w5 at *
      generalize w4.heap.size = q4 at *
      have K5 := hid (unpack_any (X ++ Y) w5 hsz2 (HX0.out.new T4.out))
      rw [P2.out] at K5
      unfold faE faA okL at K5
      dsimp only at K5
      go_wp2_with fail
      refine K5.out.mono ?_
      rintro e w6 ⟨v6, rfl, ow6⟩
      obtain ⟨a6, c6, hv6, hn6⟩ := ow6.nl
      subst hv6
      rcases hn6 with hn6 | ⟨g, o, rfl, hg, hcell⟩
      · cases hn6
      have T6 := hid ((T4.out.trans ow6.touch (fun _ _ e => e)).alloc (.cells #[.int .i64 0, .int .i64 0] 27))
      have F6 := hid (two_new (w := w6) (.int .i64 0) (.int .i64 0) 27)
      have F5 := hid (show (w6.alloc (.cells #[.int .i64 0, .int .i64 0] 27)).heap[q4]? = some (.cells #[.int .i64 4, .int .i64 (X.size : Nat)] 27 (0, 0)) from by
        rw [Below.heap_alloc _ _ _ (Nat.lt_of_lt_of_le (lt_of_block F4.out) ow6.touch.size), ow6.touch.block q4 (lt_of_block F4.out) id]
        exact F4.out)
      have G0 := hid (show (w6.alloc (.cells #[.int .i64 0, .int .i64 0] 27)).cell? ⟨g, o, none⟩ = some (.string a) from by
        rw [((Touch.refl (fun _ => False) w6).alloc _).cell (p := ⟨g, o, none⟩) hg id]
        exact hcell 0 (by simp))
      have G1 := hid (show (w6.alloc (.cells #[.int .i64 0, .int .i64 0] 27)).cell? ⟨g, o + 1, none⟩ = some (.string b) from by
        rw [((Touch.refl (fun _ => False) w6).alloc _).cell (p := ⟨g, o + 1, none⟩) hg id]
        exact hcell 1 (by simp))
      clear ow6 K5 hcell hg
      go_upto_region 10 with fail
      generalize w6.alloc (.cells #[.int .i64 0, .int .i64 0] 27) = w7 at *
      generalize w6.heap.size = q6 at *
      have f0 := cell_two0 F5.out
      have f1 := cell_two1 F5.out
      have f2 := cell_two0 F6.out
      have f3 := cell_two1 F6.out
      have g0 := G0.out
      have g1 := G1.out
      clear F4 F5 F6 G0 G1
      go_wp2_with fail
      go_ret
      exact ⟨rfl, T6.out.below _ (Nat.le_refl _) (fun _ e => e.elim)⟩

    · obtain ⟨c, rfl⟩ : ∃ c : Nat, cut = (c : Int) := ⟨cut.toNat, by omega⟩
      have hc1 : 1 ≤ c := by omega
      have hc2 : c < Y.size := by omega

      have hsub : (Y.size : Int) - (c : Int) = ((Y.size - c : Nat) : Int) := by omega
      obtain ⟨m, hm⟩ : ∃ m, m = Y.size - c := ⟨_, rfl⟩
      rw [← hm] at hsub
      have hmI : (m : Int) ≤ (Y.size : Int) := by omega
      have P1 := hid (plain_cut a.data.toList b.data.toList c X Y hXd hYd (by rw [len_size]; omega) (by rw [len_size]; omega) hc1 hc2)
      rw [← hm] at P1
      have P2 := hid (plain_whole a.data.toList b.data.toList X Y hXd hYd (by rw [len_size]; omega) (by rw [len_size]; omega))
      have hsz1 : (X ++ Y.extract 0 m).size ≤ 1099511627776 := by rw [ByteArray.size_append, ByteArray.size_extract]; omega
      have hsz2 : (X ++ Y).size ≤ 1099511627776 := by rw [ByteArray.size_append]; omega
      have K4 := hid (unpack_any (X ++ Y.extract 0 m) w3 hsz1 (HX0.out.new T3.out))
      rw [P1.out] at K4
      unfold faE faA okL at K4
      dsimp only at K4
      clear hXd hYd hm hc1 hc2 
      go_wp2_with fail
      refine K4.out.mono ?_
      rintro e w4 ⟨v4, rfl, ow4⟩
      obtain ⟨a4, c4, hv4⟩ := own_shape ow4.own
      subst hv4
      have T4 := hid ((T3.out.trans ow4.touch (fun _ _ e => e)).alloc (.cells #[.int .i64 4, .int .i64 (X.size : Nat)] 27))
      have F4 := hid (two_new (w := w4) (.int .i64 4) (.int .i64 (X.size : Nat)) 27)
      clear ow4 K4
      go_upto_region 9 with fail
      generalize w4.alloc (.cells #[.int .i64 4, .int .i64 (X.size : Nat)] 27) = w5 at *
      generalize w4.heap.size = q4 at *
      have K5 := hid (unpack_any (X ++ Y) w5 hsz2 (HX0.out.new T4.out))
      rw [P2.out] at K5
      unfold faE faA okL at K5
      dsimp only at K5
      go_wp2_with fail
      refine K5.out.mono ?_
      rintro e w6 ⟨v6, rfl, ow6⟩
      obtain ⟨a6, c6, hv6, hn6⟩ := ow6.nl
      subst hv6
      rcases hn6 with hn6 | ⟨g, o, rfl, hg, hcell⟩
      · cases hn6
      have T6 := hid ((T4.out.trans ow6.touch (fun _ _ e => e)).alloc (.cells #[.int .i64 0, .int .i64 0] 27))
      have F6 := hid (two_new (w := w6) (.int .i64 0) (.int .i64 0) 27)
      have F5 := hid (show (w6.alloc (.cells #[.int .i64 0, .int .i64 0] 27)).heap[q4]? = some (.cells #[.int .i64 4, .int .i64 (X.size : Nat)] 27 (0, 0)) from by
        rw [Below.heap_alloc _ _ _ (Nat.lt_of_lt_of_le (lt_of_block F4.out) ow6.touch.size), ow6.touch.block q4 (lt_of_block F4.out) id]
        exact F4.out)
      have G0 := hid (show (w6.alloc (.cells #[.int .i64 0, .int .i64 0] 27)).cell? ⟨g, o, none⟩ = some (.string a) from by
        rw [((Touch.refl (fun _ => False) w6).alloc _).cell (p := ⟨g, o, none⟩) hg id]
        exact hcell 0 (by simp))
      have G1 := hid (show (w6.alloc (.cells #[.int .i64 0, .int .i64 0] 27)).cell? ⟨g, o + 1, none⟩ = some (.string b) from by
        rw [((Touch.refl (fun _ => False) w6).alloc _).cell (p := ⟨g, o + 1, none⟩) hg id]
        exact hcell 1 (by simp))
      clear ow6 K5 hcell hg
      go_upto_region 10 with fail
      generalize w6.alloc (.cells #[.int .i64 0, .int .i64 0] 27) = w7 at *
      generalize w6.heap.size = q6 at *
      have f0 := cell_two0 F5.out
      have f1 := cell_two1 F5.out
      have f2 := cell_two0 F6.out
      have f3 := cell_two1 F6.out
      have g0 := G0.out
      have g1 := G1.out
      clear F4 F5 F6 G0 G1
      go_wp2_with fail
      go_ret
      exact ⟨rfl, T6.out.below _ (Nat.le_refl _) (fun _ e => e.elim)⟩

end Go.Proofs.YtmeekjfnmdbnpaaDoor
