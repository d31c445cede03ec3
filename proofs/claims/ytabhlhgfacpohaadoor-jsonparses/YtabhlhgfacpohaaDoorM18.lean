/- Texts of this proof, one behind the other: what each says stands ahead of it. -/
import Derived.Test.YtabhlhgfacpohaaDoorM15
import Derived.Test.YtabhlhgfacpohaaDoorM17
import Derived.Test.YtabhlhgfacpohaaDoorM10
/- The document's Quote: it is the same text; condition: the text has at most 1048576 bytes. -/
namespace Go.Proofs.YtabhlhgfacpohaaDoor
open Go.RowKit
open Go.Lib

theorem rdecX (s : ByteArray) (hs : s.size ≤ 1099511627000) (w : World) : Calls Tryd.prog 22 #[.string (xs s), .int .i64 1, .bool false] w fun e w' =>
    ∃ g c a2 n2 c2 bad, e = .returned (.tuple #[.agg #[.int .i64 1, .int .i64 (bad : Nat), .slice (some ⟨g, 0, none⟩) ((scs s).length + 1) c, .slice a2 n2 c2], .int .i64 0, .int .i64 0]) ∧
      Touch (fun _ => False) w w' ∧ g < w'.heap.size ∧ (∀ i x, (scs s)[i]? = some x → w'.cell? ⟨g, i + 1, none⟩ = some (.int .i64 (x : Nat))) := by
  have k := rdecode_any (xs s) 1 false w (by rw [xs_size]; omega) (by decide)
  rw [xs_bg] at k
  refine k.mono ?_
  intro e w' h
  rcases h with ⟨i, h1, _⟩ | ⟨_, h2⟩
  · rw [dc_loose] at h1
    cases h1
  · obtain ⟨v1, v2, he, o1, o2⟩ := h2.ex
    rw [show (((1 : Nat), (0 : Nat)).1) = 1 from rfl, show (((1 : Nat), (0 : Nat)).2) = 0 from rfl] at he o1 o2
    rw [dc_sc, List.nil_append, scF_x] at o1
    have hl : (120 :: scF (xs s) s.size 1).length = (scs s).length + 1 := by unfold scs; simp
    obtain ⟨a2, c2, rfl⟩ := own_shape o2.own
    rcases o1.own.2 with ⟨_, h0⟩ | ⟨g, cap, cur, hv, hg, hh, hcap, rest⟩
    · rw [hl] at h0
      omega
    · rw [hv] at he
      rw [hl] at he
      refine ⟨g, cap, a2, _, c2, _, he, o1.touch, lt_of_block hh, ?_⟩
      intro i x hx
      have h1 : (120 :: scF (xs s) s.size 1)[i + 1]? = some (x : Int) := by
        rw [List.getElem?_cons_succ]
        unfold scs at hx
        rw [List.getElem?_map] at hx
        cases hy : (scF (xs s) s.size 1)[i]? with
        | none => rw [hy] at hx; cases hx
        | some y =>
          rw [hy] at hx
          have := scF_in (xs s) s.size 1 y (List.mem_of_getElem? hy)
          cases hx
          rw [Int.toNat_of_nonneg this]
      have h2 := o1.own.cells (g := g) (by rw [hv]; rfl) (i + 1) (.int .i64 (x : Int)) (by unfold encI; rw [List.getElem?_map, h1]; rfl)
      rwa [add_g] at h2
theorem scF_is (s : ByteArray) : ∀ k i, scF s k i = scC s 1 k i
  | 0, _ => rfl
  | k + 1, i => by rw [scF, scC, scF_is s k]
theorem scs_sc (s : ByteArray) : ∀ x ∈ scs s, isSc x := by
  intro x hx
  unfold scs at hx
  obtain ⟨y, hy, rfl⟩ := List.mem_map.1 hx
  rw [scF_is] at hy
  exact (sc_is (scC_ok _ 1 (by omega) _ _ y hy)).1
theorem quot_lit (w : World) : OB (w.alloc (.cells #[.int .u8 34] 5)) (.slice (some ⟨w.heap.size, 0, none⟩) 1 1) [34] := by
  have := World.ownsRow_lit (base := 0) (e := 5) (size := 1) w #[.int .u8 34] 1 (Nat.zero_le _) (by unfold maxLen; omega) rfl
  exact this
theorem str_ub (x : Nat) (h : isSc x) : strOfNums (enc 1 (x : Int)) = ⟨(ub x).toArray⟩ := by
  rw [enc1, en8_ub x h]
  unfold strOfNums
  simp
  conv => rhs; rw [← List.map_id (ub x)]
  exact List.map_congr_left (fun b _ => by simp)
theorem index_hexs (x : Nat) (hx : x < 16) (w : World) : (Instr.index 9 (.string ⟨#[48, 49, 50, 51, 52, 53, 54, 55, 56, 57, 97, 98, 99, 100, 101, 102]⟩) (.int .i64 (x : Nat))).run Tryd.prog w = .ok (.int .u8 ((hexL.getD x 0).toNat : Int)) w := by
  rw [index_hex x hx w, hex_at x hx]
theorem qo_cases (x : Nat) : (x = 34 ∧ qo x = [92, 34]) ∨ (x = 92 ∧ qo x = [92, 92]) ∨ (x = 8 ∧ qo x = [92, 98]) ∨ (x = 9 ∧ qo x = [92, 116]) ∨ (x = 10 ∧ qo x = [92, 110]) ∨ (x = 12 ∧ qo x = [92, 102]) ∨ (x = 13 ∧ qo x = [92, 114]) ∨
    ((x ≠ 34 ∧ x ≠ 92 ∧ x ≠ 8 ∧ x ≠ 9 ∧ x ≠ 10 ∧ x ≠ 12 ∧ x ≠ 13) ∧ qo x = if x < 32 then [92, 117, 48, 48, hexL.getD (x / 16) 0, hexL.getD (x % 16) 0] else ub x) := by
  by_cases h1 : x = 34
  · subst h1; exact .inl ⟨rfl, rfl⟩
  by_cases h2 : x = 92
  · subst h2; exact .inr (.inl ⟨rfl, rfl⟩)
  by_cases h3 : x = 8
  · subst h3; exact .inr (.inr (.inl ⟨rfl, rfl⟩))
  by_cases h4 : x = 9
  · subst h4; exact .inr (.inr (.inr (.inl ⟨rfl, rfl⟩)))
  by_cases h5 : x = 10
  · subst h5; exact .inr (.inr (.inr (.inr (.inl ⟨rfl, rfl⟩))))
  by_cases h6 : x = 12
  · subst h6; exact .inr (.inr (.inr (.inr (.inr (.inl ⟨rfl, rfl⟩)))))
  by_cases h7 : x = 13
  · subst h7; exact .inr (.inr (.inr (.inr (.inr (.inr (.inl ⟨rfl, rfl⟩))))))
  refine .inr (.inr (.inr (.inr (.inr (.inr (.inr ⟨⟨h1, h2, h3, h4, h5, h6, h7⟩, ?_⟩))))))
  have he : escB x = none := by
    unfold escB
    rw [if_neg h1, if_neg h2, if_neg h3, if_neg h6, if_neg h5, if_neg h7, if_neg h4]
  unfold qo
  rw [he]
theorem take_qo (rs : List Nat) (k x : Nat) (h : rs[k]? = some x) : 34 :: (rs.take (k + 1)).flatMap qo = 34 :: (rs.take k).flatMap qo ++ qo x := by
  rw [List.take_add_one, h]
  simp
set_option maxRecDepth 100000 in
set_option maxHeartbeats 16000000 in
theorem rquote_any (s : ByteArray) (w : World) (hs : s.size ≤ 1048576) :
    Calls Tryd.prog 12 #[.string s] w fun e w' => e = .returned (.string (quS (scs s))) ∧ Touch (fun _ => False) w w' := by
  obtain ⟨i0, hi5, hz0, hz1, hz2⟩ := info_parts info5b
  have K1 := hid (rdecX s (by omega) w)
  have hR := scs_len s
  have HSC := hid (scs_sc s)
  have HQ := hid (show quS (scs s) = ⟨(34 :: ((scs s).flatMap qo ++ [34])).toArray⟩ from rfl)
  generalize quS (scs s) = Z at *
  generalize scs s = rs at *
  unfold xs at K1
  obtain ⟨R, hRR⟩ : ∃ R, rs.length = R := ⟨_, rfl⟩
  rw [hRR] at K1 hR
  have HR := hid hRR
  clear hRR
  go_enter Tryd.func12, Tryd.ntmps12
  go_wp2_with fail
  refine K1.out.mono ?_
  rintro e w2 ⟨g, cg, a2, n2, c2, bad, rfl, tt, hg2, hcell⟩
  have T2 := hid tt
  have HG := hid hg2
  have HC := hid hcell
  clear K1 tt hg2 hcell
  go_upto_region 2 with fail
  have TA := (Touch.refl (fun _ => False) w2).alloc (.cells #[.int .i64 1, .int .i64 (bad : Nat), .slice (some ⟨g, 0, none⟩) (R + 1) cg, .slice a2 n2 c2] 57)
  have B3 := hid (jfour_new (w := w2) (.int .i64 1) (.int .i64 (bad : Nat)) (.slice (some ⟨g, 0, none⟩) (R + 1) cg) (.slice a2 n2 c2) 57)
  have T3 := hid (T2.out.trans TA (fun _ _ e => e))
  have C3 := hid (fun i x (h : rs[i]? = some x) => (TA.cell (p := ⟨g, i + 1, none⟩) HG.out id).trans (HC.out i x h))
  have HG3 := hid (Nat.lt_of_lt_of_le HG.out TA.size)
  clear TA T2 HC HG
  generalize w2.alloc (.cells #[.int .i64 1, .int .i64 (bad : Nat), .slice (some ⟨g, 0, none⟩) (R + 1) cg, .slice a2 n2 c2] 57) = w3 at *
  generalize w2.heap.size = q at *
  have QL := hid (quot_lit w3)
  have TL := hid ((Touch.refl (fun _ => False) w3).alloc (.cells #[.int .u8 34] 5))
  go_wp2_with fail
  go_loopg [7, 8] R (fun gk v7 v8 wq => ∃ (k : Nat) (a : Option Addr) (n c : Nat), v7 = .slice a n c ∧ k + gk = R ∧ v8 = .int .i64 ((k : Int) + 1) ∧ n ≤ 6 * k + 1 ∧ Hid ((34 :: (rs.take k).flatMap qo : Bs).length = n) ∧ Hid (OB wq (.slice a n c) (34 :: (rs.take k).flatMap qo)) ∧ Hid (∀ g', (Value.slice a n c).ownBlock = some g' → w3.heap.size ≤ g') ∧ Hid (Touch (fun _ => False) w3 wq))
  case atStart => exact ⟨0, _, _, _, rfl, by omega, rfl, by omega, hid rfl, QL, hid (fun g' e => by cases e; exact Nat.le_refl _), TL⟩
  case round =>
    obtain ⟨k, a, n, c, rfl, hk, rfl, hn, HL, OK, NK, TK⟩ := hrel
    clear QL TL
    have BK := hid ((TK.out.block q (lt_of_block B3.out) id).trans B3.out)
    obtain ⟨⟨_, _, z2, _⟩, _⟩ := cells4 BK.out
    by_cases hlt : k < R
    · obtain ⟨x, hx⟩ : ∃ x, rs[k]? = some x := ⟨rs[k]'(by have := HR.out; omega), List.getElem?_eq_getElem _⟩
      have hltI : (k : Int) + 1 < (R : Int) + 1 := by omega
      have ck : wr.cell? ⟨g, k + 1, none⟩ = some (.int .i64 (x : Nat)) := (TK.out.cell (p := ⟨g, k + 1, none⟩) HG3.out id).trans (C3.out k x hx)
      have hkn : ((k : Int) + 1).toNat = k + 1 := by omega
      have hk0 : (0 : Int) ≤ (k : Int) + 1 := by omega
      have hsc := HSC.out x (List.mem_of_getElem? hx)
      have hxm : (x : Int) ≤ 1114111 := by unfold isSc at hsc; omega
      have KB := hid (fun w' => by
        have := bytes_any 1 (by omega) (x : Int) (by unfold isSc at hsc; unfold okc; rw [show scB (x : Int) = true from (scB_iff _).2 (by omega)]; rfl) w'
        rw [str_ub x hsc] at this
        exact this)
      have HT := hid (take_qo rs k x hx)
      obtain ⟨O, hO⟩ : ∃ O : Bs, O = 34 :: (rs.take k).flatMap qo := ⟨_, rfl⟩
      rw [← hO] at OK HL HT
      clear hO
      have OW := hid (show wr.ownsRow 0 5 1 (.slice a n c) n (bv O) from by
        have := OK.out
        unfold OB at this
        rw [HL.out] at this
        exact this)
      have HQL := hid (qo_len x)
      have RO := hid (show ∀ v' w', Grew wr w' (.slice a n c) v' (O ++ qo x) → ∃ a6 n6 c6, v' = .slice a6 n6 c6 ∧ ∃ (k' : Nat) (a : Option Addr) (n c : Nat), Value.slice a6 n6 c6 = .slice a n c ∧ k' + (gk - 1) = R ∧ Value.int .i64 ((k : Int) + 1 + 1) = .int .i64 ((k' : Int) + 1) ∧ n ≤ 6 * k' + 1 ∧ Hid ((34 :: (rs.take k').flatMap qo : Bs).length = n) ∧ Hid (OB w' (.slice a n c) (34 :: (rs.take k').flatMap qo)) ∧ Hid (∀ g', (Value.slice a n c).ownBlock = some g' → w3.heap.size ≤ g') ∧ Hid (Touch (fun _ => False) w3 w') from by
        intro v' w' G
        obtain ⟨a6, c6, hv6⟩ := own_shape G.own
        refine ⟨a6, _, c6, hv6, k + 1, a6, _, c6, rfl, by omega, by rw [Int.natCast_add]; rfl, ?_, ?_, ?_, ?_, ?_⟩
        · rw [List.length_append, HL.out]
          have := HQL.out
          omega
        · rw [HT.out]
          exact hid rfl
        · rw [HT.out, ← hv6]
          exact hid G.own
        · refine hid (fun g' e => ?_)
          rw [← hv6] at e
          rcases G.pos with e2 | ⟨g2, e2, h2⟩
          · exact NK.out g' (by rw [← e2]; exact e)
          · rw [e2] at e
            cases e
            exact Nat.le_trans TK.out.size h2
        · exact hid (TK.out.trans G.touch (fun i hi e => by have := NK.out i e; omega)))
      have hqc := qo_cases x
      have HX := hid hx
      clear hx hsc
      rcases hqc with ⟨hx, hqx⟩ | ⟨hx, hqx⟩ | ⟨hx, hqx⟩ | ⟨hx, hqx⟩ | ⟨hx, hqx⟩ | ⟨hx, hqx⟩ | ⟨hx, hqx⟩ | ⟨⟨x1, x2, x3, x4, x5, x6, x7⟩, hqx⟩
      · subst hx
        go_wp2_with (at_builtin; (refine wpList_append_own_at _ rfl _ _ 53 rfl 0 5 i0 (.int .u8 0) 1 1 Tryd.underlying53 hi5 hz0 hz1 hz2 rfl (by decide) _ _ _ rfl (OW.out.alloc _) ⟨wr.heap.size, 0, none⟩ 1 1 [.int .u8 92] rfl rfl (row_new wr [.int .u8 92] 5) (by intro u hu; simp at hu; subst hu; rfl) (by unfold maxLen; omega) (by omega) (Nat.zero_le _) ?_))
        intro v' w5 hown hgrow _ hat
        have G5 := hid (grew_of (m := [92]) (l := O) (by rw [HL.out]; exact hown) hgrow hat)
        clear hown hgrow hat OW
        obtain ⟨a5, c5, hv5⟩ := own_shape G5.out.own
        rw [List.length_append, HL.out, List.length_singleton] at hv5
        subst hv5
        have OW5 := hid (show w5.ownsRow 0 5 1 (.slice a5 (n + 1) c5) (n + 1) (bv (O ++ [92])) from by
          have := G5.out.own
          unfold OB at this
          rw [List.length_append, HL.out, List.length_singleton] at this
          exact this)
        have HL5 := hid (show (O ++ [92]).length = n + 1 from by rw [List.length_append, HL.out, List.length_singleton])
        go_wp2_with (at_builtin; (refine wpList_append_own_at _ rfl _ _ 53 rfl 0 5 i0 (.int .u8 0) 1 1 Tryd.underlying53 hi5 hz0 hz1 hz2 rfl (by decide) _ _ _ rfl (OW5.out.alloc _) ⟨w5.heap.size, 0, none⟩ 1 1 [.int .u8 34] rfl rfl (row_new w5 [.int .u8 34] 5) (by intro u hu; simp at hu; subst hu; rfl) (by unfold maxLen; omega) (by omega) (Nat.zero_le _) ?_))
        intro v' w6 hown hgrow _ hat
        have G6 := hid (G5.out.trans (grew_of (m := [34]) (l := O ++ [92]) (by rw [HL5.out]; exact hown) hgrow hat))
        rw [List.append_assoc] at G6
        clear hown hgrow hat OW5
        have G7 := hid (show Grew wr w6 (.slice a n c) v' (O ++ qo 34) from by rw [hqx]; exact G6.out)
        obtain ⟨a6, n6, c6, rfl, RR⟩ := RO.out v' w6 G7.out
        go_wp2
        go_roundg (gk - 1)
        case measure => omega
        case rel => exact RR
      · subst hx
        go_wp2_with (at_builtin; (refine wpList_append_own_at _ rfl _ _ 53 rfl 0 5 i0 (.int .u8 0) 1 1 Tryd.underlying53 hi5 hz0 hz1 hz2 rfl (by decide) _ _ _ rfl (OW.out.alloc _) ⟨wr.heap.size, 0, none⟩ 1 1 [.int .u8 92] rfl rfl (row_new wr [.int .u8 92] 5) (by intro u hu; simp at hu; subst hu; rfl) (by unfold maxLen; omega) (by omega) (Nat.zero_le _) ?_))
        intro v' w5 hown hgrow _ hat
        have G5 := hid (grew_of (m := [92]) (l := O) (by rw [HL.out]; exact hown) hgrow hat)
        clear hown hgrow hat OW
        obtain ⟨a5, c5, hv5⟩ := own_shape G5.out.own
        rw [List.length_append, HL.out, List.length_singleton] at hv5
        subst hv5
        have OW5 := hid (show w5.ownsRow 0 5 1 (.slice a5 (n + 1) c5) (n + 1) (bv (O ++ [92])) from by
          have := G5.out.own
          unfold OB at this
          rw [List.length_append, HL.out, List.length_singleton] at this
          exact this)
        have HL5 := hid (show (O ++ [92]).length = n + 1 from by rw [List.length_append, HL.out, List.length_singleton])
        go_wp2_with (at_builtin; (refine wpList_append_own_at _ rfl _ _ 53 rfl 0 5 i0 (.int .u8 0) 1 1 Tryd.underlying53 hi5 hz0 hz1 hz2 rfl (by decide) _ _ _ rfl (OW5.out.alloc _) ⟨w5.heap.size, 0, none⟩ 1 1 [.int .u8 92] rfl rfl (row_new w5 [.int .u8 92] 5) (by intro u hu; simp at hu; subst hu; rfl) (by unfold maxLen; omega) (by omega) (Nat.zero_le _) ?_))
        intro v' w6 hown hgrow _ hat
        have G6 := hid (G5.out.trans (grew_of (m := [92]) (l := O ++ [92]) (by rw [HL5.out]; exact hown) hgrow hat))
        rw [List.append_assoc] at G6
        clear hown hgrow hat OW5
        have G7 := hid (show Grew wr w6 (.slice a n c) v' (O ++ qo 92) from by rw [hqx]; exact G6.out)
        obtain ⟨a6, n6, c6, rfl, RR⟩ := RO.out v' w6 G7.out
        go_wp2
        go_roundg (gk - 1)
        case measure => omega
        case rel => exact RR
      · subst hx
        go_wp2_with (at_builtin; (refine wpList_append_own_at _ rfl _ _ 53 rfl 0 5 i0 (.int .u8 0) 1 1 Tryd.underlying53 hi5 hz0 hz1 hz2 rfl (by decide) _ _ _ rfl (OW.out.alloc _) ⟨wr.heap.size, 0, none⟩ 2 2 [.int .u8 92, .int .u8 98] rfl rfl (row_new wr [.int .u8 92, .int .u8 98] 5) (by intro u hu; simp at hu; rcases hu with rfl | rfl <;> rfl) (by unfold maxLen; omega) (by omega) (Nat.zero_le _) ?_))
        intro v' w5 hown hgrow _ hat
        have G5 := hid (grew_of (m := [92, 98]) (l := O) (by rw [HL.out]; exact hown) hgrow hat)
        clear hown hgrow hat OW
        rw [← hqx] at G5
        obtain ⟨a6, n6, c6, rfl, RR⟩ := RO.out v' w5 G5.out
        go_wp2
        go_roundg (gk - 1)
        case measure => omega
        case rel => exact RR
      · subst hx
        go_wp2_with (at_builtin; (refine wpList_append_own_at _ rfl _ _ 53 rfl 0 5 i0 (.int .u8 0) 1 1 Tryd.underlying53 hi5 hz0 hz1 hz2 rfl (by decide) _ _ _ rfl (OW.out.alloc _) ⟨wr.heap.size, 0, none⟩ 2 2 [.int .u8 92, .int .u8 116] rfl rfl (row_new wr [.int .u8 92, .int .u8 116] 5) (by intro u hu; simp at hu; rcases hu with rfl | rfl <;> rfl) (by unfold maxLen; omega) (by omega) (Nat.zero_le _) ?_))
        intro v' w5 hown hgrow _ hat
        have G5 := hid (grew_of (m := [92, 116]) (l := O) (by rw [HL.out]; exact hown) hgrow hat)
        clear hown hgrow hat OW
        rw [← hqx] at G5
        obtain ⟨a6, n6, c6, rfl, RR⟩ := RO.out v' w5 G5.out
        go_wp2
        go_roundg (gk - 1)
        case measure => omega
        case rel => exact RR
      · subst hx
        go_wp2_with (at_builtin; (refine wpList_append_own_at _ rfl _ _ 53 rfl 0 5 i0 (.int .u8 0) 1 1 Tryd.underlying53 hi5 hz0 hz1 hz2 rfl (by decide) _ _ _ rfl (OW.out.alloc _) ⟨wr.heap.size, 0, none⟩ 2 2 [.int .u8 92, .int .u8 110] rfl rfl (row_new wr [.int .u8 92, .int .u8 110] 5) (by intro u hu; simp at hu; rcases hu with rfl | rfl <;> rfl) (by unfold maxLen; omega) (by omega) (Nat.zero_le _) ?_))
        intro v' w5 hown hgrow _ hat
        have G5 := hid (grew_of (m := [92, 110]) (l := O) (by rw [HL.out]; exact hown) hgrow hat)
        clear hown hgrow hat OW
        rw [← hqx] at G5
        obtain ⟨a6, n6, c6, rfl, RR⟩ := RO.out v' w5 G5.out
        go_wp2
        go_roundg (gk - 1)
        case measure => omega
        case rel => exact RR
      · subst hx
        go_wp2_with (at_builtin; (refine wpList_append_own_at _ rfl _ _ 53 rfl 0 5 i0 (.int .u8 0) 1 1 Tryd.underlying53 hi5 hz0 hz1 hz2 rfl (by decide) _ _ _ rfl (OW.out.alloc _) ⟨wr.heap.size, 0, none⟩ 2 2 [.int .u8 92, .int .u8 102] rfl rfl (row_new wr [.int .u8 92, .int .u8 102] 5) (by intro u hu; simp at hu; rcases hu with rfl | rfl <;> rfl) (by unfold maxLen; omega) (by omega) (Nat.zero_le _) ?_))
        intro v' w5 hown hgrow _ hat
        have G5 := hid (grew_of (m := [92, 102]) (l := O) (by rw [HL.out]; exact hown) hgrow hat)
        clear hown hgrow hat OW
        rw [← hqx] at G5
        obtain ⟨a6, n6, c6, rfl, RR⟩ := RO.out v' w5 G5.out
        go_wp2
        go_roundg (gk - 1)
        case measure => omega
        case rel => exact RR
      · subst hx
        go_wp2_with (at_builtin; (refine wpList_append_own_at _ rfl _ _ 53 rfl 0 5 i0 (.int .u8 0) 1 1 Tryd.underlying53 hi5 hz0 hz1 hz2 rfl (by decide) _ _ _ rfl (OW.out.alloc _) ⟨wr.heap.size, 0, none⟩ 2 2 [.int .u8 92, .int .u8 114] rfl rfl (row_new wr [.int .u8 92, .int .u8 114] 5) (by intro u hu; simp at hu; rcases hu with rfl | rfl <;> rfl) (by unfold maxLen; omega) (by omega) (Nat.zero_le _) ?_))
        intro v' w5 hown hgrow _ hat
        have G5 := hid (grew_of (m := [92, 114]) (l := O) (by rw [HL.out]; exact hown) hgrow hat)
        clear hown hgrow hat OW
        rw [← hqx] at G5
        obtain ⟨a6, n6, c6, rfl, RR⟩ := RO.out v' w5 G5.out
        go_wp2
        go_roundg (gk - 1)
        case measure => omega
        case rel => exact RR
      · have y1 : ((x : Int) == 34) = false := by simp; omega
        have y2 : ((x : Int) == 92) = false := by simp; omega
        have y3 : ((x : Int) == 8) = false := by simp; omega
        have y4 : ((x : Int) == 9) = false := by simp; omega
        have y5 : ((x : Int) == 10) = false := by simp; omega
        have y6 : ((x : Int) == 12) = false := by simp; omega
        have y7 : ((x : Int) == 13) = false := by simp; omega
        clear x1 x2 x3 x4 x5 x6 x7
        by_cases h32 : x < 32
        · rw [if_pos h32] at hqx
          have h32I : (x : Int) < 32 := by omega
          have ix1 : ∀ w, (Instr.index 9 (.string ⟨#[48, 49, 50, 51, 52, 53, 54, 55, 56, 57, 97, 98, 99, 100, 101, 102]⟩) (.int .i64 ((x : Int) % 16))).run Tryd.prog w = .ok (.int .u8 ((hexL.getD (x % 16) 0).toNat : Int)) w := fun w => index_hexs (x % 16) (by omega) w
          have ix0 : ∀ w, (Instr.index 9 (.string ⟨#[48, 49, 50, 51, 52, 53, 54, 55, 56, 57, 97, 98, 99, 100, 101, 102]⟩) (.int .i64 ((x : Int) / 16))).run Tryd.prog w = .ok (.int .u8 ((hexL.getD (x / 16) 0).toNat : Int)) w := fun w => index_hexs (x / 16) (by omega) w
          have hw16 : IntKind.i64.wrap ((x : Int) / 16) = (x : Int) / 16 := wrap_small _ (by omega) (by omega)
          have hm16 : (x : Int).tmod 16 = (x : Int) % 16 := Int.tmod_eq_emod_of_nonneg (by omega)
          generalize hexL.getD (x / 16) 0 = d1 at *
          generalize hexL.getD (x % 16) 0 = d2 at *
          go_upto_region 10 with fail
          go_wp2_with fail
          go_region_law ((refine step_append_own _ (by rfl) _ _ _ (by rfl) 0 5 i0 _ 1 1 Tryd.underlying53 hi5 hz0 hz1 hz2 rfl (by decide) _ _ _ (by rfl) ((OW.out.alloc _).drew) ⟨wr.heap.size, 0, none⟩ 6 6 [.int .u8 92, .int .u8 117, .int .u8 48, .int .u8 48, .int .u8 (d1.toNat : Int), .int .u8 (d2.toNat : Int)] (by rfl) (by rfl) (row_new wr [.int .u8 92, .int .u8 117, .int .u8 48, .int .u8 48, .int .u8 (d1.toNat : Int), .int .u8 (d2.toNat : Int)] 5) (by intro u hu; simp at hu; rcases hu with rfl | rfl | rfl | rfl | rfl | rfl <;> rfl) (by unfold maxLen; omega) (by omega) (Nat.zero_le _) (wr.heap.size + 1) (by show (wr.heap.push _).size = _; simp) ?_; intro v' w2 hown hgrow hat))
          all_goals
            have G5 := hid (grew_of (w := wr) (v := .slice a n c) (o := .cells #[.int .u8 92, .int .u8 117, .int .u8 48, .int .u8 48, .int .u8 (d1.toNat : Int), .int .u8 (d2.toNat : Int)] 5) (m := [92, 117, 48, 48, d1, d2]) (l := O) (by rw [HL.out]; exact hown) ⟨hgrow.os, hgrow.tape, hgrow.output, hgrow.size, hgrow.block⟩ hat)
            clear hown hgrow hat
            rw [← hqx] at G5
            obtain ⟨a6, n6, c6, rfl, RR⟩ := RO.out v' w2 G5.out
            go_wp2
            go_roundg (gk - 1)
            case measure => omega
            case rel => exact RR
        · rw [if_neg h32] at hqx
          have h32I : ¬ (x : Int) < 32 := by omega
          go_wp2_with fail
          refine (KB.out _).mono ?_
          rintro e w5 ⟨rfl, tt⟩
          have TB := hid tt
          have O5 := hid (show w5.ownsRow 0 5 1 (.slice a n c) n (bv O) from by
            have := OK.out.kept tt (fun _ _ e => e)
            unfold OB at this
            rw [HL.out] at this
            exact this)
          clear tt KB OW
          have hus : (⟨(ub x).toArray⟩ : ByteArray).size ≤ 6 := by
            show (ub x).toArray.size ≤ 6
            rw [List.size_toArray]
            exact ub_len x
          go_wp2_with (at_builtin; (refine wpList_append_str_at rfl _ _ 53 9 rfl 5 i0 Tryd.underlying53 Tryd.underlying9 hi5 hz0 hz1 hz2 _ _ _ rfl O5.out ⟨(ub x).toArray⟩ rfl (by unfold maxLen; omega) (by omega) ?_))
          intro v' w6 hown hgrow hat
          have G5 := hid (Grew.from TB.out (grew_str (l := O) (m := ub x) (by
            rw [HL.out, ← show (⟨(ub x).toArray⟩ : ByteArray).size = (ub x).length from by show (ub x).toArray.size = _; rw [List.size_toArray]]
            have := hown
            rw [str_bv] at this
            exact this) hgrow hat))
          clear hown hgrow hat
          rw [← hqx] at G5
          obtain ⟨a6, n6, c6, rfl, RR⟩ := RO.out v' w6 G5.out
          go_wp2
          go_roundg (gk - 1)
          case measure => omega
          case rel => exact RR
    · have hltI : ¬ ((k : Int) + 1 < (R : Int) + 1) := by omega
      have HF := hid (show OB wr (.slice a n c) (34 :: rs.flatMap qo) from by
        have := OK.out
        rw [List.take_of_length_le (by have := HR.out; omega)] at this
        exact this)
      have HLF := hid (show (34 :: rs.flatMap qo : Bs).length = n from by
        have := HL.out
        rw [List.take_of_length_le (by have := HR.out; omega)] at this
        exact this)
      have OW := hid (show wr.ownsRow 0 5 1 (.slice a n c) n (bv (34 :: rs.flatMap qo)) from by
        have := HF.out
        unfold OB at this
        rw [HLF.out] at this
        exact this)
      clear OK HL HF
      go_wp2_with (at_builtin; (refine wpList_append_own_at _ rfl _ _ 53 rfl 0 5 i0 (.int .u8 0) 1 1 Tryd.underlying53 hi5 hz0 hz1 hz2 rfl (by decide) _ _ _ rfl (OW.out.alloc _) ⟨wr.heap.size, 0, none⟩ 1 1 [.int .u8 34] rfl rfl (row_new wr [.int .u8 34] 5) (by intro u hu; simp at hu; subst hu; rfl) (by unfold maxLen; omega) (by omega) (Nat.zero_le _) ?_))
      intro v' w5 hown hgrow _ hat
      have G5 := hid (grew_of (m := [34]) (l := 34 :: rs.flatMap qo) (by rw [HLF.out]; exact hown) hgrow hat)
      clear hown hgrow hat OW
      have hconv := G5.out.own.conv
      have HZ := hid (show (⟨(34 :: rs.flatMap qo ++ [34]).toArray⟩ : ByteArray) = Z from by rw [HQ.out]; rfl)
      rw [HZ.out] at hconv
      have T5 := hid (T3.out.trans (TK.out.trans (S := fun _ => False) G5.out.touch (fun i hi e => by have := NK.out i e; omega)) (fun _ _ e => e))
      go_wp2
      go_ret
      exact ⟨rfl, T5.out⟩
end Go.Proofs.YtabhlhgfacpohaaDoor

/- Encode in UTF-8 of the numbers behind a first one; conditions: those told. -/
namespace Go.Proofs.YtabhlhgfacpohaaDoor
open Go.RowKit
open Go.Lib
/-- Numbers that lie from the second cell of a block on. -/
def Ig1 (w : World) (a : Option Addr) (e : List Int) : Prop := ∃ b, a = some ⟨b, 1, none⟩ ∧ b < w.heap.size ∧ ∀ i (h : i < e.length), w.cell? ⟨b, 1 + i, none⟩ = some (.int .i64 e[i])
set_option maxRecDepth 100000 in
set_option maxHeartbeats 8000000 in
theorem encode_1o (a : Option Addr) (k : Nat) (l : List Int) (mark : Bool) (w : World) (ht : Tabs w) (hl : l = [] ∨ Ig1 w a l) (hb : l.length ≤ 1048576) :
    Calls Tryd.prog 14 #[.slice a l.length k, .int .i64 1, .bool mark] w fun e w' => e = .returned (encR 1 mark l) ∧ Touch (fun _ => False) w w' := by
  have O := hid (Ob.start w)
  have T := hid ((Touch.refl (fun _ => False) w).alloc (.cells #[.slice none 0 0] 53))
  have HT := hid ht
  have HL := hid hl
  clear ht hl
  go_enter Tryd.func14, Tryd.ntmps14
  go_upto_region 4 with fail
  generalize (w.alloc (.cells #[.slice none 0 0] 53)) = w1 at *
  obtain ⟨q, hq⟩ : ∃ q, q = w.heap.size := ⟨_, rfl⟩
  rw [← hq] at O ⊢
  have HQ := hid hq
  clear hq
  go_upto_if 18 with fail
  go_cut [18] (fun v wd => v = .bool mark ∧ ∃ v, Ob (fun k => k = q) w1 wd q v (if mark then nums (mk 1) else []))
  case first =>
    cases mark
    · go_wp2
      go_meet
      case rel => exact ⟨rfl, _, O.out⟩
    · obtain ⟨m4, hm4⟩ : ∃ m, m = mk 1 := ⟨_, rfl⟩
      have hm : w1.cell? ⟨0, 1, none⟩ = some (.string m4) := by rw [hm4]; exact mk_cell (HT.out.new T.out) 1 (by omega)
      have hms : m4.size ≤ 3 := by rw [hm4]; exact mk_size 1
      have HM := hid hm4
      clear hm4
      obtain ⟨i0, hi5, hz0, hz1, hz2⟩ := info_parts info5i
      obtain ⟨hc0, hcf⟩ := O.out.cell
      go_upto_region 5 with fail
      go_region_law ((refine step_append_string _ (by rfl) _ _ _ _ (by rfl) 5 i0 Tryd.underlying53 Tryd.underlying9 hi5 hz0 hz1 hz2 _ _ _ (by rfl) O.out.own.drew m4 (by rfl) (by unfold maxLen; simp; omega) (by simp; omega) ?_; intro v' w4 hown hgrow hat; clear hc0 hcf; obtain ⟨hc0, hcf⟩ := O.out.midS ⟨hgrow.os, hgrow.tape, hgrow.output, hgrow.size, hgrow.block⟩; obtain ⟨a2, k2, hv2⟩ := own_shape hown; subst hv2))
      all_goals
        have O2 := hid (O.out.appS hown ⟨hgrow.os, hgrow.tape, hgrow.output, hgrow.size, hgrow.block⟩ hat)
        simp only [List.length_nil, Nat.zero_add, List.nil_append] at O2
        clear hown hgrow hat hc0 hcf O
        go_wp2
        go_meet
        case rel => exact ⟨rfl, _, by rw [if_pos trivial, ← HM.out]; exact O2.out⟩
  obtain ⟨rfl, v0, hob⟩ := hcut
  obtain ⟨m0, hm0⟩ : ∃ m0, m0 = (if mark then nums (mk 1) else []) := ⟨_, rfl⟩
  have hml : m0.length ≤ 3 := by
    rw [hm0]
    cases mark
    · simp
    · exact Nat.le_trans (Nat.le_of_eq (by rw [if_pos rfl]; unfold nums; rw [List.length_map, Array.length_toList]; rfl)) (mk_size 1)
  rw [← hm0] at hob
  have HM0 := hid hm0
  clear O hm0
  have OO := hid hob
  obtain ⟨av, kv, hv0⟩ := own_shape hob.own
  subst hv0
  clear hob
  obtain ⟨w2, hw2⟩ : ∃ x, x = wc := ⟨_, rfl⟩
  subst hw2
  have KP := hid (putter_all 1 53 (by decide) q w2)
  go_wp2_with fail
  refine KP.out.mono ?_
  rintro e w3 ⟨b5, rfl, pu, tc⟩
  have PU := hid pu
  have O3 := hid (OO.out.still tc)
  have HS := hid (show q < w2.heap.size from lt_of_block OO.out.blk)
  have HOW := hid (show ∀ g, (Value.slice av m0.length kv).ownBlock = some g → g < w2.heap.size from fun g hg => lt_of_block (own_block5 OO.out.own hg).choose_spec)
  have HS3 := hid tc.size
  have TC3 := hid tc
  have HNW := hid (show ∀ k, k < w.heap.size → (Value.slice av m0.length kv).ownBlock ≠ some k from fun k hk e => by
    have s1 := T.out.size
    have := HQ.out
    rcases OO.out.new k e with p | p <;> omega)
  clear pu tc KP
  have HG := hid (show ∀ i (h : i < l.length), ∃ b, a = some ⟨b, 1, none⟩ ∧ b < w3.heap.size ∧ ¬ (b = q ∨ (Value.slice av m0.length kv).ownBlock = some b) ∧ w3.cell? ⟨b, 1 + i, none⟩ = some (.int .i64 l[i]) from fun i hi => by
    rcases HL.out with rfl | ⟨b, rfl, hb, hc⟩
    · simp at hi
    · have s1 := T.out.size
      have s2 := OO.out.touch.size
      have hbq : b ≠ q := by have := HQ.out; omega
      refine ⟨b, rfl, by have := HS3.out; omega, fun e => ?_, ?_⟩
      · rcases e with e | e
        · exact hbq e
        · rcases OO.out.new b e with p | p
          · exact hbq p
          · omega
      · rw [TC3.out.cell (p := ⟨b, 1 + i, none⟩) (by show b < w2.heap.size; omega) id, OO.out.touch.cell (p := ⟨b, 1 + i, none⟩) (by show b < w1.heap.size; omega) hbq, T.out.cell (p := ⟨b, 1 + i, none⟩) hb id]
        exact hc i hi)
  have TW := hid (show Touch (fun _ => False) w w3 from (T.out.trans OO.out.touch (fun k hk e => by have := HQ.out; omega)).trans TC3.out (fun _ _ e => e))
  have H0 := hid O3.out.now
  clear HL OO T O3 TC3
  go_wp2_with fail
  go_loopg [28] l.length (fun gk v7 wq => ∃ (i : Nat) (v' : Value), i + gk = l.length ∧ v7 = .int .i64 (i : Nat) ∧ Ob (fun k => k = q ∨ (Value.slice av m0.length kv).ownBlock = some k) w3 wq q v' (m0 ++ (l.take i).flatMap (enc 1)) ∧ (l.take i).all (okc 1) = true)
  case atStart => exact ⟨0, _, by omega, rfl, by simpa using H0.out, rfl⟩
  case round =>
    obtain ⟨i, v', hi, rfl, hob, hall⟩ := hrel
    have HA := hid hall
    clear hall
    obtain ⟨o', ho'⟩ : ∃ o', o' = m0 ++ (l.take i).flatMap (enc 1) := ⟨_, rfl⟩
    have hol : o'.length ≤ 549755813888 := by have h1 := flat_len 1 (l.take i); have h2 := List.length_take_le' i l; rw [ho', List.length_append]; omega
    rw [← ho'] at hob
    have HO := hid ho'
    clear ho'
    have O := hid hob
    clear hob
    by_cases hlt2 : i < l.length
    · obtain ⟨gk, rfl⟩ : ∃ j, gk = j + 1 := ⟨gk - 1, by omega⟩
      have hltI : (i : Int) < (l.length : Int) := by omega
      obtain ⟨b, rfl, hb3, hbP, hc⟩ := HG.out i hlt2
      have hx := (O.out.touch.cell (p := ⟨b, 1 + i, none⟩) hb3 hbP).trans hc
      have HT2 := hid (flat_more 1 l i hlt2 m0)
      have HBAD := hid (encR_bad (c := 1) (mark := mark) i hlt2)
      have HAL := hid (all_take (p := okc 1) hlt2 HA.out)
      obtain ⟨x, hxe⟩ : ∃ x, l[i] = x := ⟨_, rfl⟩
      rw [hxe, ← HO.out] at HT2
      rw [hxe] at hx HBAD HAL
      have KS := hid (scalar_any x wr)
      cases hs : scB x
      · rw [hs] at KS
        replace HBAD := hid (HBAD.out (by unfold okc; rw [hs]; rfl))
        have TZ := hid (show Touch (fun _ => False) w wr from TW.out.trans O.out.touch (fun k hk e => by
          have h1 := HQ.out
          rcases e with e | e
          · omega
          · exact absurd e (HNW.out k hk)))
        clear hxe hc hbP HO hs HG
        go_wp2_with fail
        refine KS.out.mono ?_
        rintro e w5 ⟨rfl, rfl⟩
        clear KS
        go_wp2
        refine bodyPost_ret (results_tmp2 rfl _ _ _) rfl ?_
        exact ⟨by rw [HBAD.out]; rfl, TZ.out⟩
      have HOK := hid (show okc 1 x = true by unfold okc; rw [hs]; rfl)
      replace HAL := hid (HAL.out HOK.out)
      have KP := hid (PU.out wr v' o' x (fun k h1 h2 => O.out.touch.block k h2 (fun e => by
        rcases e with e | e
        · have := HS.out; omega
        · have := HOW.out k e; omega)) O.out.touch.size (fun g hg => by
        rcases O.out.new g hg with (p | p) | p
        · exact .inl (by have := HS.out; omega)
        · exact .inl (HOW.out g p)
        · exact .inr p) HS.out O.out.now (okc_in HOK.out) hol)
      rw [hs] at KS
      clear hxe hc hbP HO hs
      go_wp2_with fail
      refine KS.out.mono ?_
      rintro e w5 ⟨rfl, rfl⟩
      clear KS
      go_wp2_with fail
      refine KP.out.mono ?_
      rintro e w6 ⟨rfl, v6, hb6⟩
      have O6 := hid (O.out.back hb6)
      rw [← HT2.out] at O6
      clear hb6 KP O HT2
      go_wp2
      go_roundg gk
      case measure => omega
      case rel => exact ⟨i + 1, v6, by omega, by go_num, O6.out, HAL.out⟩
    · have hltI : ¬ ((i : Int) < (l.length : Int)) := by omega
      have hti : l.take i = l := List.take_of_length_le (by omega)
      have HE := hid (show encR 1 mark l = .tuple #[.string (strOfNums o'), .int .i64 0] by
        have h1 := HA.out
        rw [hti] at h1
        unfold encR
        rw [if_pos h1, HO.out, hti, HM0.out])
      clear hti
      obtain ⟨av', kv', hv'⟩ := own_shape O.out.own
      subst hv'
      obtain ⟨hc0, hcf⟩ := O.out.cell
      have hcv := conv_own O.out.own
      have TZ := hid (show Touch (fun _ => False) w wr from TW.out.trans O.out.touch (fun k hk e => by
        have h1 := HQ.out
        rcases e with e | e
        · omega
        · exact absurd e (HNW.out k hk)))
      clear HG
      go_wp2
      refine bodyPost_ret (results_tmp2 rfl _ _ _) rfl ?_
      exact ⟨by rw [HE.out]; rfl, TZ.out⟩
end Go.Proofs.YtabhlhgfacpohaaDoor
