/- Texts of this proof, one behind the other: what each says stands ahead of it. -/
import Derived.Test.YtabhlhgfacpohaaDoorM6
import Derived.Lib.AppendStr
import Derived.Laws.Runes
import Derived.Scope
import Derived.Laws.RangeAny
import Derived.LoopTactic
/- quote: a text in quotes, given its scalars and what each is quoted as; conditions: the two tables lie there, the text is not too long. -/
namespace Go.Proofs.YtabhlhgfacpohaaDoor
open Go.RowKit
open Go.Lib

theorem flat_le {qo : Nat → Bs} {rs : List Nat} (h : ∀ x ∈ rs, (qo x).length ≤ 6) : ∀ k, ((rs.take k).flatMap qo).length ≤ 6 * k
  | 0 => by simp
  | k + 1 => by
    have ih := flat_le h k
    rw [List.take_add_one, List.flatMap_append, List.length_append]
    cases e : rs[k]? with
    | none =>
      show _ + (([] : List Nat).flatMap qo).length ≤ _
      rw [List.flatMap_nil, List.length_nil]
      omega
    | some x =>
      have := h x (List.mem_of_getElem? e)
      show _ + (([x] : List Nat).flatMap qo).length ≤ _
      rw [List.flatMap_cons, List.flatMap_nil, List.append_nil]
      omega
def QOne (qo : Nat → Bs) (x : Nat) : Prop := ∀ (l : Bs) (v : Value) (w : World), OB w v l → l.length ≤ 1099511627776 →
  Calls Tryd.prog 36 #[v, .int .i64 (x : Nat)] w fun e w' => ∃ v', e = .returned v' ∧ Grew w w' v v' (l ++ qo x)
/-- Decode of x and a text, not strict. -/
def DecX (s : ByteArray) (rs : List Nat) : Prop := ∀ w, Tabs w → Calls Tryd.prog 13 #[.string (xs s), .int .i64 1, .bool false] w fun e w' =>
  ∃ g c a2 n2 c2 bad, e = .returned (.tuple #[.agg #[.int .i64 1, .slice (some ⟨g, 0, none⟩) (rs.length + 1) c, .slice a2 n2 c2, .int .i64 (bad : Nat)], .agg #[.int .i64 0, .int .i64 0]]) ∧
    Touch (fun _ => False) w w' ∧ w.heap.size ≤ g ∧ g < w'.heap.size ∧ rs.length + 1 ≤ c ∧ (∀ i x, rs[i]? = some x → w'.cell? ⟨g, i + 1, none⟩ = some (.int .i64 (x : Nat)))
set_option maxRecDepth 100000 in
set_option maxHeartbeats 4000000 in
theorem quote_of (qo : Nat → Bs) (s : ByteArray) (rs : List Nat) (l : Bs) (v : Value) (w : World) (ht : Tabs w) (ho : OB w v l) (hl : l.length + 6 * rs.length ≤ 1099511627000) (hr : rs.length ≤ 140737488355328) (hs : s.size ≤ 1099511627000)
    (h6 : ∀ x ∈ rs, (qo x).length ≤ 6) (KD : DecX s rs) (KQ : ∀ x ∈ rs, QOne qo x) :
    Calls Tryd.prog 21 #[v, .string s] w fun e w' => ∃ v', e = .returned v' ∧ Grew w w' v v' (l ++ 34 :: (rs.flatMap qo ++ [34])) := by
  obtain ⟨i0, hi5, hz0, hz1, hz2⟩ := info_parts info5b
  obtain ⟨ad, cp, hv⟩ := own_shape ho
  subst hv
  obtain ⟨N, hN⟩ : ∃ N, l.length = N := ⟨_, rfl⟩
  have OW := hid (show w.ownsRow 0 5 1 (.slice ad N cp) N (bv l) from by rw [← hN]; exact ho)
  rw [hN]
  rw [hN] at hl
  have HN := hid hN
  clear hN ho
  have K1 := hid (KD w ht)
  have K2 := hid KQ
  have H6 := hid h6
  clear KD KQ h6
  unfold xs at K1
  obtain ⟨R, hR⟩ : ∃ R, rs.length = R := ⟨_, rfl⟩
  rw [hR] at K1 hl hr
  have HR := hid hR
  clear hR
  go_enter Tryd.func21, Tryd.ntmps21
  go_wp2_with fail
  refine K1.out.mono ?_
  rintro e w2 ⟨g, c, a2, n2, c2, bad, rfl, tt, hg1, hg2, hc, hcell⟩
  have T2 := hid tt
  have HG := hid (And.intro hg1 hg2)
  have HC := hid hcell
  clear K1 tt hg1 hg2 hcell
  go_upto_region 2 with fail
  have TA := (Touch.refl (fun _ => False) w2).alloc (.cells #[.int .i64 1, .slice (some ⟨g, 0, none⟩) (R + 1) c, .slice a2 n2 c2, .int .i64 (bad : Nat)] 37) |>.alloc (.cells #[.int .i64 0, .int .i64 0] 29)
  have BX := (((Touch.refl (fun _ => False) (w2.alloc (.cells #[.int .i64 1, .slice (some ⟨g, 0, none⟩) (R + 1) c, .slice a2 n2 c2, .int .i64 (bad : Nat)] 37))).alloc (.cells #[.int .i64 0, .int .i64 0] 29)).block w2.heap.size (by rw [size_alloc1]; omega) id).trans (jfour_new (w := w2) (.int .i64 1) (.slice (some ⟨g, 0, none⟩) (R + 1) c) (.slice a2 n2 c2) (.int .i64 (bad : Nat)) 37)
  have T3 := hid (T2.out.trans TA (fun _ _ e => e))
  have C3 := hid (fun i x (h : rs[i]? = some x) => (TA.cell (p := ⟨g, i + 1, none⟩) HG.out.2 id).trans (HC.out i x h))
  have B3 := hid BX
  have HG3 := hid (show w.heap.size ≤ g ∧ w.heap.size ≤ w2.heap.size from ⟨HG.out.1, T2.out.size⟩)
  have HG4 := hid (show g < ((w2.alloc (.cells #[.int .i64 1, .slice (some ⟨g, 0, none⟩) (R + 1) c, .slice a2 n2 c2, .int .i64 (bad : Nat)] 37)).alloc (.cells #[.int .i64 0, .int .i64 0] 29)).heap.size from Nat.lt_of_lt_of_le HG.out.2 TA.size)
  clear TA BX T2 HC HG
  generalize (w2.alloc (.cells #[.int .i64 1, .slice (some ⟨g, 0, none⟩) (R + 1) c, .slice a2 n2 c2, .int .i64 (bad : Nat)] 37)).alloc (.cells #[.int .i64 0, .int .i64 0] 29) = w3 at *
  generalize w2.heap.size = q at *
  have HV := hid (show ∀ k, (Value.slice ad N cp).ownBlock = some k → k < w.heap.size from by
    intro k hk
    rcases OW.out.2 with ⟨hv, _⟩ | ⟨g', cap, cur, hv, _, hh, _⟩
    · rw [hv] at hk
      cases hk
    · rw [hv] at hk
      cases hk
      exact lt_of_block hh)
  have O3 := hid (show w3.ownsRow 0 5 1 (.slice ad N cp) N (bv l) from by
    have := (show OB w (.slice ad N cp) l from by unfold OB; rw [HN.out]; exact OW.out).kept T3.out (fun _ _ e => e)
    unfold OB at this
    rw [HN.out] at this
    exact this)
  go_wp2_with (at_builtin; (refine wpList_append_own_at _ rfl _ _ 53 rfl 0 5 i0 (.int .u8 0) 1 1 Tryd.underlying53 hi5 hz0 hz1 hz2 rfl (by decide) _ _ _ rfl (O3.out.alloc _) ⟨w3.heap.size, 0, none⟩ 1 1 [.int .u8 34] rfl rfl (row_new w3 [.int .u8 34] 5) (by intro u hu; simp at hu; subst hu; rfl) (by unfold maxLen; omega) (by omega) (Nat.zero_le _) ?_))
  intro v1 w4 hown hgrow _ hat
  have G4 := hid (grew_of (m := [34]) (l := l) (by rw [HN.out]; exact hown) hgrow hat)
  clear hown hgrow hat O3
  have NE := hid (show ∀ k, w.heap.size ≤ k → ¬ (Value.slice ad N cp).ownBlock = some k from fun k hk e => by have := HV.out k e; omega)
  have B4 := hid ((G4.out.touch.block q (lt_of_block B3.out) (NE.out q HG3.out.2)).trans B3.out)
  obtain ⟨⟨_, z1, _, _⟩, _⟩ := cells4 B4.out
  have hR1 : ¬ ((R : Int) + 1 < 1) := by omega
  have hcI : ((R : Int) + 1) ≤ (c : Int) := by omega
  go_upto_region 4 with fail
  case inl h =>
    have C4 := hid (show ∀ i x, rs[i]? = some x → w4.cell? ⟨g, 0 + i, none⟩ = some (.int .i64 (x : Nat)) from fun i x hx => by
      have := (List.getElem?_eq_some_iff.1 hx).1
      have h0 := HR.out
      omega)
    have HGW := hid (show g < w4.heap.size from Nat.lt_of_lt_of_le HG4.out G4.out.touch.size)
    have G4' := hid (show Grew w4 w4 v1 v1 (l ++ 34 :: (rs.take 0).flatMap qo) from by simpa using Grew.refl G4.out.own)
    have NV := hid (show ¬ v1.ownBlock = some g from by
      rcases G4.out.pos with e | ⟨b, e, hb⟩
      · rw [e]; exact NE.out g HG3.out.1
      · rw [e]
        intro e2
        cases e2
        have := HG4.out
        omega)
    clear z1 B3 B4 C3 HV
    go_loopg [0, 22] R (fun gk v0 v22 wq => ∃ (k : Nat) (vv : Value), k + gk = R ∧ vv = v0 ∧ v22 = .int .i64 (k : Nat) ∧ Hid (Grew w4 wq v1 vv (l ++ 34 :: (rs.take k).flatMap qo)))
    case atStart => exact ⟨0, v1, by omega, rfl, rfl, G4'⟩
    case round =>
      obtain ⟨k, vv, hk, rfl, rfl, GK⟩ := hrel
      clear G4'
      have HF := hid (flat_le H6.out k)
      by_cases hlt : k < R
      · exact absurd hlt (by omega)
      · have hltI : ¬ (k : Int) < (R : Int) := by omega
        have GF := hid (show Grew w4 wr v1 vv (l ++ 34 :: rs.flatMap qo) from by
          have := GK.out
          rw [List.take_of_length_le (by have := HR.out; omega)] at this
          exact this)
        have HF2 := hid (show (l ++ 34 :: rs.flatMap qo).length ≤ N + 1 + 6 * R from by
          have h1 := HF.out
          rw [List.take_of_length_le (by have := HR.out; omega)] at h1
          have := HN.out
          simp only [List.length_append, List.length_cons]
          omega)
        clear GK HF
        obtain ⟨M, hM⟩ : ∃ M, (l ++ 34 :: rs.flatMap qo).length = M := ⟨_, rfl⟩
        have OF := hid (show wr.ownsRow 0 5 1 vv M (bv (l ++ 34 :: rs.flatMap qo)) from by rw [← hM]; exact GF.out.own)
        rw [hM] at HF2
        have hM2 := HF2.out
        have HM := hid hM
        clear hM HF2
        go_wp2_with (at_builtin; (refine wpList_append_own_at _ rfl _ _ 53 rfl 0 5 i0 (.int .u8 0) 1 1 Tryd.underlying53 hi5 hz0 hz1 hz2 rfl (by decide) _ _ _ rfl (OF.out.alloc _) ⟨wr.heap.size, 0, none⟩ 1 1 [.int .u8 34] rfl rfl (row_new wr [.int .u8 34] 5) (by intro u hu; simp at hu; subst hu; rfl) (by unfold maxLen; omega) (by omega) (Nat.zero_le _) ?_))
        intro v9 w9 hown hgrow _ hat
        have G9 := hid (grew_of (m := [34]) (l := l ++ 34 :: rs.flatMap qo) (by rw [HM.out]; exact hown) hgrow hat)
        clear hown hgrow hat
        go_wp2
        go_ret
        refine ⟨v9, rfl, ?_⟩
        have := Grew.from T3.out ((G4.out.trans GF.out).trans G9.out)
        simpa using this
  case inr h =>
    have C4 := hid (show ∀ i x, rs[i]? = some x → w4.cell? ⟨g, 1 + i, none⟩ = some (.int .i64 (x : Nat)) from fun i x hx => by
      rw [Nat.add_comm]
      exact (G4.out.touch.cell (p := ⟨g, i + 1, none⟩) HG4.out (NE.out g HG3.out.1)).trans (C3.out i x hx))
    have HGW := hid (show g < w4.heap.size from Nat.lt_of_lt_of_le HG4.out G4.out.touch.size)
    have G4' := hid (show Grew w4 w4 v1 v1 (l ++ 34 :: (rs.take 0).flatMap qo) from by simpa using Grew.refl G4.out.own)
    have NV := hid (show ¬ v1.ownBlock = some g from by
      rcases G4.out.pos with e | ⟨b, e, hb⟩
      · rw [e]; exact NE.out g HG3.out.1
      · rw [e]
        intro e2
        cases e2
        have := HG4.out
        omega)
    clear z1 B3 B4 C3 HV
    go_loopg [0, 22] R (fun gk v0 v22 wq => ∃ (k : Nat) (vv : Value), k + gk = R ∧ vv = v0 ∧ v22 = .int .i64 (k : Nat) ∧ Hid (Grew w4 wq v1 vv (l ++ 34 :: (rs.take k).flatMap qo)))
    case atStart => exact ⟨0, v1, by omega, rfl, rfl, G4'⟩
    case round =>
      obtain ⟨k, vv, hk, rfl, rfl, GK⟩ := hrel
      clear G4'
      have HF := hid (flat_le H6.out k)
      by_cases hlt : k < R
      · obtain ⟨x, hx⟩ : ∃ x, rs[k]? = some x := ⟨rs[k]'(by have := HR.out; omega), List.getElem?_eq_getElem _⟩
        have hltI : (k : Int) < (R : Int) := by omega
        have ck : wr.cell? ⟨g, 1 + k, none⟩ = some (.int .i64 (x : Nat)) := (GK.out.touch.cell (p := ⟨g, 1 + k, none⟩) HGW.out NV.out).trans (C4.out k x hx)
        have KX := hid (K2.out x (List.mem_of_getElem? hx) _ vv wr GK.out.own (by
          have := HF.out
          have := HN.out
          simp only [List.length_append, List.length_cons]
          omega))
        have HX := hid hx
        clear hx
        go_wp2_with fail
        refine KX.out.mono ?_
        rintro e w5 ⟨v', rfl, g5⟩
        have G5 := hid (GK.out.trans g5)
        clear KX g5 ck
        go_wp2
        go_roundg (gk - 1)
        case measure => omega
        case rel =>
          refine ⟨k + 1, v', by omega, rfl, by go_num, hid ?_⟩
          have e : l ++ 34 :: (rs.take (k + 1)).flatMap qo = l ++ 34 :: (rs.take k).flatMap qo ++ qo x := by
            rw [List.take_add_one, HX.out]
            simp
          rw [e]
          exact G5.out
      · have hltI : ¬ (k : Int) < (R : Int) := by omega
        have GF := hid (show Grew w4 wr v1 vv (l ++ 34 :: rs.flatMap qo) from by
          have := GK.out
          rw [List.take_of_length_le (by have := HR.out; omega)] at this
          exact this)
        have HF2 := hid (show (l ++ 34 :: rs.flatMap qo).length ≤ N + 1 + 6 * R from by
          have h1 := HF.out
          rw [List.take_of_length_le (by have := HR.out; omega)] at h1
          have := HN.out
          simp only [List.length_append, List.length_cons]
          omega)
        clear GK HF
        obtain ⟨M, hM⟩ : ∃ M, (l ++ 34 :: rs.flatMap qo).length = M := ⟨_, rfl⟩
        have OF := hid (show wr.ownsRow 0 5 1 vv M (bv (l ++ 34 :: rs.flatMap qo)) from by rw [← hM]; exact GF.out.own)
        rw [hM] at HF2
        have hM2 := HF2.out
        have HM := hid hM
        clear hM HF2
        go_wp2_with (at_builtin; (refine wpList_append_own_at _ rfl _ _ 53 rfl 0 5 i0 (.int .u8 0) 1 1 Tryd.underlying53 hi5 hz0 hz1 hz2 rfl (by decide) _ _ _ rfl (OF.out.alloc _) ⟨wr.heap.size, 0, none⟩ 1 1 [.int .u8 34] rfl rfl (row_new wr [.int .u8 34] 5) (by intro u hu; simp at hu; subst hu; rfl) (by unfold maxLen; omega) (by omega) (Nat.zero_le _) ?_))
        intro v9 w9 hown hgrow _ hat
        have G9 := hid (grew_of (m := [34]) (l := l ++ 34 :: rs.flatMap qo) (by rw [HM.out]; exact hown) hgrow hat)
        clear hown hgrow hat
        go_wp2
        go_ret
        refine ⟨v9, rfl, ?_⟩
        have := Grew.from T3.out ((G4.out.trans GF.out).trans G9.out)
        simpa using this
end Go.Proofs.YtabhlhgfacpohaaDoor

/- Decode of x and any text, not strict: its scalars; conditions: the two tables lie there, the text is not too long. -/
namespace Go.Proofs.YtabhlhgfacpohaaDoor
open Go.RowKit

theorem dc_loose (s : ByteArray) (c : Nat) : ∀ (k i : Nat) (rs ps : List Int) (bad : Nat), (dcGo s c false k i rs ps bad).1 = none
  | 0, _, _, _, _ => rfl
  | k + 1, i, rs, ps, bad => by
    by_cases h : i < s.size
    · rw [dc_step h]
      split
      · rw [if_neg (by decide)]
        exact dc_loose s c k _ _ _ _
      · exact dc_loose s c k _ _ _ _
    · rw [dc_end (by omega)]
/-- The scalars from a place on. -/
def scF (s : ByteArray) : Nat → Nat → List Int
  | 0, _ => []
  | k + 1, i => if i < s.size then (if (tkAt s 1 i).1 = -1 then 65533 else (tkAt s 1 i).1) :: scF s k (i + (tkAt s 1 i).2) else []
theorem dc_sc (s : ByteArray) : ∀ (k i : Nat) (rs ps : List Int) (bad : Nat), (dcGo s 1 false k i rs ps bad).2.1 = rs ++ scF s k i
  | 0, _, rs, _, _ => by simp [dcGo, scF]
  | k + 1, i, rs, ps, bad => by
    by_cases h : i < s.size
    · rw [dc_step h, scF, if_pos h]
      split
      · rw [if_neg (by decide), dc_sc s k, List.append_assoc]
        rfl
      · rw [dc_sc s k, List.append_assoc]
        rfl
    · rw [dc_end (by omega), scF, if_neg h, List.append_nil]
theorem tkGo_in (s : ByteArray) (m : Nat) : ∀ (k i sc lo hi : Nat), (tkGo s m k i sc lo hi).1 = -1 ∨ 0 ≤ (tkGo s m k i sc lo hi).1
  | 0, _, sc, _, _ => by unfold tkGo; right; simp only; omega
  | k + 1, i, sc, lo, hi => by
    unfold tkGo
    split
    · exact .inl rfl
    · exact tkGo_in s m k _ _ _ _
theorem tk1_in (s : ByteArray) (i : Nat) : (tkAt s 1 i).1 = -1 ∨ 0 ≤ (tkAt s 1 i).1 := by
  unfold tkAt
  rw [if_neg (by decide), if_neg (by decide), if_neg (by decide)]
  unfold tk8
  split
  · exact .inl rfl
  · exact tkGo_in _ _ _ _ _ _ _
theorem scF_in (s : ByteArray) : ∀ (k i : Nat), ∀ x ∈ scF s k i, 0 ≤ x
  | 0, _ => by simp [scF]
  | k + 1, i => by
    intro x hx
    rw [scF] at hx
    split at hx
    · rcases List.mem_cons.1 hx with e | e
      · rw [e]
        split
        · decide
        · rename_i h
          exact (tk1_in s i).resolve_left h
      · exact scF_in s k _ x e
    · cases hx
theorem scF_len (s : ByteArray) : ∀ (k i : Nat), (scF s k i).length ≤ k
  | 0, _ => by simp [scF]
  | k + 1, i => by
    rw [scF]
    split
    · have := scF_len s k (i + (tkAt s 1 i).2)
      simp only [List.length_cons]
      omega
    · simp
/-- A text's scalars, U+FFFD for what is bad. -/
def scs (s : ByteArray) : List Nat := (scF (xs s) s.size 1).map Int.toNat
theorem scs_len (s : ByteArray) : (scs s).length ≤ s.size := by
  unfold scs
  rw [List.length_map]
  exact scF_len _ _ _
theorem scF_x (s : ByteArray) : scF (xs s) (xs s).size 0 = 120 :: scF (xs s) s.size 1 := by
  have h : 0 < (xs s).size := by rw [xs_size]; omega
  have e := tk_ascii (xs s) 0 h (by rw [xs_zero]; decide)
  rw [xs_zero] at e
  rw [xs_size, scF, if_pos h, e, if_neg (by decide)]
  rfl
theorem decX_any (s : ByteArray) (hs : s.size ≤ 1099511627000) : DecX s (scs s) := by
  intro w ht
  have k := decode_any (xs s) 1 false w ht (by rw [xs_size]; omega) (by decide)
  rw [xs_bg] at k
  refine k.mono ?_
  intro e w' h
  rcases h with ⟨i, h1, _⟩ | ⟨_, h2⟩
  · rw [dc_loose] at h1
    cases h1
  · obtain ⟨v1, v2, he, o1, o2⟩ := h2.ex
    rw [show (((1 : Nat), (0 : Nat)).1) = 1 from rfl, show (((1 : Nat), (0 : Nat)).2) = 0 from rfl] at he o1 o2
    rw [dc_sc, List.nil_append, scF_x] at o1
    have hl : (120 :: scF (xs s) s.size 1).length = (scs s).length + 1 := by unfold scs; simp
    obtain ⟨a2, c2, rfl⟩ := own_shape o2.own
    rcases o1.own.2 with ⟨_, h0⟩ | ⟨g, cap, cur, hv, hg, hh, hcap, rest⟩
    · rw [hl] at h0
      omega
    · rw [hv] at he
      rw [hl] at he hcap
      refine ⟨g, cap, a2, _, c2, _, he, o1.touch, o1.new g (by rw [hv]; rfl), lt_of_block hh, by omega, ?_⟩
      intro i x hx
      have h1 : (120 :: scF (xs s) s.size 1)[i + 1]? = some (x : Int) := by
        rw [List.getElem?_cons_succ]
        unfold scs at hx
        rw [List.getElem?_map] at hx
        cases hy : (scF (xs s) s.size 1)[i]? with
        | none => rw [hy] at hx; cases hx
        | some y =>
          rw [hy] at hx
          have := scF_in (xs s) s.size 1 y (List.mem_of_getElem? hy)
          cases hx
          rw [Int.toNat_of_nonneg this]
      have h2 := o1.own.cells (g := g) (by rw [hv]; rfl) (i + 1) (.int .i64 (x : Int)) (by unfold encI; rw [List.getElem?_map, h1]; rfl)
      rwa [add_g] at h2
end Go.Proofs.YtabhlhgfacpohaaDoor

/- quoteOne of what is below 128, Quote, speaks, and Show of a number; condition: the two tables lie there. -/
namespace Go.Proofs.YtabhlhgfacpohaaDoor
open Go.RowKit
open Go.Lib

def escB (x : Nat) : Option UInt8 := if x = 34 then some 34 else if x = 92 then some 92 else if x = 8 then some 98 else if x = 12 then some 102 else if x = 10 then some 110 else if x = 13 then some 114 else if x = 9 then some 116 else none
/-- A scalar's bytes. -/
def ub (x : Nat) : Bs := if x < 128 then [x.toUInt8] else if x < 2048 then [(192 + x / 64).toUInt8, (128 + x % 64).toUInt8] else if x < 65536 then [(224 + x / 4096).toUInt8, (128 + x / 64 % 64).toUInt8, (128 + x % 64).toUInt8] else [(240 + x / 262144).toUInt8, (128 + x / 4096 % 64).toUInt8, (128 + x / 64 % 64).toUInt8, (128 + x % 64).toUInt8]
def hexL : Bs := [48, 49, 50, 51, 52, 53, 54, 55, 56, 57, 97, 98, 99, 100, 101, 102]
def qo (x : Nat) : Bs := match escB x with
  | some c => [92, c]
  | none => if x < 32 then [92, 117, 48, 48, hexL.getD (x / 16) 0, hexL.getD (x % 16) 0] else ub x
theorem qo_len (x : Nat) : (qo x).length ≤ 6 := by
  unfold qo
  split
  · exact Nat.le_of_ble_eq_true rfl
  · split
    · exact Nat.le_of_ble_eq_true rfl
    · unfold ub
      split
      · exact Nat.le_of_ble_eq_true rfl
      · split
        · exact Nat.le_of_ble_eq_true rfl
        · split
          · exact Nat.le_of_ble_eq_true rfl
          · exact Nat.le_of_ble_eq_true rfl
def lettersL : Bs := [34, 92, 98, 102, 110, 114, 116, 47]
def idxOf (x : Nat) : Int := indexByte signsB.data.toList x.toUInt8
/-- Which it is. -/
def idxOk (x : Nat) : Bool := match escB x with
  | some c => decide (x ≠ 47) && decide (0 ≤ idxOf x) && decide (idxOf x < 8) && (lettersL.getD (idxOf x).toNat 0 == c)
  | none => decide (idxOf x < 0 ∨ x = 47)
set_option maxRecDepth 100000 in
theorem idx_all : ∀ x, x < 128 → idxOk x = true := by decide
theorem hex_at (y : Nat) (h : y < 16) : hexB[y]'(by show y < 16; exact h) = hexL.getD y 0 := by
  rcases (show y = 0 ∨ y = 1 ∨ y = 2 ∨ y = 3 ∨ y = 4 ∨ y = 5 ∨ y = 6 ∨ y = 7 ∨ y = 8 ∨ y = 9 ∨ y = 10 ∨ y = 11 ∨ y = 12 ∨ y = 13 ∨ y = 14 ∨ y = 15 by omega) with rfl | rfl | rfl | rfl | rfl | rfl | rfl | rfl | rfl | rfl | rfl | rfl | rfl | rfl | rfl | rfl <;> rfl
theorem let_at (y : Nat) (h : y < 8) : lettersB[y]'(by show y < 8; exact h) = lettersL.getD y 0 := by
  rcases (show y = 0 ∨ y = 1 ∨ y = 2 ∨ y = 3 ∨ y = 4 ∨ y = 5 ∨ y = 6 ∨ y = 7 by omega) with rfl | rfl | rfl | rfl | rfl | rfl | rfl | rfl <;> rfl
set_option maxRecDepth 100000 in
theorem idx_low : ∀ x, x < 32 → escB x = none → idxOf x = -1 := by decide
theorem rune_ascii (x : Nat) (hx : x < 128) (w : World) : Calls Tryd.prog 65 #[.string signsB, .int .i32 (x : Nat)] w fun e w' => e = .returned (.int .i64 (idxOf x)) ∧ w' = w := by
  have k := Any.strings_IndexRune_ascii Tryd.lays152 signsB (x : Nat) w (by omega) (by omega)
  rw [show ((x : Nat) : Int).toNat = x from by omega] at k
  exact k
theorem one_ascii (x : Nat) (hx : x < 128) : QOne qo x := by
  intro l v w ho hl
  have hi := idx_all x hx
  unfold idxOk at hi
  have K := rune_ascii x hx
  cases he : escB x with
  | some c =>
    rw [he] at hi
    simp only [Bool.and_eq_true, decide_eq_true_eq, beq_iff_eq] at hi
    obtain ⟨⟨⟨h1, h2⟩, h3⟩, h4⟩ := hi
    obtain ⟨p, hp⟩ : ∃ p : Nat, idxOf x = (p : Int) := ⟨(idxOf x).toNat, by omega⟩
    rw [hp] at K h2 h3 h4
    have hp8 : p < 8 := by omega
    have k := quote_esc x p c l v w ho hl (by omega) h1 hp8 (by rw [let_at p hp8, ← h4]; rfl) K
    rw [show qo x = [92, c] from by unfold qo; rw [he]]
    exact k
  | none =>
    rw [he] at hi
    simp only [decide_eq_true_eq] at hi
    by_cases h32 : x < 32
    · have hneg : idxOf x = -1 := idx_low x h32 he
      rw [hneg] at K
      have k := quote_low x _ _ l v w ho hl h32 (hex_at (x / 16) (by omega)) (hex_at (x % 16) (by omega)) K
      rw [show qo x = [92, 117, 48, 48, hexL.getD (x / 16) 0, hexL.getD (x % 16) 0] from by unfold qo; rw [he]; simp only; rw [if_pos h32]]
      exact k
    · have hu : qo x = [x.toUInt8] := by unfold qo; rw [he]; simp only; rw [if_neg h32]; unfold ub; rw [if_pos hx]
      rw [hu]
      exact quote_self x (idxOf x) [x.toUInt8] l v w ho (by omega) (by omega) hi K (fun w ho => append_ascii x l v w ho hl hx)
set_option maxRecDepth 100000 in
set_option maxHeartbeats 4000000 in
theorem quote_str (s : ByteArray) (w : World) (ht : Tabs w) (hs : s.size ≤ 1048576) (KQ : ∀ x ∈ scs s, QOne qo x) :
    Calls Tryd.prog 11 #[.string s] w fun e w' => e = .returned (.string ⟨(34 :: ((scs s).flatMap qo ++ [34])).toArray⟩) ∧ Touch (fun _ => False) w w' := by
  have K := hid (quote_of qo s (scs s) [] (.slice none 0 0) w ht (OB.nil w) (by have := scs_len s; simp only [List.length_nil]; omega) (by have := scs_len s; omega) (by omega) (fun x _ => qo_len x) (decX_any s (by omega)) KQ)
  clear ht KQ
  go_enter Tryd.func11, Tryd.ntmps11
  go_wp2_with fail
  refine K.out.mono ?_
  rintro e w1 ⟨v', rfl, g⟩
  have hconv := g.own.conv
  have G := hid (g.touch.mono (S' := fun _ => False) (fun k _ e => by cases e))
  clear g K
  go_wp2
  go_ret
  exact ⟨rfl, G.out⟩
end Go.Proofs.YtabhlhgfacpohaaDoor

/- speaks, show and Show of a number; condition: the two tables lie there. -/
namespace Go.Proofs.YtabhlhgfacpohaaDoor
open Go.RowKit
open Go.Lib

theorem run_append_string_at {P : Program} (w : World) (t u ty e : TypeId) (i : TypeInfo) (ht : P.underlying t = some (.slice e)) (hu : P.underlying u = some .string) (hi : P.info? e = some i) (hz : i.zero = some (.int .u8 0))
    (hsize : i.size = 1) (hby : i.bytes = 1) (v : Value) (n : Nat) (xs : List Value) (hown : w.ownsRow 0 e 1 v n xs) (s : ByteArray) (h63 : n + s.size ≤ maxLen) (hbytes : n + s.size ≤ 140737488355328) :
    ∃ v' w', (Builtin.append_ #[t, u] ty #[v, .string s]).run P w = .ok v' w' ∧ w'.ownsRow 0 e 1 v' (n + s.size) (xs ++ strCells s) ∧ w.grownBy w' v.ownBlock ∧
      (v'.ownBlock = v.ownBlock ∨ ∃ g, v'.ownBlock = some g ∧ w.heap.size ≤ g) := by
  rcases hown.2 with ⟨rfl, rfl⟩ | ⟨g, cap, cur, rfl, _, hg, hnc, hcm, hcs, htake⟩
  · have hx : xs = [] := List.eq_nil_of_length_eq_zero (by simpa using hown.1)
    subst hx
    obtain ⟨v', w', hr, h2, h3, h4⟩ := run_append_own_string (P := P) w w.heap.size t u ty e i ht hu hi hz hsize hby _ _ _ (World.ownsRow_nil w w.heap.size e 1) s h63 hbytes (Nat.le_refl _)
    refine ⟨v', w', hr, ⟨h2.1, ?_⟩, h3, ?_⟩
    · rcases h2.2 with h | ⟨g, cap, cur, hv, _, hh, r⟩
      · exact .inl h
      · exact .inr ⟨g, cap, cur, hv, Nat.zero_le _, hh, r⟩
    · rcases h2.2 with ⟨rfl, _⟩ | ⟨g, cap, cur, rfl, hg, _⟩
      · exact .inl rfl
      · exact .inr ⟨g, rfl, hg⟩
  · obtain ⟨v', w', hr, h2, h3, h4⟩ := run_append_own_string (P := P) w 0 t u ty e i ht hu hi hz hsize hby _ _ _ hown s h63 hbytes (Nat.zero_le _)
    refine ⟨v', w', hr, h2, h3, ?_⟩
    by_cases hroom : n + s.size ≤ cap
    · have hcs' : cur.size = cap := by simpa using hcs
      have hr2 := run_append_room_string (P := P) w t u ty e i ht hu hi hsize g n cap cur hg s hroom (by omega)
      rw [hr] at hr2
      simp only [Result.ok.injEq] at hr2
      rw [hr2.1]
      exact .inl rfl
    · have holds : ∀ j u, xs[j]? = some u → w.cell? ((⟨g, 0, none⟩ : Addr).add j) = some u := hown.cells (g := g) rfl
      have hr2 := run_append_grow_string (P := P) w t u ty e i (.int .u8 0) ht hu hi hz ⟨g, 0, none⟩ n cap xs (by rw [hsize]; exact hown.1) holds s (by omega) (by unfold maxLen at h63; omega) (by rw [hby]; exact growslice_fits (by omega) (by omega))
      rw [hr] at hr2
      simp only [Result.ok.injEq] at hr2
      rw [hr2.1]
      exact .inr ⟨_, rfl, Nat.le_refl _⟩

theorem wpList_append_str_at {P : Program} {w : World} {ops : Array Oper} {rest : List Oper} {o : Oper} {a : Act} {Q : Exit → Act → World → Prop} (hgd : o.guard = none) (sl x : Operand) (t u : TypeId)
    (ho : o.op = .call { callee := .builtin .append, args := #[sl, x], argTypes := #[t, u] })
    (e : TypeId) (i : TypeInfo) (ht : P.underlying t = some (.slice e)) (hu : P.underlying u = some .string) (hi : P.info? e = some i) (hz : i.zero = some (.int .u8 0)) (hsize : i.size = 1) (hby : i.bytes = 1)
    (v : Value) (n : Nat) (xs : List Value) (hs : a.eval sl = v) (hown : w.ownsRow 0 e 1 v n xs) (s : ByteArray) (hx : a.eval x = .string s) (h63 : n + s.size ≤ maxLen) (hbytes : n + s.size ≤ 140737488355328)
    (h : ∀ v' w', w'.ownsRow 0 e 1 v' (n + s.size) (xs ++ strCells s) → w.grownBy w' v.ownBlock → (v'.ownBlock = v.ownBlock ∨ ∃ g, v'.ownBlock = some g ∧ w.heap.size ≤ g) → wpList P ops Q rest (a.put o.dst v') w') :
    wpList P ops Q (o :: rest) a w := by
  refine wpList_plain hgd fun K hK => ?_
  obtain ⟨v', w', hr, h2, h3, h4⟩ := run_append_string_at (P := P) w t u o.type e i ht hu hi hz hsize hby v n xs hown s h63 hbytes
  unfold Oper.wp execOp
  simp only [ho, resolve, invoke, builtin, Sem.run_bind, Sem.run_pure, Result.andThen_ok, List.map_toArray, List.map_cons, List.map_nil, hs, hx, hr]
  exact hK _ _ (h v' w' h2 h3 h4)
theorem str_bv (s : ByteArray) : strCells s = bv s.data.toList := rfl
set_option maxRecDepth 100000 in
set_option maxHeartbeats 4000000 in
theorem show_num (s : ByteArray) (l : Bs) (v : Value) (w : World) (ho : OB w v l) (hl : l.length ≤ 1099511627776) (hs : s.size ≤ 1099511627776) :
    Calls Tryd.prog 20 #[.agg #[.int .i64 3, .string s, .slice none 0 0, .slice none 0 0], v] w fun e w' => ∃ v', e = .returned v' ∧ Grew w w' v v' (l ++ s.data.toList) := by
  obtain ⟨i0, hi5, hz0, hz1, hz2⟩ := info_parts info5b
  obtain ⟨N, hN⟩ : ∃ N, l.length = N := ⟨_, rfl⟩
  have TA := (Touch.refl (fun _ => False) w).alloc (.cells #[.int .i64 3, .string s, .slice none 0 0, .slice none 0 0] 26)
  have OW := hid (show (w.alloc (.cells #[.int .i64 3, .string s, .slice none 0 0, .slice none 0 0] 26)).ownsRow 0 5 1 v N (bv l) from by
    have := ho.kept TA (fun _ _ e => e)
    unfold OB at this
    rw [hN] at this
    exact this)
  have TW := hid TA
  rw [hN] at hl
  have HN := hid hN
  clear hN ho TA
  go_enter Tryd.func20, Tryd.ntmps20
  go_wp2_with (at_builtin; (refine wpList_append_str_at rfl _ _ 53 9 rfl 5 i0 Tryd.underlying53 Tryd.underlying9 hi5 hz0 hz1 hz2 _ _ _ rfl OW.out s rfl (by unfold maxLen; omega) (by omega) ?_))
  intro v' w2 hown hgrow hat
  have G := hid (Grew.from TW.out (grew_str (l := l) (m := s.data.toList) (by rw [HN.out, size_list]; exact hown) hgrow (by rw [size_alloc1]; exact hat)))
  clear hown hgrow hat
  go_wp2
  go_ret
  exact ⟨v', rfl, G.out⟩
set_option maxRecDepth 100000 in
set_option maxHeartbeats 4000000 in
theorem Show_num (s : ByteArray) (w : World) (hs : s.size ≤ 1099511627776) :
    Calls Tryd.prog 10 #[.agg #[.int .i64 3, .string s, .slice none 0 0, .slice none 0 0]] w fun e w' => e = .returned (.string s) ∧ Touch (fun _ => False) w w' := by
  have TA := hid ((Touch.refl (fun _ => False) w).alloc (.cells #[.int .i64 3, .string s, .slice none 0 0, .slice none 0 0] 26))
  have K := hid (show_num s [] (.slice none 0 0) (w.alloc (.cells #[.int .i64 3, .string s, .slice none 0 0, .slice none 0 0] 26)) (OB.nil _) (by simp) hs)
  go_enter Tryd.func10, Tryd.ntmps10
  go_wp2_with fail
  refine K.out.mono ?_
  rintro e w1 ⟨v', rfl, g⟩
  have hconv := g.own.conv
  rw [List.nil_append, show (⟨s.data.toList.toArray⟩ : ByteArray) = s from by simp] at hconv
  have G := hid (TA.out.trans (g.touch.mono (S' := fun _ => False) (fun k _ e => by cases e)) (fun _ _ e => e))
  clear g K TA
  go_wp2
  go_ret
  exact ⟨rfl, G.out⟩
theorem scs_speak : scs ⟨#[97, 10, 1]⟩ = [97, 10, 1] := by kernel_rfl
set_option maxRecDepth 100000 in
set_option maxHeartbeats 4000000 in
theorem speaks_yes (w : World) (ht : Tabs w) : Calls Tryd.prog 8 #[] w fun e w' => e = .returned (.bool true) ∧ Touch (fun _ => False) w w' := by
  have k := quote_str ⟨#[97, 10, 1]⟩ w ht (by decide) (by
    rw [scs_speak]
    intro x hx
    simp at hx
    exact one_ascii x (by omega))
  rw [scs_speak, show (⟨(34 :: (([97, 10, 1] : List Nat).flatMap qo ++ [34])).toArray⟩ : ByteArray) = ⟨#[34, 97, 92, 110, 92, 117, 48, 48, 48, 49, 34]⟩ from by kernel_rfl] at k
  have K := hid k
  clear k ht
  go_enter Tryd.func8, Tryd.ntmps8
  go_wp2_with fail
  refine K.out.mono ?_
  rintro e w1 ⟨rfl, tt⟩
  have T := hid tt
  clear tt K
  go_wp2
  go_ret
  exact ⟨rfl, T.out⟩
end Go.Proofs.YtabhlhgfacpohaaDoor

/- IndexRune of a scalar from 128 on among the signs: it isn't there; no condition. -/
namespace Go.Proofs.YtabhlhgfacpohaaDoor
open Go.RowKit
open Go.Lib

set_option maxRecDepth 100000 in
theorem valid_yes (x : Nat) (h2 : x ≤ 1114111) (h3 : x < 55296 ∨ 57343 < x) (w : World) : Calls Tryd.prog 83 #[.int .i32 (x : Nat)] w fun e w' => e = .returned (.bool true) ∧ w' = w := by
  have b0 : (0 : Int) ≤ (x : Int) := by omega
  have b2 : (x : Int) ≤ 1114111 := by omega
  rcases h3 with h3 | h3
  · have b1 : (x : Int) < 55296 := by omega
    go_enter Tryd.func83, Tryd.ntmps83
    go_wp2
    go_ret
    exact ⟨rfl, rfl⟩
  · have b1 : ¬ (x : Int) < 55296 := by omega
    have b3 : (57343 : Int) < (x : Int) := by omega
    go_enter Tryd.func83, Tryd.ntmps83
    go_wp2
    go_ret
    exact ⟨rfl, rfl⟩
theorem byte_index (s : ByteArray) (c : Int) (w : World) : Calls Tryd.prog 82 #[.string s, .int .u8 c] w fun e w' => e = .returned (.int .i64 (Lib.indexByte s.data.toList c.toNat.toUInt8)) ∧ w' = w :=
  Any.strings_IndexByte { Tryd.lays152 with } s c w
theorem index_absent : ∀ (l : List UInt8) (c : UInt8), (∀ b ∈ l, b ≠ c) → indexByte l c = -1
  | [], _, _ => rfl
  | b :: l, c, h => by
    have hb : (b == c) = false := by
      have := h b (by simp)
      simp [this]
    rw [indexByte, hb, index_absent l c (fun x hx => h x (by simp [hx]))]
    rfl
theorem sign_ascii : ∀ b ∈ signsB.data.toList, b.toNat < 128 := by decide
set_option maxRecDepth 100000 in
set_option maxHeartbeats 4000000 in
theorem rune_wide (x : Nat) (h1 : 128 ≤ x) (h2 : x ≤ 1114111) (h3 : x < 55296 ∨ 57343 < x) (h4 : x ≠ 65533) (w : World) :
    Calls Tryd.prog 65 #[.string signsB, .int .i32 (x : Nat)] w fun e w' => e = .returned (.int .i64 (-1)) ∧ Touch (fun _ => False) w w' := by
  have hv : Utf8.valid (x : Int) = true := by
    unfold Utf8.valid
    simp
    omega
  obtain ⟨f1, f2, f3⟩ := encode_facts (x : Int) hv (by omega)
  have KV := hid (valid_yes x h2 h3)
  obtain ⟨rs, hrs⟩ : ∃ rs, Utf8.encode (x : Int) = rs := ⟨_, rfl⟩
  rw [hrs] at f1 f2 f3
  obtain ⟨n, hn⟩ : ∃ n, rs.size = n + 1 := ⟨rs.size - 1, by omega⟩
  have hlt : n < rs.size := by omega
  obtain ⟨c, hc⟩ : ∃ c, c = rs[n] := ⟨_, rfl⟩
  have f4 : 128 ≤ c.toNat := by
    have := f3 (by omega)
    rw [hc]
    simpa [hn] using this
  have hnn : n = 1 ∨ n = 2 ∨ n = 3 := by omega
  have KI := hid (fun (t : ByteArray) (ht : ∀ b ∈ t.data.toList, b.toNat < 128) w => by
    have k := byte_index t ((c.toNat : Nat) : Int) w
    rw [show ((c.toNat : Nat) : Int).toNat.toUInt8 = c from by simp, index_absent _ _ (fun b hb e => by have := ht b hb; rw [e] at this; omega)] at k
    exact k)
  have ixr : ∀ w, (Instr.index 9 (.string rs) (.int .i64 (n : Nat))).run Tryd.prog w = .ok (.int .u8 ((c.toNat : Nat) : Int)) w := fun w => by
    have h1 : (n : Int) < (rs.size : Int) := by omega
    rw [hc]
    simp [go_sem, h1]
  have hnI : (rs.size : Int) - 1 = (n : Int) := by omega
  have b0 : (0 : Int) ≤ (x : Int) := by omega
  have b1 : ¬ (x : Int) < 128 := by omega
  have b2 : ((x : Int) == 65533) = false := by simp; omega
  obtain ⟨sn, hsn, hs8⟩ : ∃ sn : Nat, (∀ w, (Instr.index 9 (.string signsB) (.int .i64 (n : Nat))).run Tryd.prog w = .ok (.int .u8 (sn : Nat)) w) ∧ sn < 128 := by
    rcases hnn with rfl | rfl | rfl
    · exact ⟨92, fun w => rfl, by decide⟩
    · exact ⟨8, fun w => rfl, by decide⟩
    · exact ⟨12, fun w => rfl, by decide⟩
  have hne : ((sn : Int) != ((c.toNat : Nat) : Int)) = true := by simp; omega
  have hz8 : signsB.size = 8 := rfl
  have hn8 : (n : Int) < (signsB.size : Int) := by omega
  have hn9 : (n : Int) + 1 ≤ (signsB.size : Int) := by omega
  have hn0 : (0 : Int) ≤ (n : Int) + 1 := by omega
  have hasc : ∀ k : Nat, ∀ b ∈ (signsB.extract k 8).data.toList, b.toNat < 128 := by
    intro k b hb
    refine sign_ascii b ?_
    have : b ∈ (signsB.data.toList.drop k) := by
      rw [ByteArray.data_extract, Array.toList_extract] at hb
      exact List.mem_of_mem_take hb
    exact List.mem_of_mem_drop this
  have hsl : ∀ w, (Instr.slice 9 (.string signsB) (some (.int .i64 ((n : Int) + 1))) none none).run Tryd.prog w = .ok (.string (signsB.extract (n + 1) 8)) w := by
    rcases hnn with rfl | rfl | rfl
    · exact fun w => rfl
    · exact fun w => rfl
    · exact fun w => rfl
  have hwr : IntKind.i64.wrap ((n : Int) + 1) = (n : Int) + 1 := wrap_small _ (by omega) (by omega)
  have HC := hid f4
  clear f1 f2 f3 f4 hc hv h1 h2 h3 h4 hlt
  generalize signsB = S at *
  clear hz8
  go_enter Tryd.func65, Tryd.ntmps65
  go_wp2_with fail
  refine (KV.out _).mono ?_
  rintro e w1 ⟨rfl, rfl⟩
  clear KV
  go_wp2_with fail
  refine wp_scope_straight ?_
  go_wp2_with fail
  go_loopg [9, 10] 1 (fun gk v9 v10 wq => v9 = .int .i64 (n : Nat) ∧ v10 = .int .i64 0 ∧ w1 = wq)
  case atStart => exact ⟨by rw [← hnI], rfl, rfl⟩
  case round =>
    obtain ⟨rfl, rfl, rfl⟩ := hrel
    go_wp2_with fail
    refine wp_scope_straight ?_
    go_wp2_with fail
    go_quiet (fail)
    go_wp2_with fail
    go_quiet (exact (KI.out _ (hasc _) _).mono (fun e w' h => ⟨h.1, _, h.2⟩))
    go_wp2
    simp only [Exit.noGoto, Exit.inBlock, Exit.then]
    go_ret
    exact ⟨rfl, by first | exact ((Touch.refl _ _).drewN _).drewN _ | exact (Touch.refl _ _).drewN _⟩
set_option maxRecDepth 100000 in
set_option maxHeartbeats 4000000 in
theorem rune_bad (w : World) : Calls Tryd.prog 65 #[.string signsB, .int .i32 65533] w fun e w' => e = .returned (.int .i64 (-1)) ∧ Touch (fun _ => False) w w' := by
  have hasc : ∀ p (h : p < signsB.size), (signsB[p]'h).toNat < 128 := fun p h => sign_ascii _ (by
    show signsB.data[p] ∈ signsB.data.toList
    simp)
  generalize signsB = S at *
  go_enter Tryd.func65, Tryd.ntmps65
  go_wp2_with fail
  go_loopw [] (fun w' => ∃ pos : Nat, w' = w.iter S pos) (fun w' => S.size - w'.iterPos w.heap.size)
  case atStart => exact ⟨0, rfl⟩
  case round =>
    obtain ⟨pos, rfl⟩ := hrel
    by_cases hp : pos < S.size
    · have hnx : ∀ ty, (Instr.next (.pointer (some ⟨w.heap.size, 0, none⟩)) true ty).run Tryd.prog (w.iter S pos) = _ := fun ty => run_next_ascii w S pos ty hp (hasc pos hp)
      have hne : (((S[pos]'hp).toNat : Int) == 65533) = false := by
        have := hasc pos hp
        simp
        omega
      go_wp2
      go_roundw
      case rel => exact ⟨pos + 1, rfl⟩
      case measure =>
        simp
        omega
    · have hnx : ∀ ty, (Instr.next (.pointer (some ⟨w.heap.size, 0, none⟩)) true ty).run Tryd.prog (w.iter S pos) = _ := fun ty => run_next_end w S pos ty hp
      go_wp2
      go_ret
      exact ⟨rfl, (Touch.refl _ _).alloc _⟩
end Go.Proofs.YtabhlhgfacpohaaDoor
