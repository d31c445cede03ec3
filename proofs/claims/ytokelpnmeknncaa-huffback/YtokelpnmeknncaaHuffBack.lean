/- HuffBack: symbols that are written by their codes are read again; for every input. -/
import Derived.Test.YtokelpnmeknncaaLb
import Derived.Test.YtokelpnmeknncaaHb
import Derived.Deep.RegionWith
namespace Go.Proofs.Ytokelpnmeknncaa
open Go.ChangeShapes Go.WideShapes Go.ChangeAt Go.RowKit Go.Deep

set_option maxRecDepth 100000 in
set_option maxHeartbeats 4000000 in
theorem huffBack_core (a : Option Addr) (len cap : Nat) (u : Nat → Bool) (a1 : Option Addr) (len1 cap1 : Nat) (F : Nat → Int) (w : World) (h : BRow w a len cap u) (h1 : Row w a1 len1 cap1 F) :
    Calls Try.prog 6 #[.slice a len cap, .slice a1 len1 cap1] w fun e w' => e = .returned (.bool true) ∧ Below w.heap.size w w' := by
  have hfit := h.fit
  have hfit1 := h1.fit
  obtain ⟨i0, hin, hz0, hz1, hz2⟩ := info_parts info4
  obtain ⟨j0, jin, jz0, jz1, jz2⟩ := info_parts info3
  go_enter Try.func6, Try.ntmps6
  go_wp2_with fail
  refine (speaks_yes w).mono ?_
  rintro e w1 ⟨rfl, ht⟩
  have T1 := hid ht
  have HR := hid (h.new ht)
  have HS := hid (h1.new ht)
  clear ht h h1
  by_cases hbad : len < 1 ∨ 1024 < len
  · rcases hbad with hb | hb
    · go_wp2
      go_ret
      exact ⟨rfl, T1.out.below _ (Nat.le_refl _) (fun _ e => e.elim)⟩
    · go_wp2
      go_ret
      exact ⟨rfl, T1.out.below _ (Nat.le_refl _) (fun _ e => e.elim)⟩
  · have hlo : ¬ len < 1 := fun h => hbad (.inl h)
    have hhi : ¬ 1024 < len := fun h => hbad (.inr h)
    clear hbad
    go_wp2_with (first
      | (at_builtin; refine wpList_copy w1 rfl _ _ 42 4 i0 (.bool false) 1 rfl Try.underlying42 hin hz0 hz1 hz2 rfl rfl a len cap rfl ((List.range len).map fun i => Value.bool (u i)) (by rw [List.length_map, List.length_range]) HR.out.vals (bone_cells u len) (by unfold maxLen; omega) (by omega) ?_))
    intro v2 w2 hown ht g c hv2
    subst hv2
    have T2 := hid (T1.out.trans ht (fun _ _ e => e))
    have S2 := hid (HS.out.new ht)
    have I2 := hid (own_bools hown)
    clear T1 HR HS hown ht
    go_wp2_with fail
    refine (even_all _ len c u w2 (by omega) I2.out).mono ?_
    rintro e w3 ⟨vl, rfl, ho, ht⟩
    obtain ⟨al, cl, rfl, hil⟩ := own_ints' ho
    have T3 := hid (T2.out.trans ht (fun _ _ e => e))
    have S3 := hid (S2.out.new ht)
    have L3 := hid hil
    clear T2 S2 I2 ho ht hil
    go_wp2_with fail
    refine (new_ok al len cl (evf u len) w3 (by omega) (evf_le u len (by omega)) L3.out (evf_err u len (by omega))).mono ?_
    rintro e w4 ⟨b, rfl, hT, ht⟩
    have T4 := hid (T3.out.trans ht (fun _ _ e => e))
    have S4 := hid (S3.out.new ht)
    have L4 := hid (L3.out.new ht)
    have HT := hid hT
    clear T3 S3 L3 ht hT
    go_wp2_with fail
    refine (codes_tbl b _ _ (evf u len) len w4 (by omega) HT.out).mono ?_
    rintro e w5 ⟨vc, rfl, ho, ht⟩
    obtain ⟨ac, cc, rfl, hic⟩ := own_ints' ho
    have T5 := hid (T4.out.trans ht (fun _ _ e => e))
    have S5 := hid (S4.out.new ht)
    have L5 := hid (L4.out.new ht)
    have C5 := hid hic
    have HT5 := hid (HT.out.kept ht (fun _ _ _ e => e))
    have hs45 := ht.size
    clear T4 S4 L4 HT ht ho hic
    go_wp2_with fail
    have hwk := wk_new w5 (bitsOf (evf u len) (codeOf (cOf (evf u len) len) (evf u len)) []) rfl
    have tA : Touch (fun _ => False) w5 (w5.alloc (.cells #[.slice none 0 0, .int .i64 0] 47)) := (Touch.refl _ w5).alloc _
    have ls := ints_below S5.out.ints
    have ll := ints_below L5.out
    have lc := ints_below C5.out
    have T6 := hid (T5.out.trans tA (fun _ _ e => e))
    have S6 := hid (S5.out.ints.new tA)
    have L6 := hid (L5.out.new tA)
    have C6 := hid (C5.out.new tA)
    have HT6 := hid (HT5.out.kept tA (fun _ _ _ e => e))
    have hw5 := T5.out.size
    have hW0 : (w5.alloc (.cells #[.slice none 0 0, .int .i64 0] 47)).heap.size = w5.heap.size + 1 := by simp
    clear T5 S5 L5 C5 HT5 tA
    generalize w5.alloc (.cells #[.slice none 0 0, .int .i64 0] 47) = W0 at *
    generalize w5.heap.size = wb at *
    have HW0 := hid hW0
    clear hW0
    obtain ⟨f, hf⟩ : ∃ f, f = evf u len := ⟨_, rfl⟩
    have HF := hid (show ∀ i, f i ≤ 15 from fun i => by rw [hf]; exact evf_le u len (by omega) i)
    have ER := hid (show errOf f len = 0 from by rw [hf]; exact evf_err u len (by omega))
    rw [← hf] at hwk L6 C6 HT6
    obtain ⟨code, hcode⟩ : ∃ code, code = codeOf (cOf f len) f := ⟨_, rfl⟩
    rw [← hcode] at hwk
    have CL := hid (show ∀ k, k < len → f k ≠ 0 → code k < 2 ^ f k from fun k hk h0 => by rw [hcode]; exact code_lt f HF.out len k hk h0 (err_ok ER.out).1)
    have PA := hid (show ∀ k, pathOf f len k = rev (code k) (f k) from fun k => by rw [hcode]; rfl)
    have C7 := hid (C6.out.ext (g := fun i => ((code i : Nat) : Int)) (fun i _ => by rw [hcode]))
    have WK := hid hwk
    clear hwk C6 hf hcode
    go_loopw [10, 11] (fun v i wr => ∃ (j : Nat) (ks : List Nat), i = .int .i64 (j : Nat) ∧ j ≤ len1 ∧ j ≤ 2000 ∧ ks.length ≤ j ∧ (∀ k ∈ ks, k < len ∧ f k ≠ 0) ∧ Wk W0 wr wb (bitsOf f code ks) ks v) (fun _ i _ => 2000 - (intOf i).toNat)
    case atStart => exact ⟨0, [], rfl, by omega, by omega, by simp, by simp, WK.out⟩
    case round =>
      obtain ⟨j, ks, rfl, hj1, hj2, hkl, hks, hwk⟩ := hrel
      have WK1 := hid hwk
      have KS := hid hks
      clear hwk hks
      by_cases hgo : j < len1 ∧ j < 2000
      · obtain ⟨hg1, hg2⟩ := hgo
        rcases ints_apart S6.out WK1.out.touch ls with h | ⟨b1, o1, ha1, hb1, hc1⟩
        · omega
        · subst ha1
          have d1 := hc1 j hg1
          clear hc1 hb1
          generalize F j = x at *
          obtain ⟨k, hk, hrem⟩ := rem_idx x len (by omega) (by omega)
          rcases ints_apart L6.out WK1.out.touch ll with h | ⟨b2, o2, ha2, hb2, hc2⟩
          · omega
          · rcases ints_apart C7.out WK1.out.touch lc with h | ⟨b3, o3, ha3, hb3, hc3⟩
            · omega
            · subst ha2 ha3
              have d2 : wr.cell? ⟨b2, o2 + k, none⟩ = some (.int .i64 (f k : Nat)) := hc2 k hk
              have d3 : wr.cell? ⟨b3, o3 + k, none⟩ = some (.int .i64 (code k : Nat)) := hc3 k hk
              clear hc2 hc3 hb2 hb3
              by_cases h0 : f k = 0
              · rw [h0] at d2
                go_wp2_with fail
                go_roundw
                case rel => exact ⟨j + 1, ks, by go_num, by omega, by omega, by omega, KS.out, WK1.out⟩
                case measure => simp [intOf]; omega
              · have hpos : (0 : Int) < ((f k : Nat) : Int) := by omega
                have hf15 := HF.out k
                have hlb := length_bitsOf f code HF.out ks
                have CY := hid (WK1.out.put k (by omega) (by omega))
                go_wp2_with fail
                go_region_with (go_at_call 21; refine (CY.out _ ((Still.refl wr).drew)).mono ?_; rintro e w7 ⟨rfl, hwk2⟩)
                all_goals
                  have W2 := hid hwk2
                  clear hwk2
                  have c1 := one_num w7 (k : Nat)
                  have OW := hid (W2.out.own.alloc (.cells #[.int .i64 (k : Nat)] 3))
                  have hsz7 : W0.heap.size ≤ w7.heap.size := W2.out.touch.size
                  go_wp2_with (first
                    | (at_builtin; refine wpList_append_own_at _ rfl _ _ 22 rfl W0.heap.size 3 j0 (.int .i64 0) 1 8 Try.underlying22 jin jz0 jz1 jz2 rfl (by decide) _ ks.length (natsV ks) rfl OW.out ⟨w7.heap.size, 0, none⟩ 1 1 [.int .i64 (k : Nat)] rfl rfl c1 (by intro u hu; simp at hu; subst hu; rfl) (by unfold maxLen; omega) (by omega) (by simp; omega) ?_))
                  intro v' w8 hown hgrow _ _
                  have W3 := hid (W2.out.grow hgrow hown)
                  clear hown hgrow c1 OW CY
                  go_wp2_with fail
                  go_roundw
                  case rel => exact ⟨j + 1, ks ++ [k], by go_num, by omega, by omega, by simp; omega, more_ks KS.out hk h0, W3.out⟩
                  case measure => simp [intOf]; omega
      · have hstop : ¬ j < len1 ∨ (j < len1 ∧ ¬ j < 2000) := by omega
        have hlb := length_bitsOf f code HF.out ks
        have hb2 := bits_bytes (bitsOf f code ks)
        obtain ⟨S, hS⟩ : ∃ S, strOf (Bt.pack (bitsOf f code ks)) = S := ⟨_, rfl⟩
        rw [hS] at hb2
        have HB2 := hid hb2
        have HS := hid hS
        have hS30 : S.size ≤ 4000 := by omega
        clear hb2 hS hgo
        obtain ⟨av, cv, G, hvv, hiv, hG⟩ := nums_own WK1.out.own
        subst hvv
        have IV := hid hiv
        have HG := hid hG
        clear hiv hG
        obtain ⟨nk, hnk⟩ : ∃ nk, nk = ks.length := ⟨_, rfl⟩
        have HNK := hid hnk
        rw [← hnk] at IV HG hkl ⊢
        clear hnk
        rcases hstop with hs1 | ⟨hs1, hs2⟩
        · go_wp2_with fail
          refine (all_any wb (bitsOf f code ks) wr WK1.out.wr).mono ?_
          rintro e w9 ⟨rfl, rfl⟩
          rw [HS.out]
          go_wp2_with fail
          refine (open_any _ _).mono ?_
          rintro e w10 ⟨rfl, rfl⟩
          have tA : Touch (fun j => j = wb) W0 (w9.alloc (.cells #[.string S, .int .i64 0] 65)) := WK1.out.touch.alloc _
          have hT9 := HT6.out.kept tA (fun k h1 h2 e => Nat.lt_irrefl k (Nat.lt_of_lt_of_le h2 (Nat.le_trans hs45 (Nat.le_of_eq e.symm))))
          have iv9 := IV.out.new ((Touch.refl (fun _ => False) w9).alloc (.cells #[.string S, .int .i64 0] 65))
          have li := ints_below IV.out
          have rd9 := rd_new w9 S
          have hsz9 : W0.heap.size ≤ w9.heap.size := WK1.out.touch.size
          have hw0 := HW0.out
          generalize w9.alloc (.cells #[.string S, .int .i64 0] 65) = R0 at *
          generalize w9.heap.size = r at *
          have TA := hid tA
          have HT9 := hid hT9
          have IV9 := hid iv9
          have RD9 := hid rd9
          have hrhi : w4.heap.size ≤ r := by omega
          have hwr : w.heap.size ≤ r ∧ w.heap.size ≤ wb := by omega
          clear tA hT9 iv9 rd9 hw0 hsz9
          go_wp2_with fail
          go_loopw [14] (fun i w2 => ∃ q : Nat, q ≤ nk ∧ i = .int .i64 (q : Nat) ∧ RStep R0 w2 r S (upTo f code ks q)) (fun i _ => nk - (intOf i).toNat)
          case atStart => exact ⟨0, Nat.zero_le _, rfl, RStep.refl RD9.out⟩
          case round =>
            obtain ⟨q, hq, rfl, hrs⟩ := hrel
            have R1 := hid hrs
            clear hrs
            by_cases hqn : q < nk
            · have hGq := HG.out q hqn
              have hkk := KS.out (G q) (List.mem_of_getElem? hGq)
              have hrd := read_at (f := f) (code := code) hGq
              rw [HS.out, ← PA.out] at hrd
              have hup := upTo_step (f := f) (code := code) hGq
              have HUP := hid hup
              have hT1 := HT9.out.kept R1.out.touch (fun k h1 h2 e => Nat.lt_irrefl k (Nat.lt_of_lt_of_le h2 (Nat.le_trans hrhi (Nat.le_of_eq e.symm))))
              have NX := hid (next_tbl b r (upTo f code ks q) _ _ f len S wr HF.out ER.out hT1 R1.out.rd (by omega) (by omega))
              have HRD := hid hrd
              have HKK := hid hkk
              clear hup hrd hkk hT1 hGq
              go_wp2_with fail
              refine NX.out.mono ?_
              intro e w11 hans
              obtain ⟨rfl, hrs⟩ := read_says HF.out ER.out hans HKK.out.1 HKK.out.2 HRD.out.1 HRD.out.2
              have R2 := hid (R1.out.trans hrs)
              clear hans hrs NX
              rcases ints_apart IV9.out R2.out.touch li with h | ⟨b5, o5, ha5, hb5, hc5⟩
              · omega
              · subst ha5
                have d5 : w11.cell? ⟨b5, o5 + q, none⟩ = some (.int .i64 (G q : Nat)) := hc5 q hqn
                clear hc5 hb5
                generalize G q = kk at *
                go_wp2_with fail
                exact ⟨⟨q + 1, by omega, by go_num, by rw [HUP.out]; exact R2.out⟩, by simp [intOf]; omega⟩
            · obtain rfl : q = nk := by omega
              have hall : upTo f code ks q = (bitsOf f code ks).length := by rw [HNK.out]; exact upTo_all f code ks
              have hby := HB2.out
              have TE := hid (show Touch (fun _ => False) w wr from (T6.out.trans TA.out (fun i hi e => by omega)).trans R1.out.touch (fun i hi e => by omega))
              obtain ⟨tt, htt⟩ : ∃ tt, tt = upTo f code ks q := ⟨_, rfl⟩
              rw [← htt] at hall R1
              have hlow : tt ≤ 8 * S.size := by omega
              have hnear : (8 * (S.size : Int) - (tt : Int)) < 8 := by omega
              have HNEAR := hid hnear
              clear hby hall htt hnear
              go_wp2_with fail
              refine (left_any r S tt wr R1.out.rd (by omega) hlow).mono ?_
              rintro e w12 ⟨rfl, hst⟩
              have TF := hid (TE.out.trans (hst.touch (fun _ => False)) (fun _ _ e => e))
              clear hst
              go_wp2
              go_ret
              exact ⟨ret_bool (decide_eq_true HNEAR.out), TF.out.below _ (Nat.le_refl _) (fun _ e => e.elim)⟩
        · go_wp2_with fail
          refine (all_any wb (bitsOf f code ks) wr WK1.out.wr).mono ?_
          rintro e w9 ⟨rfl, rfl⟩
          rw [HS.out]
          go_wp2_with fail
          refine (open_any _ _).mono ?_
          rintro e w10 ⟨rfl, rfl⟩
          have tA : Touch (fun j => j = wb) W0 (w9.alloc (.cells #[.string S, .int .i64 0] 65)) := WK1.out.touch.alloc _
          have hT9 := HT6.out.kept tA (fun k h1 h2 e => Nat.lt_irrefl k (Nat.lt_of_lt_of_le h2 (Nat.le_trans hs45 (Nat.le_of_eq e.symm))))
          have iv9 := IV.out.new ((Touch.refl (fun _ => False) w9).alloc (.cells #[.string S, .int .i64 0] 65))
          have li := ints_below IV.out
          have rd9 := rd_new w9 S
          have hsz9 : W0.heap.size ≤ w9.heap.size := WK1.out.touch.size
          have hw0 := HW0.out
          generalize w9.alloc (.cells #[.string S, .int .i64 0] 65) = R0 at *
          generalize w9.heap.size = r at *
          have TA := hid tA
          have HT9 := hid hT9
          have IV9 := hid iv9
          have RD9 := hid rd9
          have hrhi : w4.heap.size ≤ r := by omega
          have hwr : w.heap.size ≤ r ∧ w.heap.size ≤ wb := by omega
          clear tA hT9 iv9 rd9 hw0 hsz9
          go_wp2_with fail
          go_loopw [14] (fun i w2 => ∃ q : Nat, q ≤ nk ∧ i = .int .i64 (q : Nat) ∧ RStep R0 w2 r S (upTo f code ks q)) (fun i _ => nk - (intOf i).toNat)
          case atStart => exact ⟨0, Nat.zero_le _, rfl, RStep.refl RD9.out⟩
          case round =>
            obtain ⟨q, hq, rfl, hrs⟩ := hrel
            have R1 := hid hrs
            clear hrs
            by_cases hqn : q < nk
            · have hGq := HG.out q hqn
              have hkk := KS.out (G q) (List.mem_of_getElem? hGq)
              have hrd := read_at (f := f) (code := code) hGq
              rw [HS.out, ← PA.out] at hrd
              have hup := upTo_step (f := f) (code := code) hGq
              have HUP := hid hup
              have hT1 := HT9.out.kept R1.out.touch (fun k h1 h2 e => Nat.lt_irrefl k (Nat.lt_of_lt_of_le h2 (Nat.le_trans hrhi (Nat.le_of_eq e.symm))))
              have NX := hid (next_tbl b r (upTo f code ks q) _ _ f len S wr HF.out ER.out hT1 R1.out.rd (by omega) (by omega))
              have HRD := hid hrd
              have HKK := hid hkk
              clear hup hrd hkk hT1 hGq
              go_wp2_with fail
              refine NX.out.mono ?_
              intro e w11 hans
              obtain ⟨rfl, hrs⟩ := read_says HF.out ER.out hans HKK.out.1 HKK.out.2 HRD.out.1 HRD.out.2
              have R2 := hid (R1.out.trans hrs)
              clear hans hrs NX
              rcases ints_apart IV9.out R2.out.touch li with h | ⟨b5, o5, ha5, hb5, hc5⟩
              · omega
              · subst ha5
                have d5 : w11.cell? ⟨b5, o5 + q, none⟩ = some (.int .i64 (G q : Nat)) := hc5 q hqn
                clear hc5 hb5
                generalize G q = kk at *
                go_wp2_with fail
                exact ⟨⟨q + 1, by omega, by go_num, by rw [HUP.out]; exact R2.out⟩, by simp [intOf]; omega⟩
            · obtain rfl : q = nk := by omega
              have hall : upTo f code ks q = (bitsOf f code ks).length := by rw [HNK.out]; exact upTo_all f code ks
              have hby := HB2.out
              have TE := hid (show Touch (fun _ => False) w wr from (T6.out.trans TA.out (fun i hi e => by omega)).trans R1.out.touch (fun i hi e => by omega))
              obtain ⟨tt, htt⟩ : ∃ tt, tt = upTo f code ks q := ⟨_, rfl⟩
              rw [← htt] at hall R1
              have hlow : tt ≤ 8 * S.size := by omega
              have hnear : (8 * (S.size : Int) - (tt : Int)) < 8 := by omega
              have HNEAR := hid hnear
              clear hby hall htt hnear
              go_wp2_with fail
              refine (left_any r S tt wr R1.out.rd (by omega) hlow).mono ?_
              rintro e w12 ⟨rfl, hst⟩
              have TF := hid (TE.out.trans (hst.touch (fun _ => False)) (fun _ _ e => e))
              clear hst
              go_wp2
              go_ret
              exact ⟨ret_bool (decide_eq_true HNEAR.out), TF.out.below _ (Nat.le_refl _) (fun _ e => e.elim)⟩

theorem huffBack_walk (a : Option Addr) (len cap : Nat) (u : Nat → Bool) (a1 : Option Addr) (len1 cap1 : Nat) (zs : List Int) (w : World) (h : BRow w a len cap u) (h1 : IsRow w a1 len1 cap1 zs) :
    Calls Try.prog 6 #[.slice a len cap, .slice a1 len1 cap1] w fun e w' => e = .returned (.bool true) ∧ Below w.heap.size w w' := huffBack_core a len cap u a1 len1 cap1 _ w h h1.row

set_option maxRecDepth 100000 in
theorem huffBack_lifted (os : Os) (started : os.Started) (H : Type) (enc : TypeId × Value → H) :
    ReturnsInHanded {} Try.checked os 6 .any (Rows.huffBackSpec.pre6 enc Try.prog Try.f6 Rows.huffBackRow.domain false) (Rows.huffBackSpec.post enc Try.prog Try.f6 false true false false) := by
  refine returnsInHanded_of_change_sized (C := Try.checked) own started (by kernel_rfl) Try.func6
    (ChangeSpec.witness6 (enc := enc) (C := Try.checked) false ⟨#[], #[.slice none 0 0, .slice none 0 0], []⟩ 8 (by kernel_rfl) (by kernel_rfl) (by kernel_rfl) (by kernel_rfl)) ?_
  intro W base args ds gs before hval0 hW hcnd hsz0 _
  have hsz : (DataW.weightsEach Try.prog (Try.f6.params.toList ++ Rows.huffBackSpec.plain.varTypes Try.prog) (ds ++ gs)).all (· ≤ reachBytes) = true := hsz0
  clear hsz0
  have hval : ∀ (j : Nat) t v, Try.f6.params[j]? = some t → args[j]? = some v → Value.okWide Try.prog W .any base t v := hval0
  have hW' := hW
  obtain ⟨p, q, hA0, hV, rfl, hfz, hnd⟩ := hW
  have hA : DataW.TrodAll enc Try.prog W 0 (fun _ => true) true Try.f6.params.toList args.toList ds p := hA0
  rw [Try.params6] at hA hval hsz
  obtain ⟨v0, vs0, d0, ds0, p0, q0, hargs, rfl, rfl, h0, r0⟩ := trodAll_cons hA
  obtain ⟨v1, vs1, d1, ds1, p1, q1, rfl, rfl, rfl, h1, r1⟩ := trodAll_cons r0
  obtain ⟨rfl, rfl, rfl⟩ := trodAll_nil r1
  obtain rfl : args = #[v0, v1] := by cases args; simp_all
  obtain ⟨rfl, rfl⟩ := trodVars_none hV
  obtain ⟨a0, len0, cap0, rfl⟩ := okWide_slice Try.underlying42 (hval 0 42 v0 rfl rfl)
  have k0 := h0
  have lt0 : ∀ x ∈ p0, x.block < W.heap.size := by obtain ⟨m, hm⟩ := k0; exact DataW.trod_lt m _ _ _ hm
  obtain ⟨z0, w0⟩ : ∃ u, BRow W a0 len0 cap0 u := by
    obtain ⟨fuel, hf⟩ := h0
    rcases open_bools Try.underlying42 Try.underlying4 (by kernel_rfl) hf with ⟨hcs, _⟩ | ⟨x, l, c, B, hcs, _, hl, hm, hx, hcell⟩
    · simp [Value.cells] at hcs
      obtain ⟨rfl, rfl, rfl⟩ := hcs
      exact ⟨fun _ => false, brow_none W _⟩
    · simp [Value.cells] at hcs
      obtain ⟨rfl, rfl, rfl⟩ := hcs
      simp only [Prod.mk.injEq] at hx
      obtain ⟨rfl, rfl⟩ := hx
      have hs := sized_slice hsz (j := 0) (t := 42) (e := 4) rfl rfl Try.underlying42
      rw [show Try.prog.bytesOf 4 = 1 by kernel_rfl] at hs
      simp only [List.length_map, List.length_range, reachBytes] at hs
      exact ⟨B, brow_of hl (by omega) hcell⟩
  obtain ⟨a1, len1, cap1, rfl⟩ := okWide_slice Try.underlying22 (hval 1 22 v1 rfl rfl)
  have k1 := h1
  have lt1 : ∀ x ∈ p1, x.block < W.heap.size := by obtain ⟨m, hm⟩ := k1; exact DataW.trod_lt m _ _ _ hm
  obtain ⟨z1, w1⟩ : ∃ zs, IsRow W a1 len1 cap1 zs := by
    obtain ⟨fuel, hf⟩ := h1
    rcases open_ints Try.underlying22 Try.underlying3 (by kernel_rfl) hf with ⟨hcs, _⟩ | ⟨x, l, c, zs, hcs, _, hl, hm, hz, hx, hcell, hwz⟩
    · simp [Value.cells] at hcs
      obtain ⟨rfl, rfl, rfl⟩ := hcs
      exact ⟨[], .inl ⟨rfl, rfl, rfl, rfl⟩⟩
    · simp [Value.cells] at hcs
      obtain ⟨rfl, rfl, rfl⟩ := hcs
      simp only [Prod.mk.injEq] at hx
      obtain ⟨rfl, rfl⟩ := hx
      have hs := sized_slice hsz (j := 1) (t := 22) (e := 3) rfl rfl Try.underlying22
      rw [show Try.prog.bytesOf 3 = 8 by kernel_rfl] at hs
      simp only [lits, List.length_map, List.length_take, List.length_drop, reachBytes] at hs
      simp only [if_true] at hz
      refine ⟨zs, .inr ⟨_, rfl, hl, by omega, hz, ?_, hcell, hwz⟩⟩
      intro hi
      have hb := World.block_lt_of_cell? W _ (hcell 0 (by omega))
      simpa [Addr.add] using hb
  clear hA0 hval0
  refine (huffBack_walk a0 len0 cap0 z0 a1 len1 cap1 z1 W w0 w1).mono fun e W' ⟨he, bel⟩ => ?_
  subst he
  exact ⟨_, rfl, _, _, _, [], _, [], hW', trodAll_mk1 (shut_bool Try.underlying4 _), (trodAll_cons_mk (Below.trod laidOut (by kernel_rfl) (of_decide_eq_true (by kernel_rfl)) k0 bel lt0) (trodAll_cons_mk (Below.trod laidOut (by kernel_rfl) (of_decide_eq_true (by kernel_rfl)) k1 bel lt1) trodAll_mk0)), rfl, bel.frame _, fun h => by cases h⟩

theorem huffBack_holds : Rows.HuffBackSaid :=
  OpenClaim.holds_of_wide 6 Try.f6 rfl rfl rfl rfl rfl rfl rfl ⟨rfl, rfl, rfl, rfl, rfl⟩ rfl rfl rfl rfl rfl (by kernel_rfl) Try.func6 (by kernel_rfl)
    (of_decide_eq_true (by kernel_rfl)) (by unfold Func.isWrapper; first | (rw [if_pos (by decide +kernel)]; kernel_rfl) | (rw [if_neg (by decide +kernel)]; exact ⟨rfl, rfl⟩))
    (fun os started H enc _ => huffBack_lifted os started H enc)
#print axioms huffBack_holds
end Go.Proofs.Ytokelpnmeknncaa
