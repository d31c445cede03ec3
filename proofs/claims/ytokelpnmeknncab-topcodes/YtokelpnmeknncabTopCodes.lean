/- TopCodes: the codes of any lengths, written one behind the other in any order, are read as they were written, and no code is the beginning of another one; for every input. -/
import Derived.Test.YtokelpnmeknncabLw
import Derived.Test.YtokelpnmeknncabHb
import Derived.Deep.RegionWith
namespace Go.Proofs.Ytokelpnmeknncab
open Go.ChangeShapes Go.WideShapes Go.ChangeAt Go.RowKit

def tf (i : Nat) : Nat := if i < 2 then 1 else 0
theorem tf_le (i : Nat) : tf i ≤ 15 := by unfold tf; split <;> omega
theorem tf_err : errOf tf 2 = 0 := by decide
theorem tf_ints (w : World) : Ints (w.alloc (.cells #[.int .i64 1, .int .i64 1] 3)) (some ⟨w.heap.size, 0, none⟩) 2 (fun i => (tf i : Nat)) := by
  refine .inr ⟨w.heap.size, 0, rfl, by simp, fun i hi => ?_⟩
  have hb : (w.alloc (.cells #[.int .i64 1, .int .i64 1] 3)).heap[w.heap.size]? = some (.cells #[.int .i64 1, .int .i64 1] 3) := by
    show (w.heap.push _)[_]? = _
    simp
  rcases i with _ | _ | i
  · simp only [World.cell?, hb]; rfl
  · simp only [World.cell?, hb]; rfl
  · omega

theorem apart_says (f : Nat → Nat) (hf : ∀ i, f i ≤ 15) (len k i : Nat) (hk : k < i) (hi : i < len) (hk0 : f k ≠ 0) (hi0 : f i ≠ 0) :
    codeOf (cOf f len) f i / 2 ^ (f i - min (f i) (f k)) ≠ codeOf (cOf f len) f k / 2 ^ (f k - min (f i) (f k)) := by
  rcases Nat.lt_or_ge (f i) (f k) with h | h
  · have h1 := code_ahead f hf len i k hi hi0 hk0 (.inl h)
    rw [show min (f i) (f k) = f i by omega, show f i - f i = 0 by omega, Nat.pow_zero, Nat.div_one]
    have := (Nat.le_div_iff_mul_le (Nat.pow_pos (n := f k - f i) (by decide : 0 < 2))).mpr h1
    omega
  · have h1 := code_ahead f hf len k i (by omega) hk0 hi0 (by omega)
    rw [show min (f i) (f k) = f k by omega, show f k - f k = 0 by omega, Nat.pow_zero, Nat.div_one]
    have := (Nat.le_div_iff_mul_le (Nat.pow_pos (n := f i - f k) (by decide : 0 < 2))).mpr h1
    omega

theorem shr_cast (y e : Nat) : (y : Int) / 2 ^ e = ((y / 2 ^ e : Nat) : Int) := by simp
theorem ne_shr {x y e : Nat} (h : x ≠ y / 2 ^ e) : ((x : Int) == (y : Int) / 2 ^ e) = false := by
  rw [shr_cast]
  generalize y / 2 ^ e = z at *
  simp
  omega
theorem ne_shr' {x y e : Nat} (h : y / 2 ^ e ≠ x) : ((y : Int) / 2 ^ e == (x : Int)) = false := by
  rw [shr_cast]
  generalize y / 2 ^ e = z at *
  simp
  omega

set_option maxRecDepth 100000 in
set_option maxHeartbeats 4000000 in
theorem topCodes_core (a : Option Addr) (len cap : Nat) (F : Nat → Int) (a1 : Option Addr) (len1 cap1 : Nat) (F1 : Nat → Int) (w : World) (h : Row w a len cap F) (h1 : Row w a1 len1 cap1 F1) :
    Calls Try.prog 3 #[.slice a len cap, .slice a1 len1 cap1] w fun e w' => e = .returned (.bool true) ∧ Below w.heap.size w w' := by
  have hb8 := h.fit
  have hb81 := h1.fit
  obtain ⟨i0, hin, hz0, hz1, hz2⟩ := info_parts info3
  go_enter Try.func3, Try.ntmps3
  go_wp2_with fail
  refine (new_ok (some ⟨w.heap.size, 0, none⟩) 2 2 tf _ (by decide) tf_le (tf_ints w) tf_err).mono ?_
  rintro e w0 ⟨b0, rfl, hT0, ht0⟩
  have T0 := hid (((Touch.refl (fun _ => False) w).alloc (.cells #[.int .i64 1, .int .i64 1] 3)).trans ht0 (fun _ _ e => e))
  have HT0 := hid hT0
  clear ht0 hT0
  go_wp2_with fail
  refine (codes_tbl b0 _ _ tf 2 w0 (by decide) HT0.out).mono ?_
  rintro e w1 ⟨v0, rfl, ho, ht⟩
  obtain ⟨a0, c0, rfl, _⟩ := own_ints' ho
  have T1 := hid (T0.out.trans ht (fun _ _ e => e))
  have HR := hid (h.new T1.out)
  have HS := hid (h1.new T1.out)
  clear ho ht h h1 T0 HT0
  go_wp2_with (first
    | (at_builtin; refine wpList_copy w1 rfl _ _ 22 3 i0 (.int .i64 0) 8 rfl Try.underlying22 hin hz0 hz1 hz2 rfl rfl a len cap rfl ((List.range len).map fun i => Value.int .i64 (F i)) (by rw [List.length_map, List.length_range]) HR.out.vals (one_cells F len) (by unfold maxLen; omega) (by omega) ?_))
  intro v w2 hown ht g c hv
  subst hv
  have T2 := hid (T1.out.trans ht (fun _ _ e => e))
  have R2 := hid (HR.out.new ht)
  have S2 := hid (HS.out.new ht)
  have I2 := hid (own_ints hown)
  clear T1 HR HS hown ht
  go_wp2_with fail
  refine (new_all _ len c F w2 (by omega) I2.out).mono ?_
  rintro e w3 ⟨vd, hvd, ht, hres⟩
  have T3 := hid (T2.out.trans ht (fun _ _ e => e))
  have R3 := hid (R2.out.new ht)
  have S3 := hid (S2.out.new ht)
  have VD := hid hvd
  clear T2 R2 S2 I2 hvd ht
  rcases hres with ⟨hne, rfl⟩ | ⟨rfl, b, rfl, hT⟩
  · have hnz : ((vd : Nat) : Int) ≠ 0 := by omega
    have hnz' : (((vd : Nat) : Int) != 0) = true := bne_iff_ne.mpr hnz
    go_wp2_with fail
    refine (tcodes_nil w3).mono ?_
    rintro e w4 ⟨rfl, rfl⟩
    go_wp2
    go_ret
    exact ⟨rfl, T3.out.below _ (Nat.le_refl _) (fun _ e => e.elim)⟩
  · have HT := hid hT
    have hok : len ≤ 1024 ∧ okLens F len ∧ errOf (fl F len) len = 0 := by
      rcases VD.out with ⟨h, h2, h3⟩ | ⟨_, h⟩
      · exact ⟨h, h2, h3.symm⟩
      · omega
    obtain ⟨hlen, hokl, herr⟩ := hok
    have OK := hid hokl
    have ER0 := hid herr
    clear hT hokl herr VD
    go_wp2_with fail
    refine (codes_tbl b _ _ (fl F len) len w3 hlen HT.out).mono ?_
    rintro e w5 ⟨v, rfl, ho, ht⟩
    obtain ⟨ac, cc, rfl, hic⟩ := own_ints' ho
    have T5 := hid (T3.out.trans ht (fun _ _ e => e))
    have R5 := hid (R3.out.new ht)
    have S5 := hid (S3.out.new ht)
    have HT5 := hid (HT.out.kept ht (fun _ _ _ e => e))
    have hs45 := ht.size
    have Lints := hid (R5.out.ints.ext (g := fun i => ((fl F len i : Nat) : Int)) (fun i hi => fl_eq OK.out hi))
    obtain ⟨f, hf⟩ : ∃ f, f = fl F len := ⟨_, rfl⟩
    rw [← hf] at Lints hic HT5
    have HF := hid (show ∀ i, f i ≤ 15 from fun i => by rw [hf]; exact fl_le F len i)
    have ER := hid (show errOf f len = 0 from by rw [hf]; exact ER0.out)
    have C5 := hid hic
    clear ht ho hic T3 R3 S3 HT OK ER0 R5 hf
    have HR := hid (err_ok ER.out).1
    go_wp2_with fail
    go_loopw [10] (fun i wr => ∃ n : Nat, n ≤ len ∧ i = .int .i64 (n : Nat) ∧ Still w5 wr) (fun i _ => len - (intOf i).toNat)
    case atStart => exact ⟨0, Nat.zero_le _, rfl, Still.refl _⟩
    case round =>
      obtain ⟨n, hn, rfl, hst⟩ := hrel
      have ST := hid hst
      clear hst
      by_cases hlt : n < len
      · go_wp2_with fail
        go_loopw [11] (fun i wr => ∃ k : Nat, k ≤ n ∧ i = .int .i64 (k : Nat) ∧ Still w5 wr) (fun i _ => n - (intOf i).toNat)
        case atStart => exact ⟨0, Nat.zero_le _, rfl, ST.out⟩
        case round =>
          obtain ⟨k, hk, rfl, hst⟩ := hrel
          have S2 := hid hst
          clear hst
          by_cases hkn : k < n
          · rcases Lints.out.new (S2.out.touch _) with h | ⟨b1, o1, ha1, hb1, hc1⟩
            · omega
            · rcases C5.out.new (S2.out.touch _) with h | ⟨b2, o2, ha2, hb2, hc2⟩
              · omega
              · subst ha1 ha2
                have d1 : wr.cell? ⟨b1, o1 + k, none⟩ = some (.int .i64 (f k : Nat)) := hc1 k (by omega)
                have d2 : wr.cell? ⟨b1, o1 + n, none⟩ = some (.int .i64 (f n : Nat)) := hc1 n hlt
                have d3 : wr.cell? ⟨b2, o2 + k, none⟩ = some (.int .i64 (codeOf (cOf f len) f k : Nat)) := hc2 k (by omega)
                have d4 : wr.cell? ⟨b2, o2 + n, none⟩ = some (.int .i64 (codeOf (cOf f len) f n : Nat)) := hc2 n hlt
                clear hc1 hc2 hb1 hb2
                have hfk := HF.out k
                have hfn := HF.out n
                have APT := hid (apart_says f HF.out len k n hkn hlt)
                generalize codeOf (cOf f len) f k = ck at *
                generalize codeOf (cOf f len) f n = cn at *
                generalize f k = A at *
                generalize f n = B at *
                by_cases hle : B ≤ A
                · by_cases hz : B = 0
                  · subst hz
                    go_wp2_with fail
                    go_quiet (fail)
                    go_wp2_with fail
                    go_quiet (fail)
                    go_wp2_with fail
                    all_goals exact ⟨⟨k + 1, by omega, by go_num, S2.out.drewN _⟩, by simp [intOf]; omega⟩
                  · have hpos : (0 : Int) < (B : Int) := by omega
                    have hposN : 0 < B := by omega
                    have hposD : decide ((0 : Int) < (B : Int)) = true := decide_eq_true hpos
                    have hposE : decide (0 < B) = true := decide_eq_true hposN
                    have hleI : (B : Int) ≤ (A : Int) := by omega
                    have hcmp : ((cn : Int) == (ck : Int) / 2 ^ (A - B)) = false := ne_shr (by
                      have := APT.out (by omega) hz
                      rwa [show min B A = B by omega, Nat.sub_self, Nat.pow_zero, Nat.div_one] at this)
                    go_wp2_with fail
                    go_quiet (fail)
                    go_wp2_with fail
                    go_quiet (fail)
                    go_wp2_with fail
                    exact ⟨⟨k + 1, by omega, by go_num, S2.out.drewN _⟩, by simp [intOf]; omega⟩
                · by_cases hz : A = 0
                  · subst hz
                    go_wp2_with fail
                    go_quiet (fail)
                    go_wp2_with fail
                    go_quiet (fail)
                    go_wp2_with fail
                    all_goals exact ⟨⟨k + 1, by omega, by go_num, S2.out.drewN _⟩, by simp [intOf]; omega⟩
                  · have hpos : (0 : Int) < (A : Int) := by omega
                    have hposN : 0 < A := by omega
                    have hposD : decide ((0 : Int) < (A : Int)) = true := decide_eq_true hpos
                    have hposE : decide (0 < A) = true := decide_eq_true hposN
                    have hleI : ¬ (B : Int) ≤ (A : Int) := by omega
                    have hcmp : ((cn : Int) / 2 ^ (B - A) == (ck : Int)) = false := ne_shr' (by
                      have := APT.out hz (by omega)
                      rwa [show min B A = A by omega, Nat.sub_self, Nat.pow_zero, Nat.div_one] at this)
                    go_wp2_with fail
                    go_quiet (fail)
                    go_wp2_with fail
                    go_quiet (fail)
                    go_wp2_with fail
                    exact ⟨⟨k + 1, by omega, by go_num, S2.out.drewN _⟩, by simp [intOf]; omega⟩
          · obtain rfl : k = n := by omega
            go_wp2_with fail
            go_roundw
            case rel => exact ⟨k + 1, by omega, by go_num, S2.out⟩
            case measure => simp [intOf]; omega
      · have hw5n := hid (show Touch (fun _ => False) w5 wr from ST.out.touch _)
        have T6 := hid (T5.out.trans hw5n.out (fun _ _ e => e))
        have S6 := hid (S5.out.new hw5n.out)
        have L6 := hid (Lints.out.new hw5n.out)
        have C6 := hid (C5.out.new hw5n.out)
        have HT6 := hid (HT5.out.kept hw5n.out (fun _ _ _ e => e))
        have hsz6 := hw5n.out.size
        clear T5 S5 Lints C5 HT5 ST hw5n
        go_wp2_with fail
        have hwk := wk_new wr (bitsOf f (codeOf (cOf f len) f) []) rfl
        have tA : Touch (fun _ => False) wr (wr.alloc (.cells #[.slice none 0 0, .int .i64 0] 30)) := (Touch.refl _ wr).alloc _
        have ls := ints_below S6.out.ints
        have ll := ints_below L6.out
        have lc := ints_below C6.out
        have T7 := hid (T6.out.trans tA (fun _ _ e => e))
        have S7 := hid (S6.out.ints.new tA)
        have L7 := hid (L6.out.new tA)
        have C7 := hid (C6.out.new tA)
        have HT7 := hid (HT6.out.kept tA (fun _ _ _ e => e))
        have hw6 := T6.out.size
        have hW0 : (wr.alloc (.cells #[.slice none 0 0, .int .i64 0] 30)).heap.size = wr.heap.size + 1 := by simp
        clear T6 S6 L6 C6 HT6 tA
        generalize wr.alloc (.cells #[.slice none 0 0, .int .i64 0] 30) = W0 at *
        generalize wr.heap.size = wb at *
        have HW0 := hid hW0
        clear hW0
        have hlow : w3.heap.size ≤ wb := by omega
        obtain ⟨code, hcode⟩ : ∃ code, code = codeOf (cOf f len) f := ⟨_, rfl⟩
        rw [← hcode] at hwk
        have PA := hid (show ∀ k, pathOf f len k = rev (code k) (f k) from fun k => by rw [hcode]; rfl)
        have C8 := hid (C7.out.ext (g := fun i => ((code i : Nat) : Int)) (fun i _ => by rw [hcode]))
        have WK := hid hwk
        clear hwk C7 hcode
        go_loopw [16, 17] (fun v i wr => ∃ (j : Nat) (ks : List Nat), i = .int .i64 (j : Nat) ∧ j ≤ len1 ∧ j ≤ 3000 ∧ ks.length ≤ j ∧ (∀ k ∈ ks, k < len ∧ f k ≠ 0) ∧ Wk W0 wr wb (bitsOf f code ks) ks v) (fun _ i _ => 3000 - (intOf i).toNat)
        case atStart => exact ⟨0, [], rfl, by omega, by omega, by simp, by simp, WK.out⟩
        case round =>
          obtain ⟨j, ks, rfl, hj1, hj2, hkl, hks, hwk⟩ := hrel
          have WK1 := hid hwk
          have KS := hid hks
          clear hwk hks
          by_cases hgo : j < len1 ∧ j < 3000 ∧ 0 < len
          · obtain ⟨hg1, hg2, hg3⟩ := hgo
            rcases ints_apart S7.out WK1.out.touch ls with h | ⟨b1, o1, ha1, hb1, hc1⟩
            · omega
            · subst ha1
              have d1 := hc1 j hg1
              clear hc1 hb1
              generalize F1 j = x at *
              obtain ⟨k, hk, hrem⟩ := rem_idx x len (by omega) (by omega)
              rcases ints_apart L7.out WK1.out.touch ll with h | ⟨b2, o2, ha2, hb2, hc2⟩
              · omega
              · rcases ints_apart C8.out WK1.out.touch lc with h | ⟨b3, o3, ha3, hb3, hc3⟩
                · omega
                · subst ha2 ha3
                  have d2 : wr.cell? ⟨b2, o2 + k, none⟩ = some (.int .i64 (f k : Nat)) := hc2 k hk
                  have d3 : wr.cell? ⟨b3, o3 + k, none⟩ = some (.int .i64 (code k : Nat)) := hc3 k hk
                  clear hc2 hc3 hb2 hb3
                  by_cases h0 : f k = 0
                  · rw [h0] at d2
                    go_wp2_with fail
                    go_roundw
                    case rel => exact ⟨j + 1, ks, by go_num, by omega, by omega, by omega, KS.out, WK1.out⟩
                    case measure => simp [intOf]; omega
                  · have hpos : (0 : Int) < ((f k : Nat) : Int) := by omega
                    have hf15 := HF.out k
                    have hlb := length_bitsOf f code HF.out ks
                    have CY := hid (WK1.out.put k (by omega) (by omega))
                    go_wp2_with fail
                    go_region_with (go_at_call 11; refine (CY.out _ ((Still.refl wr).drew)).mono ?_; rintro e w7 ⟨rfl, hwk2⟩)
                    all_goals
                      have W2 := hid hwk2
                      clear hwk2
                      have c1 := one_num w7 (k : Nat)
                      have OW := hid (W2.out.own.alloc (.cells #[.int .i64 (k : Nat)] 3))
                      have hsz7 : W0.heap.size ≤ w7.heap.size := W2.out.touch.size
                      go_wp2_with (first
                        | (at_builtin; refine wpList_append_own_at _ rfl _ _ 22 rfl W0.heap.size 3 i0 (.int .i64 0) 1 8 Try.underlying22 hin hz0 hz1 hz2 rfl (by decide) _ ks.length (natsV ks) rfl OW.out ⟨w7.heap.size, 0, none⟩ 1 1 [.int .i64 (k : Nat)] rfl rfl c1 (by intro u hu; simp at hu; subst hu; rfl) (by unfold maxLen; omega) (by omega) (by simp; omega) ?_))
                      intro v' w8 hown hgrow _ _
                      have W3 := hid (W2.out.grow hgrow hown)
                      clear hown hgrow c1 OW CY
                      go_wp2_with fail
                      go_roundw
                      case rel => exact ⟨j + 1, ks ++ [k], by go_num, by omega, by omega, by simp; omega, more_ks KS.out hk h0, W3.out⟩
                      case measure => simp [intOf]; omega
          · have hstop : ¬ j < len1 ∨ (j < len1 ∧ ¬ j < 3000) ∨ (j < len1 ∧ j < 3000 ∧ len = 0) := by omega
            have hlb := length_bitsOf f code HF.out ks
            have hb2 := bits_bytes (bitsOf f code ks)
            obtain ⟨S, hS⟩ : ∃ S, strOf (Bt.pack (bitsOf f code ks)) = S := ⟨_, rfl⟩
            rw [hS] at hb2
            have HS := hid hS
            have hS30 : S.size ≤ 6000 := by omega
            clear hb2 hS hgo
            obtain ⟨av, cv, G, hvv, hiv, hG⟩ := nums_own WK1.out.own
            subst hvv
            have IV := hid hiv
            have HG := hid hG
            clear hiv hG
            obtain ⟨nk, hnk⟩ : ∃ nk, nk = ks.length := ⟨_, rfl⟩
            rw [← hnk] at IV HG hkl ⊢
            clear hnk
            rcases hstop with hs1 | ⟨hs1, hs2⟩ | ⟨hs1, hs2, hs3⟩
            · go_wp2_with fail
              refine (all_any wb (bitsOf f code ks) wr WK1.out.wr).mono ?_
              rintro e w9 ⟨rfl, rfl⟩
              rw [HS.out]
              go_wp2_with fail
              refine (open_any _ _).mono ?_
              rintro e w10 ⟨rfl, rfl⟩
              have tA : Touch (fun j => j = wb) W0 (w9.alloc (.cells #[.string S, .int .i64 0] 65)) := WK1.out.touch.alloc _
              have hT9 := HT7.out.kept tA (fun k h1 h2 e => Nat.lt_irrefl k (Nat.lt_of_lt_of_le h2 (Nat.le_trans hlow (Nat.le_of_eq e.symm))))
              have iv9 := IV.out.new ((Touch.refl (fun _ => False) w9).alloc (.cells #[.string S, .int .i64 0] 65))
              have li := ints_below IV.out
              have rd9 := rd_new w9 S
              have hsz9 : W0.heap.size ≤ w9.heap.size := WK1.out.touch.size
              have hw0 := HW0.out
              generalize w9.alloc (.cells #[.string S, .int .i64 0] 65) = R0 at *
              generalize w9.heap.size = r at *
              have TA := hid tA
              have HT9 := hid hT9
              have IV9 := hid iv9
              have RD9 := hid rd9
              have hrhi : w3.heap.size ≤ r := by omega
              have hwr : w.heap.size ≤ r ∧ w.heap.size ≤ wb := by omega
              clear tA hT9 iv9 rd9 hw0 hsz9
              go_wp2_with fail
              go_loopw [20] (fun i w2 => ∃ q : Nat, q ≤ nk ∧ i = .int .i64 (q : Nat) ∧ RStep R0 w2 r S (upTo f code ks q)) (fun i _ => nk - (intOf i).toNat)
              case atStart => exact ⟨0, Nat.zero_le _, rfl, RStep.refl RD9.out⟩
              case round =>
                obtain ⟨q, hq, rfl, hrs⟩ := hrel
                have R1 := hid hrs
                clear hrs
                by_cases hqn : q < nk
                · have hGq := HG.out q hqn
                  have hkk := KS.out (G q) (List.mem_of_getElem? hGq)
                  have hrd := read_at (f := f) (code := code) hGq
                  rw [HS.out, ← PA.out] at hrd
                  have hup := upTo_step (f := f) (code := code) hGq
                  have HUP := hid hup
                  have hT1 := HT9.out.kept R1.out.touch (fun k h1 h2 e => Nat.lt_irrefl k (Nat.lt_of_lt_of_le h2 (Nat.le_trans hrhi (Nat.le_of_eq e.symm))))
                  have NX := hid (next_tbl b r (upTo f code ks q) _ _ f len S wr HF.out ER.out hT1 R1.out.rd (by omega) (by omega))
                  have HRD := hid hrd
                  have HKK := hid hkk
                  clear hup hrd hkk hT1 hGq
                  go_wp2_with fail
                  refine NX.out.mono ?_
                  intro e w11 hans
                  obtain ⟨rfl, hrs⟩ := read_says HF.out ER.out hans HKK.out.1 HKK.out.2 HRD.out.1 HRD.out.2
                  have R2 := hid (R1.out.trans hrs)
                  clear hans hrs NX
                  rcases ints_apart IV9.out R2.out.touch li with h | ⟨b5, o5, ha5, hb5, hc5⟩
                  · omega
                  · subst ha5
                    have d5 : w11.cell? ⟨b5, o5 + q, none⟩ = some (.int .i64 (G q : Nat)) := hc5 q hqn
                    clear hc5 hb5
                    generalize G q = kk at *
                    go_wp2_with fail
                    exact ⟨⟨q + 1, by omega, by go_num, by rw [HUP.out]; exact R2.out⟩, by simp [intOf]; omega⟩
                · have TE := hid (show Touch (fun _ => False) w wr from (T7.out.trans TA.out (fun i hi e => by omega)).trans R1.out.touch (fun i hi e => by omega))
                  go_wp2
                  go_ret
                  exact ⟨rfl, TE.out.below _ (Nat.le_refl _) (fun _ e => e.elim)⟩
            · go_wp2_with fail
              refine (all_any wb (bitsOf f code ks) wr WK1.out.wr).mono ?_
              rintro e w9 ⟨rfl, rfl⟩
              rw [HS.out]
              go_wp2_with fail
              refine (open_any _ _).mono ?_
              rintro e w10 ⟨rfl, rfl⟩
              have tA : Touch (fun j => j = wb) W0 (w9.alloc (.cells #[.string S, .int .i64 0] 65)) := WK1.out.touch.alloc _
              have hT9 := HT7.out.kept tA (fun k h1 h2 e => Nat.lt_irrefl k (Nat.lt_of_lt_of_le h2 (Nat.le_trans hlow (Nat.le_of_eq e.symm))))
              have iv9 := IV.out.new ((Touch.refl (fun _ => False) w9).alloc (.cells #[.string S, .int .i64 0] 65))
              have li := ints_below IV.out
              have rd9 := rd_new w9 S
              have hsz9 : W0.heap.size ≤ w9.heap.size := WK1.out.touch.size
              have hw0 := HW0.out
              generalize w9.alloc (.cells #[.string S, .int .i64 0] 65) = R0 at *
              generalize w9.heap.size = r at *
              have TA := hid tA
              have HT9 := hid hT9
              have IV9 := hid iv9
              have RD9 := hid rd9
              have hrhi : w3.heap.size ≤ r := by omega
              have hwr : w.heap.size ≤ r ∧ w.heap.size ≤ wb := by omega
              clear tA hT9 iv9 rd9 hw0 hsz9
              go_wp2_with fail
              go_loopw [20] (fun i w2 => ∃ q : Nat, q ≤ nk ∧ i = .int .i64 (q : Nat) ∧ RStep R0 w2 r S (upTo f code ks q)) (fun i _ => nk - (intOf i).toNat)
              case atStart => exact ⟨0, Nat.zero_le _, rfl, RStep.refl RD9.out⟩
              case round =>
                obtain ⟨q, hq, rfl, hrs⟩ := hrel
                have R1 := hid hrs
                clear hrs
                by_cases hqn : q < nk
                · have hGq := HG.out q hqn
                  have hkk := KS.out (G q) (List.mem_of_getElem? hGq)
                  have hrd := read_at (f := f) (code := code) hGq
                  rw [HS.out, ← PA.out] at hrd
                  have hup := upTo_step (f := f) (code := code) hGq
                  have HUP := hid hup
                  have hT1 := HT9.out.kept R1.out.touch (fun k h1 h2 e => Nat.lt_irrefl k (Nat.lt_of_lt_of_le h2 (Nat.le_trans hrhi (Nat.le_of_eq e.symm))))
                  have NX := hid (next_tbl b r (upTo f code ks q) _ _ f len S wr HF.out ER.out hT1 R1.out.rd (by omega) (by omega))
                  have HRD := hid hrd
                  have HKK := hid hkk
                  clear hup hrd hkk hT1 hGq
                  go_wp2_with fail
                  refine NX.out.mono ?_
                  intro e w11 hans
                  obtain ⟨rfl, hrs⟩ := read_says HF.out ER.out hans HKK.out.1 HKK.out.2 HRD.out.1 HRD.out.2
                  have R2 := hid (R1.out.trans hrs)
                  clear hans hrs NX
                  rcases ints_apart IV9.out R2.out.touch li with h | ⟨b5, o5, ha5, hb5, hc5⟩
                  · omega
                  · subst ha5
                    have d5 : w11.cell? ⟨b5, o5 + q, none⟩ = some (.int .i64 (G q : Nat)) := hc5 q hqn
                    clear hc5 hb5
                    generalize G q = kk at *
                    go_wp2_with fail
                    exact ⟨⟨q + 1, by omega, by go_num, by rw [HUP.out]; exact R2.out⟩, by simp [intOf]; omega⟩
                · have TE := hid (show Touch (fun _ => False) w wr from (T7.out.trans TA.out (fun i hi e => by omega)).trans R1.out.touch (fun i hi e => by omega))
                  go_wp2
                  go_ret
                  exact ⟨rfl, TE.out.below _ (Nat.le_refl _) (fun _ e => e.elim)⟩
            · go_wp2_with fail
              refine (all_any wb (bitsOf f code ks) wr WK1.out.wr).mono ?_
              rintro e w9 ⟨rfl, rfl⟩
              rw [HS.out]
              go_wp2_with fail
              refine (open_any _ _).mono ?_
              rintro e w10 ⟨rfl, rfl⟩
              have tA : Touch (fun j => j = wb) W0 (w9.alloc (.cells #[.string S, .int .i64 0] 65)) := WK1.out.touch.alloc _
              have hT9 := HT7.out.kept tA (fun k h1 h2 e => Nat.lt_irrefl k (Nat.lt_of_lt_of_le h2 (Nat.le_trans hlow (Nat.le_of_eq e.symm))))
              have iv9 := IV.out.new ((Touch.refl (fun _ => False) w9).alloc (.cells #[.string S, .int .i64 0] 65))
              have li := ints_below IV.out
              have rd9 := rd_new w9 S
              have hsz9 : W0.heap.size ≤ w9.heap.size := WK1.out.touch.size
              have hw0 := HW0.out
              generalize w9.alloc (.cells #[.string S, .int .i64 0] 65) = R0 at *
              generalize w9.heap.size = r at *
              have TA := hid tA
              have HT9 := hid hT9
              have IV9 := hid iv9
              have RD9 := hid rd9
              have hrhi : w3.heap.size ≤ r := by omega
              have hwr : w.heap.size ≤ r ∧ w.heap.size ≤ wb := by omega
              clear tA hT9 iv9 rd9 hw0 hsz9
              go_wp2_with fail
              go_loopw [20] (fun i w2 => ∃ q : Nat, q ≤ nk ∧ i = .int .i64 (q : Nat) ∧ RStep R0 w2 r S (upTo f code ks q)) (fun i _ => nk - (intOf i).toNat)
              case atStart => exact ⟨0, Nat.zero_le _, rfl, RStep.refl RD9.out⟩
              case round =>
                obtain ⟨q, hq, rfl, hrs⟩ := hrel
                have R1 := hid hrs
                clear hrs
                by_cases hqn : q < nk
                · have hGq := HG.out q hqn
                  have hkk := KS.out (G q) (List.mem_of_getElem? hGq)
                  have hrd := read_at (f := f) (code := code) hGq
                  rw [HS.out, ← PA.out] at hrd
                  have hup := upTo_step (f := f) (code := code) hGq
                  have HUP := hid hup
                  have hT1 := HT9.out.kept R1.out.touch (fun k h1 h2 e => Nat.lt_irrefl k (Nat.lt_of_lt_of_le h2 (Nat.le_trans hrhi (Nat.le_of_eq e.symm))))
                  have NX := hid (next_tbl b r (upTo f code ks q) _ _ f len S wr HF.out ER.out hT1 R1.out.rd (by omega) (by omega))
                  have HRD := hid hrd
                  have HKK := hid hkk
                  clear hup hrd hkk hT1 hGq
                  go_wp2_with fail
                  refine NX.out.mono ?_
                  intro e w11 hans
                  obtain ⟨rfl, hrs⟩ := read_says HF.out ER.out hans HKK.out.1 HKK.out.2 HRD.out.1 HRD.out.2
                  have R2 := hid (R1.out.trans hrs)
                  clear hans hrs NX
                  rcases ints_apart IV9.out R2.out.touch li with h | ⟨b5, o5, ha5, hb5, hc5⟩
                  · omega
                  · subst ha5
                    have d5 : w11.cell? ⟨b5, o5 + q, none⟩ = some (.int .i64 (G q : Nat)) := hc5 q hqn
                    clear hc5 hb5
                    generalize G q = kk at *
                    go_wp2_with fail
                    exact ⟨⟨q + 1, by omega, by go_num, by rw [HUP.out]; exact R2.out⟩, by simp [intOf]; omega⟩
                · have TE := hid (show Touch (fun _ => False) w wr from (T7.out.trans TA.out (fun i hi e => by omega)).trans R1.out.touch (fun i hi e => by omega))
                  go_wp2
                  go_ret
                  exact ⟨rfl, TE.out.below _ (Nat.le_refl _) (fun _ e => e.elim)⟩

theorem topCodes_walk (a : Option Addr) (len cap : Nat) (zs : List Int) (a1 : Option Addr) (len1 cap1 : Nat) (zs1 : List Int) (w : World) (h : IsRow w a len cap zs) (h1 : IsRow w a1 len1 cap1 zs1) :
    Calls Try.prog 3 #[.slice a len cap, .slice a1 len1 cap1] w fun e w' => e = .returned (.bool true) ∧ Below w.heap.size w w' := topCodes_core a len cap _ a1 len1 cap1 _ w h.row h1.row

set_option maxRecDepth 100000 in
theorem topCodes_lifted (os : Os) (started : os.Started) (H : Type) (enc : TypeId × Value → H) :
    ReturnsInHanded {} Try.checked os 3 .any (Rows.topCodesSpec.pre6 enc Try.prog Try.f3 Rows.topCodesRow.domain false) (Rows.topCodesSpec.post enc Try.prog Try.f3 false true false false) := by
  refine returnsInHanded_of_change_sized (C := Try.checked) own started (by kernel_rfl) Try.func3
    (ChangeSpec.witness6 (enc := enc) (C := Try.checked) false ⟨#[], #[.slice none 0 0, .slice none 0 0], []⟩ 8 (by kernel_rfl) (by kernel_rfl) (by kernel_rfl) (by kernel_rfl)) ?_
  intro W base args ds gs before hval0 hW hcnd hsz0 _
  have hsz : (DataW.weightsEach Try.prog (Try.f3.params.toList ++ Rows.topCodesSpec.plain.varTypes Try.prog) (ds ++ gs)).all (· ≤ reachBytes) = true := hsz0
  clear hsz0
  have hval : ∀ (j : Nat) t v, Try.f3.params[j]? = some t → args[j]? = some v → Value.okWide Try.prog W .any base t v := hval0
  have hW' := hW
  obtain ⟨p, q, hA0, hV, rfl, hfz, hnd⟩ := hW
  have hA : DataW.TrodAll enc Try.prog W 0 (fun _ => true) true Try.f3.params.toList args.toList ds p := hA0
  rw [Try.params3] at hA hval hsz
  obtain ⟨v0, vs0, d0, ds0, p0, q0, hargs, rfl, rfl, h0, r0⟩ := trodAll_cons hA
  obtain ⟨v1, vs1, d1, ds1, p1, q1, rfl, rfl, rfl, h1, r1⟩ := trodAll_cons r0
  obtain ⟨rfl, rfl, rfl⟩ := trodAll_nil r1
  obtain rfl : args = #[v0, v1] := by cases args; simp_all
  obtain ⟨rfl, rfl⟩ := trodVars_none hV
  obtain ⟨a0, len0, cap0, rfl⟩ := okWide_slice Try.underlying22 (hval 0 22 v0 rfl rfl)
  have k0 := h0
  have lt0 : ∀ x ∈ p0, x.block < W.heap.size := by obtain ⟨m, hm⟩ := k0; exact DataW.trod_lt m _ _ _ hm
  obtain ⟨z0, w0⟩ : ∃ zs, IsRow W a0 len0 cap0 zs := by
    obtain ⟨fuel, hf⟩ := h0
    rcases open_ints Try.underlying22 Try.underlying3 (by kernel_rfl) hf with ⟨hcs, _⟩ | ⟨x, l, c, zs, hcs, _, hl, hm, hz, hx, hcell, hwz⟩
    · simp [Value.cells] at hcs
      obtain ⟨rfl, rfl, rfl⟩ := hcs
      exact ⟨[], .inl ⟨rfl, rfl, rfl, rfl⟩⟩
    · simp [Value.cells] at hcs
      obtain ⟨rfl, rfl, rfl⟩ := hcs
      simp only [Prod.mk.injEq] at hx
      obtain ⟨rfl, rfl⟩ := hx
      have hs := sized_slice hsz (j := 0) (t := 22) (e := 3) rfl rfl Try.underlying22
      rw [show Try.prog.bytesOf 3 = 8 by kernel_rfl] at hs
      simp only [lits, List.length_map, List.length_take, List.length_drop, reachBytes] at hs
      simp only [if_true] at hz
      refine ⟨zs, .inr ⟨_, rfl, hl, by omega, hz, ?_, hcell, hwz⟩⟩
      intro hi
      have hb := World.block_lt_of_cell? W _ (hcell 0 (by omega))
      simpa [Addr.add] using hb
  obtain ⟨a1, len1, cap1, rfl⟩ := okWide_slice Try.underlying22 (hval 1 22 v1 rfl rfl)
  have k1 := h1
  have lt1 : ∀ x ∈ p1, x.block < W.heap.size := by obtain ⟨m, hm⟩ := k1; exact DataW.trod_lt m _ _ _ hm
  obtain ⟨z1, w1⟩ : ∃ zs, IsRow W a1 len1 cap1 zs := by
    obtain ⟨fuel, hf⟩ := h1
    rcases open_ints Try.underlying22 Try.underlying3 (by kernel_rfl) hf with ⟨hcs, _⟩ | ⟨x, l, c, zs, hcs, _, hl, hm, hz, hx, hcell, hwz⟩
    · simp [Value.cells] at hcs
      obtain ⟨rfl, rfl, rfl⟩ := hcs
      exact ⟨[], .inl ⟨rfl, rfl, rfl, rfl⟩⟩
    · simp [Value.cells] at hcs
      obtain ⟨rfl, rfl, rfl⟩ := hcs
      simp only [Prod.mk.injEq] at hx
      obtain ⟨rfl, rfl⟩ := hx
      have hs := sized_slice hsz (j := 1) (t := 22) (e := 3) rfl rfl Try.underlying22
      rw [show Try.prog.bytesOf 3 = 8 by kernel_rfl] at hs
      simp only [lits, List.length_map, List.length_take, List.length_drop, reachBytes] at hs
      simp only [if_true] at hz
      refine ⟨zs, .inr ⟨_, rfl, hl, by omega, hz, ?_, hcell, hwz⟩⟩
      intro hi
      have hb := World.block_lt_of_cell? W _ (hcell 0 (by omega))
      simpa [Addr.add] using hb
  clear hA0 hval0
  refine (topCodes_walk a0 len0 cap0 z0 a1 len1 cap1 z1 W w0 w1).mono fun e W' ⟨he, bel⟩ => ?_
  subst he
  exact ⟨_, rfl, _, _, _, [], _, [], hW', trodAll_mk1 (shut_bool Try.underlying4 _), (trodAll_cons_mk (Below.trod laidOut (by kernel_rfl) (of_decide_eq_true (by kernel_rfl)) k0 bel lt0) (trodAll_cons_mk (Below.trod laidOut (by kernel_rfl) (of_decide_eq_true (by kernel_rfl)) k1 bel lt1) trodAll_mk0)), rfl, bel.frame _, fun h => by cases h⟩

theorem topCodes_holds : Rows.TopCodesSaid :=
  OpenClaim.holds_of_wide 3 Try.f3 rfl rfl rfl rfl rfl rfl rfl ⟨rfl, rfl, rfl, rfl, rfl⟩ rfl rfl rfl rfl rfl (by kernel_rfl) Try.func3 (by kernel_rfl)
    (of_decide_eq_true (by kernel_rfl)) (by unfold Func.isWrapper; first | (rw [if_pos (by decide +kernel)]; kernel_rfl) | (rw [if_neg (by decide +kernel)]; exact ⟨rfl, rfl⟩))
    (fun os started H enc _ => topCodes_lifted os started H enc)
#print axioms topCodes_holds
end Go.Proofs.Ytokelpnmeknncab
