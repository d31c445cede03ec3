/- Texts of this proof, one behind the other: what each says stands ahead of it. -/
import Derived.Test.YtnngemdpoemhgaaDoorM5
import Derived.Test.YtnngemdpoemhgaaDoorM7
import Derived.Test.YtnngemdpoemhgaaDoorM8
/- UcdParts, the walk; condition: the two tables lie there. -/
namespace Go.Proofs.YtnngemdpoemhgaaDoor
open Go.RowKit

theorem six_new (w : World) (v0 v1 v2 v3 v4 v5 : Value) (t : TypeId) : (w.alloc (.cells #[v0, v1, v2, v3, v4, v5] t)).heap[w.heap.size]? = some (.cells #[v0, v1, v2, v3, v4, v5] t (0, 0)) := by
  show (w.heap.push _)[_]? = _
  simp
theorem any_one {s : List R2} (hs : Canon s) (h : ∀ x, In x s ↔ (0 ≤ x ∧ x ≤ 1114111) ∧ In x lAny) : s = [(0, 1114111)] := by
  refine canon_one hs ⟨by simp [inB], List.pairwise_singleton _ _⟩ (fun x => ?_)
  rw [h x]
  unfold lAny
  rw [in_one]
  exact ⟨fun q => q.1, fun q => ⟨q, q⟩⟩
theorem none_of {n : List R2} (hc : Canon n) (h : ∀ x, ¬ In x n) : n = [] := canon_one hc ⟨by simp, .nil⟩ (fun x => ⟨fun q => absurd q (h x), fun q => absurd q (in_nil x)⟩)

set_option maxRecDepth 100000 in
set_option maxHeartbeats 8000000 in
theorem ucdParts_walk (r : Int) (w : World) (ht : Tabs w) : Calls Tryd.prog 5 #[.int .i64 r] w fun e w' => e = .returned (.bool true) ∧ Touch (fun _ => False) w w' := by
  have HT := hid ht
  clear ht
  go_enter Tryd.func5, Tryd.ntmps5
  go_wp2_with fail
  refine (speaks_yes w HT.out).mono ?_
  rintro e w1 ⟨rfl, tc⟩
  have T := hid tc
  clear tc
  have BX := hid (six_new w1 (.string ⟨#[76, 117]⟩) (.string ⟨#[76, 108]⟩) (.string ⟨#[76, 111]⟩) (.string ⟨#[78, 100]⟩) (.string ⟨#[90, 115]⟩) (.string ⟨#[80]⟩) 9)
  have TB := hid (T.out.alloc (.cells #[.string ⟨#[76, 117]⟩, .string ⟨#[76, 108]⟩, .string ⟨#[76, 111]⟩, .string ⟨#[78, 100]⟩, .string ⟨#[90, 115]⟩, .string ⟨#[80]⟩] 9))
  go_wp2_with fail
  generalize (w1.alloc (.cells #[.string ⟨#[76, 117]⟩, .string ⟨#[76, 108]⟩, .string ⟨#[76, 111]⟩, .string ⟨#[78, 100]⟩, .string ⟨#[90, 115]⟩, .string ⟨#[80]⟩] 9)) = wB at *
  go_loopg [3, 5] 6 (fun gk n i wr => ∃ k : Nat, k + gk = 6 ∧ i = .int .i64 (k : Nat) ∧ n = .int .i64 (cn r k : Nat) ∧ cn r k ≤ k ∧ Touch (fun _ => False) wB wr)
  case atStart => exact ⟨0, rfl, rfl, rfl, Nat.le_refl _, Touch.refl _ _⟩
  case round =>
    obtain ⟨k, hk, rfl, rfl, hcn, htc⟩ := hrel
    have TR := hid htc
    have hbk := (htc.block w1.heap.size (lt_of_block BX.out) id).trans BX.out
    have HBK := hid hbk
    clear htc hbk
    rcases (show k = 0 ∨ k = 1 ∨ k = 2 ∨ k = 3 ∨ k = 4 ∨ k = 5 ∨ k = 6 by omega) with rfl | rfl | rfl | rfl | rfl | rfl | rfl
    · have c0 : wr.cell? ⟨w1.heap.size, 0, none⟩ = some (.string ⟨#[76, 117]⟩) := by simp [World.cell?, HBK.out]
      have HST := hid (cn_step r 0 (by decide) lLu rfl)
      obtain ⟨N, hN⟩ : ∃ N, N = cn r 0 := ⟨_, rfl⟩
      rw [← hN] at HST hcn ⊢
      have HNN := hid hN
      clear hN
      go_wp2_with fail
      refine (class_any ⟨#[76, 117]⟩ lLu spans_Lu (by decide) (by decide) wr).mono ?_
      rintro e w2 ⟨v, s, rfl, hcs, his, ow⟩
      have T2 := hid (TR.out.trans ow.touch (fun _ _ e => e))
      obtain ⟨sa, sc, hv, hrg⟩ := ow.rg
      subst hv
      have KH := hid (has_says sa sc s r w2 hrg hcs)
      rw [has_set his (by decide) r] at KH
      clear ow hcs his hrg c0
      obtain ⟨A, hA⟩ : ∃ A, hasB r lLu = A := ⟨_, rfl⟩
      rw [hA] at KH HST
      clear hA
      go_wp2_with fail
      refine KH.out.mono ?_
      rintro e w3 ⟨rfl, tq⟩
      have T3 := hid (T2.out.trans tq (fun _ _ e => e))
      clear tq KH
      cases A
      · have HS2 := hid (show cn r (0 + 1) = N from HST.out)
        go_wp2_with fail
        go_roundg (gk - 1)
        case measure => omega
        case rel => exact ⟨0 + 1, by omega, by go_num, by rw [HS2.out], by rw [HS2.out]; omega, T3.out⟩
      · have HS2 := hid (show cn r (0 + 1) = N + 1 from HST.out)
        go_wp2_with fail
        go_roundg (gk - 1)
        case measure => omega
        case rel => exact ⟨0 + 1, by omega, by go_num, by rw [HS2.out]; go_num, by rw [HS2.out]; omega, T3.out⟩
    · have c0 : wr.cell? ⟨w1.heap.size, 1, none⟩ = some (.string ⟨#[76, 108]⟩) := by simp [World.cell?, HBK.out]
      have HST := hid (cn_step r 1 (by decide) lLl rfl)
      obtain ⟨N, hN⟩ : ∃ N, N = cn r 1 := ⟨_, rfl⟩
      rw [← hN] at HST hcn ⊢
      have HNN := hid hN
      clear hN
      go_wp2_with fail
      refine (class_any ⟨#[76, 108]⟩ lLl spans_Ll (by decide) (by decide) wr).mono ?_
      rintro e w2 ⟨v, s, rfl, hcs, his, ow⟩
      have T2 := hid (TR.out.trans ow.touch (fun _ _ e => e))
      obtain ⟨sa, sc, hv, hrg⟩ := ow.rg
      subst hv
      have KH := hid (has_says sa sc s r w2 hrg hcs)
      rw [has_set his (by decide) r] at KH
      clear ow hcs his hrg c0
      obtain ⟨A, hA⟩ : ∃ A, hasB r lLl = A := ⟨_, rfl⟩
      rw [hA] at KH HST
      clear hA
      go_wp2_with fail
      refine KH.out.mono ?_
      rintro e w3 ⟨rfl, tq⟩
      have T3 := hid (T2.out.trans tq (fun _ _ e => e))
      clear tq KH
      cases A
      · have HS2 := hid (show cn r (1 + 1) = N from HST.out)
        go_wp2_with fail
        go_roundg (gk - 1)
        case measure => omega
        case rel => exact ⟨1 + 1, by omega, by go_num, by rw [HS2.out], by rw [HS2.out]; omega, T3.out⟩
      · have HS2 := hid (show cn r (1 + 1) = N + 1 from HST.out)
        go_wp2_with fail
        go_roundg (gk - 1)
        case measure => omega
        case rel => exact ⟨1 + 1, by omega, by go_num, by rw [HS2.out]; go_num, by rw [HS2.out]; omega, T3.out⟩
    · have c0 : wr.cell? ⟨w1.heap.size, 2, none⟩ = some (.string ⟨#[76, 111]⟩) := by simp [World.cell?, HBK.out]
      have HST := hid (cn_step r 2 (by decide) lLo rfl)
      obtain ⟨N, hN⟩ : ∃ N, N = cn r 2 := ⟨_, rfl⟩
      rw [← hN] at HST hcn ⊢
      have HNN := hid hN
      clear hN
      go_wp2_with fail
      refine (class_any ⟨#[76, 111]⟩ lLo spans_Lo (by decide) (by decide) wr).mono ?_
      rintro e w2 ⟨v, s, rfl, hcs, his, ow⟩
      have T2 := hid (TR.out.trans ow.touch (fun _ _ e => e))
      obtain ⟨sa, sc, hv, hrg⟩ := ow.rg
      subst hv
      have KH := hid (has_says sa sc s r w2 hrg hcs)
      rw [has_set his (by decide) r] at KH
      clear ow hcs his hrg c0
      obtain ⟨A, hA⟩ : ∃ A, hasB r lLo = A := ⟨_, rfl⟩
      rw [hA] at KH HST
      clear hA
      go_wp2_with fail
      refine KH.out.mono ?_
      rintro e w3 ⟨rfl, tq⟩
      have T3 := hid (T2.out.trans tq (fun _ _ e => e))
      clear tq KH
      cases A
      · have HS2 := hid (show cn r (2 + 1) = N from HST.out)
        go_wp2_with fail
        go_roundg (gk - 1)
        case measure => omega
        case rel => exact ⟨2 + 1, by omega, by go_num, by rw [HS2.out], by rw [HS2.out]; omega, T3.out⟩
      · have HS2 := hid (show cn r (2 + 1) = N + 1 from HST.out)
        go_wp2_with fail
        go_roundg (gk - 1)
        case measure => omega
        case rel => exact ⟨2 + 1, by omega, by go_num, by rw [HS2.out]; go_num, by rw [HS2.out]; omega, T3.out⟩
    · have c0 : wr.cell? ⟨w1.heap.size, 3, none⟩ = some (.string ⟨#[78, 100]⟩) := by simp [World.cell?, HBK.out]
      have HST := hid (cn_step r 3 (by decide) lNd rfl)
      obtain ⟨N, hN⟩ : ∃ N, N = cn r 3 := ⟨_, rfl⟩
      rw [← hN] at HST hcn ⊢
      have HNN := hid hN
      clear hN
      go_wp2_with fail
      refine (class_any ⟨#[78, 100]⟩ lNd spans_Nd (by decide) (by decide) wr).mono ?_
      rintro e w2 ⟨v, s, rfl, hcs, his, ow⟩
      have T2 := hid (TR.out.trans ow.touch (fun _ _ e => e))
      obtain ⟨sa, sc, hv, hrg⟩ := ow.rg
      subst hv
      have KH := hid (has_says sa sc s r w2 hrg hcs)
      rw [has_set his (by decide) r] at KH
      clear ow hcs his hrg c0
      obtain ⟨A, hA⟩ : ∃ A, hasB r lNd = A := ⟨_, rfl⟩
      rw [hA] at KH HST
      clear hA
      go_wp2_with fail
      refine KH.out.mono ?_
      rintro e w3 ⟨rfl, tq⟩
      have T3 := hid (T2.out.trans tq (fun _ _ e => e))
      clear tq KH
      cases A
      · have HS2 := hid (show cn r (3 + 1) = N from HST.out)
        go_wp2_with fail
        go_roundg (gk - 1)
        case measure => omega
        case rel => exact ⟨3 + 1, by omega, by go_num, by rw [HS2.out], by rw [HS2.out]; omega, T3.out⟩
      · have HS2 := hid (show cn r (3 + 1) = N + 1 from HST.out)
        go_wp2_with fail
        go_roundg (gk - 1)
        case measure => omega
        case rel => exact ⟨3 + 1, by omega, by go_num, by rw [HS2.out]; go_num, by rw [HS2.out]; omega, T3.out⟩
    · have c0 : wr.cell? ⟨w1.heap.size, 4, none⟩ = some (.string ⟨#[90, 115]⟩) := by simp [World.cell?, HBK.out]
      have HST := hid (cn_step r 4 (by decide) lZs rfl)
      obtain ⟨N, hN⟩ : ∃ N, N = cn r 4 := ⟨_, rfl⟩
      rw [← hN] at HST hcn ⊢
      have HNN := hid hN
      clear hN
      go_wp2_with fail
      refine (class_any ⟨#[90, 115]⟩ lZs spans_Zs (by decide) (by decide) wr).mono ?_
      rintro e w2 ⟨v, s, rfl, hcs, his, ow⟩
      have T2 := hid (TR.out.trans ow.touch (fun _ _ e => e))
      obtain ⟨sa, sc, hv, hrg⟩ := ow.rg
      subst hv
      have KH := hid (has_says sa sc s r w2 hrg hcs)
      rw [has_set his (by decide) r] at KH
      clear ow hcs his hrg c0
      obtain ⟨A, hA⟩ : ∃ A, hasB r lZs = A := ⟨_, rfl⟩
      rw [hA] at KH HST
      clear hA
      go_wp2_with fail
      refine KH.out.mono ?_
      rintro e w3 ⟨rfl, tq⟩
      have T3 := hid (T2.out.trans tq (fun _ _ e => e))
      clear tq KH
      cases A
      · have HS2 := hid (show cn r (4 + 1) = N from HST.out)
        go_wp2_with fail
        go_roundg (gk - 1)
        case measure => omega
        case rel => exact ⟨4 + 1, by omega, by go_num, by rw [HS2.out], by rw [HS2.out]; omega, T3.out⟩
      · have HS2 := hid (show cn r (4 + 1) = N + 1 from HST.out)
        go_wp2_with fail
        go_roundg (gk - 1)
        case measure => omega
        case rel => exact ⟨4 + 1, by omega, by go_num, by rw [HS2.out]; go_num, by rw [HS2.out]; omega, T3.out⟩
    · have c0 : wr.cell? ⟨w1.heap.size, 5, none⟩ = some (.string ⟨#[80]⟩) := by simp [World.cell?, HBK.out]
      have HST := hid (cn_step r 5 (by decide) lP rfl)
      obtain ⟨N, hN⟩ : ∃ N, N = cn r 5 := ⟨_, rfl⟩
      rw [← hN] at HST hcn ⊢
      have HNN := hid hN
      clear hN
      go_wp2_with fail
      refine (class_any ⟨#[80]⟩ lP spans_P (by decide) (by decide) wr).mono ?_
      rintro e w2 ⟨v, s, rfl, hcs, his, ow⟩
      have T2 := hid (TR.out.trans ow.touch (fun _ _ e => e))
      obtain ⟨sa, sc, hv, hrg⟩ := ow.rg
      subst hv
      have KH := hid (has_says sa sc s r w2 hrg hcs)
      rw [has_set his (by decide) r] at KH
      clear ow hcs his hrg c0
      obtain ⟨A, hA⟩ : ∃ A, hasB r lP = A := ⟨_, rfl⟩
      rw [hA] at KH HST
      clear hA
      go_wp2_with fail
      refine KH.out.mono ?_
      rintro e w3 ⟨rfl, tq⟩
      have T3 := hid (T2.out.trans tq (fun _ _ e => e))
      clear tq KH
      cases A
      · have HS2 := hid (show cn r (5 + 1) = N from HST.out)
        go_wp2_with fail
        go_roundg (gk - 1)
        case measure => omega
        case rel => exact ⟨5 + 1, by omega, by go_num, by rw [HS2.out], by rw [HS2.out]; omega, T3.out⟩
      · have HS2 := hid (show cn r (5 + 1) = N + 1 from HST.out)
        go_wp2_with fail
        go_roundg (gk - 1)
        case measure => omega
        case rel => exact ⟨5 + 1, by omega, by go_num, by rw [HS2.out]; go_num, by rw [HS2.out]; omega, T3.out⟩
    · have hle := cn_last r
      generalize cn r 6 = N at *
      have TT := hid (TB.out.trans TR.out (fun _ _ e => e))
      clear TR HBK hcn
      go_wp2_with fail
      refine (perl_w wr).mono ?_
      rintro e w2 ⟨v, a, rfl, hca, hia, owa⟩
      have T2 := hid owa.touch
      obtain ⟨aa, ac, hv, hra⟩ := owa.rg
      subst hv
      have CA := hid hca
      have IA := hid (show ∀ x, In x a ↔ (0 ≤ x ∧ x ≤ 1114111) ∧ In x lW from hia)
      have RA := hid hra
      have CPA := hid owa.cap
      clear owa hca hia hra
      go_wp2_with fail
      refine (perl_s w2).mono ?_
      rintro e w3 ⟨v, b, rfl, hcb, hib, owb⟩
      replace T2 := hid (T2.out.trans owb.touch (fun _ _ e => e))
      obtain ⟨ba, bc, hv, hrb⟩ := owb.rg
      subst hv
      have CB := hid hcb
      have IB := hid (show ∀ x, In x b ↔ (0 ≤ x ∧ x ≤ 1114111) ∧ In x lBl from hib)
      have RB := hid hrb
      have CPB := hid owb.cap
      replace RA := hid (RA.out.new owb.touch)
      clear owb hcb hib hrb
      go_wp2_with fail
      refine (perl_d w3).mono ?_
      rintro e w4 ⟨v, d, rfl, hcd, hid', owd⟩
      replace T2 := hid (T2.out.trans owd.touch (fun _ _ e => e))
      obtain ⟨da, dc, hv, hrd⟩ := owd.rg
      subst hv
      have CD := hid hcd
      have ID := hid (show ∀ x, In x d ↔ (0 ≤ x ∧ x ≤ 1114111) ∧ In x lNd from hid')
      have RD := hid hrd
      have CPD := hid owd.cap
      replace RA := hid (RA.out.new owd.touch)
      replace RB := hid (RB.out.new owd.touch)
      clear owd hcd hid' hrd
      go_wp2_with fail
      refine (perl_W w4).mono ?_
      rintro e w5 ⟨v, x', rfl, hcx, hix, owx⟩
      replace T2 := hid (T2.out.trans owx.touch (fun _ _ e => e))
      obtain ⟨xa, xc, hv, hrx⟩ := owx.rg
      subst hv
      have CX := hid hcx
      have IX := hid (show ∀ x, In x x' ↔ (0 ≤ x ∧ x ≤ 1114111) ∧ ¬ In x lW from hix)
      have RX := hid hrx
      replace RA := hid (RA.out.new owx.touch)
      replace RB := hid (RB.out.new owx.touch)
      replace RD := hid (RD.out.new owx.touch)
      clear owx hcx hix hrx
      go_wp2_with fail
      refine (class_any ⟨#[65, 110, 121]⟩ lAny spans_Any (by decide) (by decide) w5).mono ?_
      rintro e w6 ⟨v, y, rfl, hcy, hiy, owy⟩
      obtain rfl : y = [(0, 1114111)] := any_one hcy hiy
      replace T2 := hid (T2.out.trans owy.touch (fun _ _ e => e))
      obtain ⟨ya, yc, hv, hry⟩ := owy.rg
      subst hv
      have CY := hid hcy
      have RY := hid hry
      replace RA := hid (RA.out.new owy.touch)
      replace RB := hid (RB.out.new owy.touch)
      replace RD := hid (RD.out.new owy.touch)
      replace RX := hid (RX.out.new owy.touch)
      clear owy hcy hiy hry
      have hN1 : (N : Int) ≤ 1 := by omega
      go_wp2_with fail
      refine (and_says aa ba ac bc a b w6 RA.out RB.out CPA.out CPB.out CA.out CB.out).mono ?_
      rintro e w7 ⟨v, n, rfl, hcn, hin, own⟩
      obtain rfl : n = [] := none_of hcn (fun x hx => by
        have h1 := (hin x).1 hx
        exact apart_in w_apart ((IA.out x).1 h1.1).2 ((IB.out x).1 h1.2).2)
      have T7 := hid own.touch
      obtain ⟨na, nc, hv, hrn⟩ := own.rg
      subst hv
      have KS := hid (size_says na nc [] w7 hrn ⟨by simp, .nil⟩)
      rw [sizeL_nil] at KS
      clear own hcn hin hrn
      go_wp2_with fail
      refine KS.out.mono ?_
      rintro e w8 ⟨rfl, tq⟩
      have T8 := hid (T7.out.trans tq (fun _ _ e => e))
      clear tq KS
      go_wp2_with fail
      refine (less_says da aa dc ac d a w8 (RD.out.new T8.out) (RA.out.new T8.out) CPD.out CD.out CA.out).mono ?_
      rintro e w9 ⟨v, n, rfl, hcn, hin, own⟩
      obtain rfl : n = [] := none_of hcn (fun x hx => by
        have h1 := (hin x).1 hx
        have h2 := (ID.out x).1 h1.1
        exact h1.2 ((IA.out x).2 ⟨h2.1, by unfold lW; exact in_append.2 (.inl (in_append.2 (.inr h2.2)))⟩))
      have T9 := hid (T8.out.trans own.touch (fun _ _ e => e))
      obtain ⟨na2, nc2, hv, hrn⟩ := own.rg
      subst hv
      have KS := hid (size_says na2 nc2 [] w9 hrn ⟨by simp, .nil⟩)
      rw [sizeL_nil] at KS
      clear own hcn hin hrn
      go_wp2_with fail
      refine KS.out.mono ?_
      rintro e w10 ⟨rfl, tq⟩
      have T10 := hid (T9.out.trans tq (fun _ _ e => e))
      clear tq KS
      go_wp2_with fail
      refine (or_says aa xa ac xc a x' w10 (RA.out.new T10.out) (RX.out.new T10.out) CA.out CX.out).mono ?_
      rintro e w11 ⟨v, n, rfl, hcn, hin, own⟩
      obtain rfl : n = [(0, 1114111)] := any_one hcn (fun x => by
        rw [hin x, IA.out x, IX.out x]
        unfold lAny
        rw [in_one]
        by_cases q : In x lW <;> simp [q])
      have T11 := hid (T10.out.trans own.touch (fun _ _ e => e))
      obtain ⟨na3, nc3, hv, hrn⟩ := own.rg
      subst hv
      have KE := hid (same_yes na3 ya nc3 yc [(0, 1114111)] w11 hrn (RY.out.new T11.out) (by decide))
      clear own hcn hin hrn
      go_wp2_with fail
      refine KE.out.mono ?_
      rintro e w12 ⟨rfl, tq⟩
      have T12 := hid (T11.out.trans tq (fun _ _ e => e))
      clear tq KE
      have KS := hid (size_says ya yc [(0, 1114111)] w12 (RY.out.new T12.out) CY.out)
      rw [show sizeL [((0 : Int), (1114111 : Int))] = 1114112 by decide] at KS
      go_wp2_with fail
      refine KS.out.mono ?_
      rintro e w13 ⟨rfl, tq⟩
      have T13 := hid (T12.out.trans tq (fun _ _ e => e))
      clear tq KS
      go_wp2
      go_ret
      exact ⟨rfl, TT.out.trans (T2.out.trans T13.out (fun _ _ e => e)) (fun _ _ e => e)⟩
end Go.Proofs.YtnngemdpoemhgaaDoor
