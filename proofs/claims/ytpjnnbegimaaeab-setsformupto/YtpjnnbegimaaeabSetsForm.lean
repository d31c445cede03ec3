/- SetsForm, for all inputs of at most 1048576 values together: every set that is made rises, with a number between each two of its ranges. -/
import Derived.Test.YtpjnnbegimaaeabM2
import Derived.Test.YtpjnnbegimaaeabM3
import Derived.Test.YtpjnnbegimaaeabM4
import Derived.Test.YtpjnnbegimaaeabM5
namespace Go.Proofs.Ytpjnnbegimaaeab
open Go.ChangeShapes Go.WideShapes Go.ChangeAt Go.RowKit

/-- A set that lies there. -/
def St (w : World) (v : Value) : Prop := ∃ a c x, v = .slice a x.length c ∧ Rg w a x ∧ Canon x
theorem St.new {w w' : World} {v : Value} (h : St w v) (t : Touch (fun _ => False) w w') : St w' v := by
  obtain ⟨a, c, x, rfl, hr, hc⟩ := h
  exact ⟨a, c, x, rfl, hr.new t, hc⟩

theorem seven_new (w : World) (v0 v1 v2 v3 v4 v5 v6 : Value) (t : TypeId) (i : Nat) (u : Value) (h : #[v0, v1, v2, v3, v4, v5, v6][i]? = some u) : (w.alloc (.cells #[v0, v1, v2, v3, v4, v5, v6] t)).cell? ⟨w.heap.size, i, none⟩ = some u := by
  rw [World.cell?_alloc_at _ _ _ _ (by simp at h ⊢)]
  exact h

set_option maxRecDepth 100000 in
set_option maxHeartbeats 8000000 in
theorem setsForm_walk (a1 : Option Addr) (c1 : Nat) (l : List R2) (a2 : Option Addr) (c2 : Nat) (m : List R2) (w : World) (hl : Rg w a1 l) (hb : l.length ≤ 1048576) (hm : Rg w a2 m) (hb2 : m.length ≤ 1048576) :
    Calls Try.prog 3 #[.slice a1 l.length c1, .slice a2 m.length c2] w fun e w' => e = .returned (.bool true) ∧ Below w.heap.size w w' := by
  have HL := hid hl
  have HM := hid hm
  clear hl hm
  go_enter Try.func3, Try.ntmps3
  go_wp2_with fail
  refine (speaks_yes w).mono ?_
  rintro e w1 ⟨rfl, tc⟩
  have T1 := hid tc
  have K := hid (made_any a1 c1 l w1 (HL.out.new tc) (by omega))
  clear tc
  go_wp2_with fail
  refine K.out.mono ?_
  rintro e w2 ⟨v, v2, s, rfl, hcn, hin, ow, ow2⟩
  have T2 := hid (T1.out.trans ow.touch (fun _ _ e => e))
  obtain ⟨sa, sc, hv, hrg⟩ := ow.rg
  subst hv
  have CS := hid ow.cap
  obtain ⟨sa2, sc2, hv2⟩ := own_shape ow2.own
  subst hv2
  have RS := hid hrg
  have HCS := hid hcn
  have K2 := hid (made_any a2 c2 m w2 (HM.out.new T2.out) (by omega))
  clear ow ow2 hcn hin hrg K
  go_wp2_with fail
  refine K2.out.mono ?_
  rintro e w3 ⟨v, v2, t, rfl, hcn, hin, ow, ow2⟩
  have T3 := hid (T2.out.trans ow.touch (fun _ _ e => e))
  obtain ⟨ta, tc, hv, hrg⟩ := ow.rg
  subst hv
  have CT := hid ow.cap
  obtain ⟨ta2, tc2, hv2⟩ := own_shape ow2.own
  subst hv2
  have RT := hid hrg
  replace RS := hid (RS.out.new ow.touch)
  have HCT := hid hcn
  clear ow ow2 hcn hin hrg K2
  go_wp2_with fail
  refine (or_says sa ta sc tc s t w3 RS.out RT.out HCS.out HCT.out).mono ?_
  rintro e w4 ⟨v, n2, rfl, hcn, hin, ow⟩
  have T4 := hid ow.touch
  obtain ⟨a4, c4, hv, hrg⟩ := ow.rg
  subst hv
  have S4 := hid (show St w4 (.slice a4 n2.length c4) from ⟨a4, c4, n2, rfl, hrg, hcn⟩)
  clear ow hcn hin hrg
  go_wp2_with fail
  refine (and_says sa ta sc tc s t w4 (RS.out.new T4.out) (RT.out.new T4.out) CS.out CT.out HCS.out HCT.out).mono ?_
  rintro e w5 ⟨v, n3, rfl, hcn, hin, ow⟩
  have T5 := hid (T4.out.trans ow.touch (fun _ _ e => e))
  replace S4 := hid (S4.out.new ow.touch)
  obtain ⟨a5, c5, hv, hrg⟩ := ow.rg
  subst hv
  have S5 := hid (show St w5 (.slice a5 n3.length c5) from ⟨a5, c5, n3, rfl, hrg, hcn⟩)
  clear ow hcn hin hrg
  go_wp2_with fail
  refine (not_says sa sc s w5 (RS.out.new T5.out) HCS.out).mono ?_
  rintro e w6 ⟨v, n4, rfl, hcn, hin, ow⟩
  have T6 := hid (T5.out.trans ow.touch (fun _ _ e => e))
  replace S4 := hid (S4.out.new ow.touch)
  replace S5 := hid (S5.out.new ow.touch)
  obtain ⟨a6, c6, hv, hrg⟩ := ow.rg
  subst hv
  have S6 := hid (show St w6 (.slice a6 n4.length c6) from ⟨a6, c6, n4, rfl, hrg, hcn⟩)
  clear ow hcn hin hrg
  go_wp2_with fail
  refine (less_says sa ta sc tc s t w6 (RS.out.new T6.out) (RT.out.new T6.out) CS.out HCS.out HCT.out).mono ?_
  rintro e w7 ⟨v, n5, rfl, hcn, hin, ow⟩
  have T7 := hid (T6.out.trans ow.touch (fun _ _ e => e))
  replace S4 := hid (S4.out.new ow.touch)
  replace S5 := hid (S5.out.new ow.touch)
  replace S6 := hid (S6.out.new ow.touch)
  obtain ⟨a7, c7, hv, hrg⟩ := ow.rg
  subst hv
  have S7 := hid (show St w7 (.slice a7 n5.length c7) from ⟨a7, c7, n5, rfl, hrg, hcn⟩)
  clear ow hcn hin hrg
  go_wp2_with fail
  refine (less_says ta sa tc sc t s w7 (RT.out.new T7.out) (RS.out.new T7.out) CT.out HCT.out HCS.out).mono ?_
  rintro e w8 ⟨v, n6, rfl, hcn, hin, ow⟩
  have T8 := hid (T7.out.trans ow.touch (fun _ _ e => e))
  replace S4 := hid (S4.out.new ow.touch)
  replace S5 := hid (S5.out.new ow.touch)
  replace S6 := hid (S6.out.new ow.touch)
  replace S7 := hid (S7.out.new ow.touch)
  obtain ⟨a8, c8, hv, hrg⟩ := ow.rg
  subst hv
  have S8 := hid (show St w8 (.slice a8 n6.length c8) from ⟨a8, c8, n6, rfl, hrg, hcn⟩)
  have S2 := hid (show St w8 (.slice sa s.length sc) from ⟨sa, sc, s, rfl, RS.out.new T8.out, HCS.out⟩)
  have S3 := hid (show St w8 (.slice ta t.length tc) from ⟨ta, tc, t, rfl, RT.out.new T8.out, HCT.out⟩)
  clear ow hcn hin hrg
  have ALL := hid (show ∀ i, i < 7 → ∃ v, (w8.alloc (.cells #[.slice sa s.length sc, .slice ta t.length tc, .slice a4 n2.length c4, .slice a5 n3.length c5, .slice a6 n4.length c6, .slice a7 n5.length c7, .slice a8 n6.length c8] 25)).cell? ⟨w8.heap.size, i, none⟩ = some v ∧ St w8 v from by
    intro i hi
    match i, hi with
    | 0, _ => exact ⟨_, seven_new _ _ _ _ _ _ _ _ _ 0 _ rfl, S2.out⟩
    | 1, _ => exact ⟨_, seven_new _ _ _ _ _ _ _ _ _ 1 _ rfl, S3.out⟩
    | 2, _ => exact ⟨_, seven_new _ _ _ _ _ _ _ _ _ 2 _ rfl, S4.out⟩
    | 3, _ => exact ⟨_, seven_new _ _ _ _ _ _ _ _ _ 3 _ rfl, S5.out⟩
    | 4, _ => exact ⟨_, seven_new _ _ _ _ _ _ _ _ _ 4 _ rfl, S6.out⟩
    | 5, _ => exact ⟨_, seven_new _ _ _ _ _ _ _ _ _ 5 _ rfl, S7.out⟩
    | 6, _ => exact ⟨_, seven_new _ _ _ _ _ _ _ _ _ 6 _ rfl, S8.out⟩)
  have T9 := hid (T8.out.alloc (.cells #[.slice sa s.length sc, .slice ta t.length tc, .slice a4 n2.length c4, .slice a5 n3.length c5, .slice a6 n4.length c6, .slice a7 n5.length c7, .slice a8 n6.length c8] 25))
  have T89 := hid ((Touch.refl (fun _ => False) w8).alloc (.cells #[.slice sa s.length sc, .slice ta t.length tc, .slice a4 n2.length c4, .slice a5 n3.length c5, .slice a6 n4.length c6, .slice a7 n5.length c7, .slice a8 n6.length c8] 25))
  have BB := hid (show w8.heap.size < (w8.alloc (.cells #[.slice sa s.length sc, .slice ta t.length tc, .slice a4 n2.length c4, .slice a5 n3.length c5, .slice a6 n4.length c6, .slice a7 n5.length c7, .slice a8 n6.length c8] 25)).heap.size by simp)
  clear S2 S3 S4 S5 S6 S7 S8
  go_wp2_with fail
  generalize (w8.alloc (.cells #[.slice sa s.length sc, .slice ta t.length tc, .slice a4 n2.length c4, .slice a5 n3.length c5, .slice a6 n4.length c6, .slice a7 n5.length c7, .slice a8 n6.length c8] 25)) = w9 at *
  go_loopg [10] 7 (fun gk i wr => ∃ k : Nat, k + gk = 7 ∧ i = .int .i64 (k : Nat) ∧ Touch (fun _ => False) w9 wr)
  case atStart => exact ⟨0, rfl, rfl, Touch.refl _ _⟩
  case round =>
    obtain ⟨k, hk, rfl, htc⟩ := hrel
    obtain ⟨G, hG⟩ : ∃ G, G = gk := ⟨_, rfl⟩
    have HG := hid hG
    clear hG
    have TR := hid htc
    clear htc
    by_cases hlt : k < 7
    · obtain ⟨v, hv, hst⟩ := ALL.out k hlt
      have hcv : wr.cell? ⟨w8.heap.size, k, none⟩ = some v := (TR.out.cell (p := ⟨w8.heap.size, k, none⟩) BB.out id).trans hv
      obtain ⟨ax, cx, x, rfl, hrx, hcx⟩ := hst
      have RX0 := hid hrx
      have CX := hid hcx
      have hxl := canon_len hcx
      have hkI : (k : Int) < 7 := by omega
      clear hv hrx hcx
      go_wp2_with fail
      go_loopg [12] x.length (fun gk2 j wq => ∃ q : Nat, q + gk2 = x.length ∧ j = .int .i64 (q : Nat) ∧ Touch (fun _ => False) w9 wq)
      case atStart => exact ⟨0, by omega, rfl, TR.out⟩
      case round =>
        obtain ⟨q, hq, rfl, htq⟩ := hrel
        have TQ := hid htq
        have RQ := hid ((RX0.out.new T89.out).new htq)
        clear htq
        by_cases hql : q < x.length
        · obtain ⟨b, o, ha, hbl, hcell⟩ : ∃ b o, ax = some ⟨b, o, none⟩ ∧ b < wr.heap.size ∧ ∀ i (h : i < x.length), wr.cell? ⟨b, o + i * 2, none⟩ = some (.int .i64 (x[i]).1) ∧ wr.cell? ⟨b, o + i * 2 + 1, none⟩ = some (.int .i64 (x[i]).2) := by
            rcases RQ.out with h | h
            · rw [h] at hql; simp at hql
            · exact h
          subst ha
          have hqI : (q : Int) < (x.length : Int) := by omega
          obtain ⟨d0, d1⟩ := hcell q hql
          have hr1 := CX.out.in_ x[q] (List.getElem_mem _)
          unfold inB at hr1
          cases q with
          | zero =>
            obtain ⟨r, hr⟩ : ∃ r, r = x[0] := ⟨_, rfl⟩
            rw [← hr] at d0 d1 hr1
            obtain ⟨y, z⟩ := r
            dsimp only at d0 d1 hr1
            have e1 : decide (y < 0) = false := decide_eq_false (by omega)
            have e2 : decide (z < y) = false := decide_eq_false (by omega)
            have e3 : decide (1114111 < z) = false := decide_eq_false (by omega)
            clear hcell hr hr1
            simp only [Nat.zero_mul, Nat.add_zero] at d0 d1
            go_wp2_with fail
            go_quiet (fail)
            go_wp2
            go_roundg (gk - 1)
            case measure => omega
            case rel => exact ⟨1, by omega, by go_num, TQ.out.drewN _⟩
          | succ q =>
            have hup := canon_lt CX.out q (q + 1) (by omega) hql (by omega)
            obtain ⟨f0, f1⟩ := hcell q (by omega)
            obtain ⟨r, hr⟩ : ∃ r, r = x[q + 1] := ⟨_, rfl⟩
            rw [← hr] at d0 d1 hr1 hup
            obtain ⟨y, z⟩ := r
            obtain ⟨r2, hr2⟩ : ∃ r, r = x[q] := ⟨_, rfl⟩
            have hr3 := CX.out.in_ x[q] (List.getElem_mem _)
            unfold inB at hr3
            rw [← hr2] at f0 f1 hup hr3
            obtain ⟨y2, z2⟩ := r2
            dsimp only at d0 d1 hr1 f0 f1 hup hr3
            have e1 : decide (y < 0) = false := decide_eq_false (by omega)
            have e2 : decide (z < y) = false := decide_eq_false (by omega)
            have e3 : decide (1114111 < z) = false := decide_eq_false (by omega)
            have e4 : decide (y ≤ z2 + 1) = false := decide_eq_false (by omega)
            clear hcell hr hr1 hr2 hup
            go_wp2_with fail
            go_quiet (fail)
            go_wp2
            go_roundg (gk - 1)
            case measure => omega
            case rel => exact ⟨q + 2, by omega, by go_num, TQ.out.drewN _⟩
        · obtain rfl : q = x.length := by omega
          go_wp2_with fail
          go_roundg (G - 1)
          case measure => have := HG.out; omega
          case rel => exact ⟨k + 1, by have := HG.out; omega, by go_num, TQ.out⟩
    · obtain rfl : k = 7 := by omega
      go_wp2
      go_ret
      exact ⟨rfl, (T3.out.trans (T9.out.trans TR.out (fun _ _ e => e)) (fun _ _ e => e)).below _ (Nat.le_refl _) (fun _ e => e.elim)⟩
set_option maxRecDepth 100000 in
theorem setsForm_contract (H : Type) (enc : TypeId × Value → H) (W : World) (base : Nat) (args : Array Value) (ds gs : List (DataW H)) (before : List MemPlace)
    (hval : ∀ (j : Nat) t v, Try.f3.params[j]? = some t → args[j]? = some v → Value.okWide Try.prog W .any base t v)
    (hW : DataW.Whole enc Try.prog Try.f3.params.toList Rows.setsFormSpec.vars false W args.toList ds gs before) (hk : Rows.uptoSmall H (ds ++ gs) = true) :
    Calls Try.prog 3 args W fun e W' => ∃ v, e = .returned v ∧ Rows.setsFormSpec.post enc Try.prog Try.f3 false true false false W args v W' := by
  have hW' := hW
  obtain ⟨p, q, hA0, hV, rfl, hfz, hnd⟩ := hW
  have hA : DataW.TrodAll enc Try.prog W 0 (fun _ => true) true Try.f3.params.toList args.toList ds p := hA0
  rw [Try.params3] at hA hval
  obtain ⟨v0, vs0, d0, ds0, p0, q0, hargs, rfl, rfl, h0, r0⟩ := trodAll_cons hA
  obtain ⟨v1, vs1, d1, ds1, p1, q1, rfl, rfl, rfl, h1, r1⟩ := trodAll_cons r0
  obtain ⟨rfl, rfl, rfl⟩ := trodAll_nil r1
  obtain rfl : args = #[v0, v1] := by cases args; simp_all
  obtain ⟨rfl, rfl⟩ := trodVars_none hV
  have hb : Rows.uptoBulkAll ([d0, d1] ++ ([] : List (DataW H))) ≤ 1048576 := of_decide_eq_true hk
  simp only [List.append_nil, Rows.uptoBulkAll] at hb
  obtain ⟨a0, len0, cap0, rfl⟩ := okWide_slice Try.underlying22 (hval 0 22 v0 rfl rfl)
  have k0 := h0
  have lt0 : ∀ x ∈ p0, x.block < W.heap.size := by obtain ⟨m, hm⟩ := k0; exact DataW.trod_lt m _ _ _ hm
  obtain ⟨l0, rfl, w0, y0⟩ : ∃ l : List R2, len0 = l.length ∧ Rg W a0 l ∧ l.length ≤ Rows.uptoBulk d0 := by
    rcases open_ranges h0 with ⟨rfl, rfl, rfl, rfl⟩ | ⟨x, q, sp, rfl, hl, hsp, rfl, hcell⟩
    · exact ⟨[], rfl, .inl rfl, Nat.zero_le _⟩
    · refine ⟨(List.range len0).map q, by simp, rg_of hcell, ?_⟩
      rw [Rows.uptoBulk]
      have := bulk_ranges (H := H) q (List.range len0)
      rw [List.length_map]
      omega
  obtain ⟨a1, len1, cap1, rfl⟩ := okWide_slice Try.underlying22 (hval 1 22 v1 rfl rfl)
  have k1 := h1
  have lt1 : ∀ x ∈ p1, x.block < W.heap.size := by obtain ⟨m, hm⟩ := k1; exact DataW.trod_lt m _ _ _ hm
  obtain ⟨l1, rfl, w1, y1⟩ : ∃ l : List R2, len1 = l.length ∧ Rg W a1 l ∧ l.length ≤ Rows.uptoBulk d1 := by
    rcases open_ranges h1 with ⟨rfl, rfl, rfl, rfl⟩ | ⟨x, q, sp, rfl, hl, hsp, rfl, hcell⟩
    · exact ⟨[], rfl, .inl rfl, Nat.zero_le _⟩
    · refine ⟨(List.range len1).map q, by simp, rg_of hcell, ?_⟩
      rw [Rows.uptoBulk]
      have := bulk_ranges (H := H) q (List.range len1)
      rw [List.length_map]
      omega
  clear hA0
  refine (setsForm_walk a0 cap0 l0 a1 cap1 l1 W w0 (by omega) w1 (by omega)).mono fun e W' ⟨he, bel⟩ => ?_
  subst he
  exact ⟨_, rfl, _, _, _, [], _, [], hW', trodAll_mk1 (shut_bool Try.underlying4 _), (trodAll_cons_mk (Below.trod laidOut (by kernel_rfl) (of_decide_eq_true (by kernel_rfl)) k0 bel lt0) (trodAll_cons_mk (Below.trod laidOut (by kernel_rfl) (of_decide_eq_true (by kernel_rfl)) k1 bel lt1) trodAll_mk0)), rfl, bel.frame _, fun h => by cases h⟩

set_option maxRecDepth 100000 in
theorem setsForm_lifted (os : Os) (started : os.Started) (H : Type) (enc : TypeId × Value → H) (F : Stop.Interp) :
    ReturnsInHanded {} Try.checked os 3 .any ((Rows.OpenSpec.upto Rows.setsFormSpec).pre6 enc Try.prog Try.f3 Rows.setsFormUptoRow.domain false) (((Rows.OpenSpec.upto Rows.setsFormSpec).at F).post enc Try.prog Try.f3 false true false false) := by
  refine returnsInHanded_of_cond (C := Try.checked) (s := Rows.OpenSpec.upto Rows.setsFormSpec) (k := Rows.uptoSmall) rfl own started (by kernel_rfl) Try.func3
    (OpenSpec.witness (enc := enc) (C := Try.checked) (s := Rows.OpenSpec.upto Rows.setsFormSpec) (k := Rows.uptoSmall) rfl false ⟨#[], #[.slice none 0 0, .slice none 0 0], []⟩ 8 (by kernel_rfl) (by kernel_rfl) (by kernel_rfl)
      (x := ([.nil, .nil], [], [])) (by kernel_rfl) rfl (by kernel_rfl)) ?_
  intro W base args ds gs before hval hW _ hk _
  exact setsForm_contract H enc W base args ds gs before hval hW hk

theorem setsForm_holds : Rows.SetsFormUptoSaid :=
  OpenClaim.holds_of_cond 3 Try.f3 rfl rfl rfl rfl rfl rfl rfl ⟨rfl, rfl, rfl, rfl, rfl⟩ rfl rfl rfl rfl rfl (by kernel_rfl) Try.func3 (by kernel_rfl)
    (of_decide_eq_true (by kernel_rfl)) (by unfold Func.isWrapper; first | (rw [if_pos (by decide +kernel)]; kernel_rfl) | (rw [if_neg (by decide +kernel)]; exact ⟨rfl, rfl⟩))
    (fun os started H enc _ F => setsForm_lifted os started H enc F)
#print axioms setsForm_holds
end Go.Proofs.Ytpjnnbegimaaeab
