/- SetsTurned, for all inputs of at most 1048576 values together: the order of ranges doesn't count, nor do they if they come twice. -/
import Derived.Test.YtpjnnbegimaaeabM2
import Derived.Test.YtpjnnbegimaaeabM3
namespace Go.Proofs.Ytpjnnbegimaaeab
open Go.ChangeShapes Go.WideShapes Go.ChangeAt Go.RowKit

/-- The ranges from a place on, the last one first, each twice. -/
def bk (l : List R2) (j : Nat) : List R2 := (l.drop j).reverse.flatMap fun x => [x, x]
theorem bk_end (l : List R2) : bk l l.length = [] := by simp [bk]
theorem bk_step (l : List R2) (j : Nat) (h : j < l.length) : bk l j = bk l (j + 1) ++ [l[j], l[j]] := by
  unfold bk
  rw [List.drop_eq_getElem_cons h, List.reverse_cons, List.flatMap_append]
  simp
theorem bk_len (l : List R2) : ∀ n j, n + j = l.length → (bk l j).length = 2 * n
  | 0, j, h => by
    obtain rfl : j = l.length := by omega
    rw [bk_end]
    rfl
  | n + 1, j, h => by
    rw [bk_step l j (by omega), List.length_append, bk_len l n (j + 1) (by omega)]
    simp
    omega
theorem in_bk (l : List R2) (x : Int) : In x (bk l 0) ↔ In x l := by
  unfold In bk
  simp

set_option maxRecDepth 100000 in
set_option maxHeartbeats 4000000 in
theorem setsTurned_walk (a : Option Addr) (cap : Nat) (l : List R2) (w : World) (hl : Rg w a l) (hb : l.length ≤ 1048576) :
    Calls Try.prog 4 #[.slice a l.length cap] w fun e w' => e = .returned (.bool true) ∧ Below w.heap.size w w' := by
  obtain ⟨i0, hi35, hz0, hz1, hz2⟩ := info_parts info35
  have HL := hid hl
  clear hl
  go_enter Try.func4, Try.ntmps4
  go_wp2_with fail
  refine (speaks_yes w).mono ?_
  rintro e w1 ⟨rfl, tc⟩
  have T1 := hid tc
  have K := hid (made_any a cap l w1 (HL.out.new tc) (by omega))
  clear tc
  go_wp2_with fail
  refine K.out.mono ?_
  rintro e w2 ⟨v, v2, s, rfl, hcn, hin, ow, _⟩
  have OS := hid ow
  have HCN := hid hcn
  have HIN := hid hin
  have T2 := hid (T1.out.trans ow.touch (fun _ _ e => e))
  obtain ⟨sa, sc, hv, hrg⟩ := ow.rg
  have RS := hid hrg
  subst hv
  clear ow hcn hin hrg K
  go_wp2_with fail
  go_loopg [5, 6] l.length (fun gk vb i wr => gk ≤ l.length ∧ i = .int .i64 ((gk : Int) - 1) ∧ OwE w2 wr 35 vb (bk l gk))
  case atStart => exact ⟨Nat.le_refl _, rfl, by rw [bk_end]; exact OwE.nil _ _⟩
  case round =>
    obtain ⟨hg, rfl, hob⟩ := hrel
    have OB := hid hob
    have HLR := hid (HL.out.new (T2.out.trans hob.touch (fun _ _ e => e)))
    have hbl := bk_len l (l.length - gk) gk (by omega)
    obtain ⟨ab, cb, hv⟩ := own_shape hob.own
    subst hv
    clear hob
    by_cases h0 : gk = 0
    · subst h0
      have hMM : (bk l 0).length = 2 * l.length := bk_len l l.length 0 (by omega)
      obtain ⟨ab', cb', hv', hrb⟩ := OB.out.rg
      simp only [Value.slice.injEq] at hv'
      obtain ⟨rfl, _, rfl⟩ := hv'
      have KM := hid (made_any ab cb (bk l 0) wr hrb (by omega))
      have TR := hid (T2.out.trans OB.out.touch (fun _ _ e => e))
      have RS1 := hid (RS.out.new OB.out.touch)
      clear hbl hMM hrb
      go_wp2_with fail
      refine KM.out.mono ?_
      rintro e w3 ⟨vt, vt2, t, rfl, hcn, hin, ow, _⟩
      obtain rfl : t = s := canon_one hcn HCN.out (fun x => by rw [hin x, HIN.out x, in_bk])
      have T3 := hid (TR.out.trans ow.touch (fun _ _ e => e))
      have RS2 := hid (RS1.out.new ow.touch)
      obtain ⟨ta, tcp, hvt, hrt⟩ := ow.rg
      subst hvt
      have RT2 := hid hrt
      have hsl : t.length ≤ 557057 := canon_len HCN.out
      have KU := hid (of_says sa sc t w3 RS2.out (by omega))
      clear hcn hin ow hrt KM
      go_wp2_with fail
      refine KU.out.mono ?_
      rintro e w4 ⟨vu, u, rfl, hcn, hin, ow⟩
      obtain rfl : u = t := canon_one hcn HCN.out (fun x => by rw [hin x, HIN.out x]; exact ⟨fun h => h.2, fun h => ⟨h.1, h⟩⟩)
      have T4 := hid (T3.out.trans ow.touch (fun _ _ e => e))
      have RS3 := hid (RS2.out.new ow.touch)
      have RT3 := hid (RT2.out.new ow.touch)
      obtain ⟨ua, uc, hvu, hru⟩ := own_rg ow.own
      subst hvu
      have RU3 := hid hru
      have K1 := hid (same_yes sa ta sc tcp u w4 RS3.out RT3.out (by omega))
      clear hcn hin ow hru KU
      go_wp2_with fail
      refine K1.out.mono ?_
      rintro e w5 ⟨rfl, tc5⟩
      have T5 := hid (T4.out.trans tc5 (fun _ _ e => e))
      have K2 := hid (same_yes sa ua sc uc u w5 (RS3.out.new tc5) (RU3.out.new tc5) (by omega))
      clear tc5 K1
      go_wp2_with fail
      refine K2.out.mono ?_
      rintro e w6 ⟨rfl, tc6⟩
      have T6 := hid (T5.out.trans tc6 (fun _ _ e => e))
      have K3 := hid (of_says none 0 [] w6 (.inl rfl) (by decide))
      clear tc6 K2
      go_wp2_with fail
      refine K3.out.mono ?_
      rintro e w7 ⟨vn, n, rfl, hcn, hin, ow⟩
      obtain rfl : n = [] := canon_one hcn ⟨by simp, .nil⟩ (fun x => by rw [hin x]; exact ⟨fun h => absurd h.2 (in_nil x), fun h => absurd h (in_nil x)⟩)
      obtain ⟨na, nc, hvn⟩ := own_shape ow.own
      subst hvn
      have T7 := hid (T6.out.trans ow.touch (fun _ _ e => e))
      clear hcn hin ow K3
      go_wp2
      go_ret
      exact ⟨rfl, T7.out.below _ (Nat.le_refl _) (fun _ e => e.elim)⟩
    · obtain ⟨j, rfl⟩ : ∃ j, gk = j + 1 := ⟨gk - 1, by omega⟩
      have hlt : j < l.length := by omega
      obtain ⟨b, o, ha, hbb, hcell⟩ : ∃ b o, a = some ⟨b, o, none⟩ ∧ b < wr.heap.size ∧ ∀ i (h : i < l.length), wr.cell? ⟨b, o + i * 2, none⟩ = some (.int .i64 (l[i]).1) ∧ wr.cell? ⟨b, o + i * 2 + 1, none⟩ = some (.int .i64 (l[i]).2) := by
        rcases HLR.out with h | h
        · rw [h] at hlt; simp at hlt
        · exact h
      subst ha
      obtain ⟨d0, d1⟩ := hcell j hlt
      obtain ⟨r, hr⟩ : ∃ r, r = l[j] := ⟨_, rfl⟩
      rw [← hr] at d0 d1
      have HB := hid (show bk l j = bk l (j + 1) ++ [r, r] from by rw [hr]; exact bk_step l j hlt)
      obtain ⟨x, y⟩ := r
      dsimp only at d0 d1
      obtain ⟨M, hM⟩ : ∃ M, M = (bk l (j + 1)).length := ⟨_, rfl⟩
      obtain ⟨S, hS⟩ : ∃ S, S = bk l (j + 1) := ⟨_, rfl⟩
      rw [← hM] at hbl ⊢
      rw [← hS] at OB HB hM
      have HM := hid hM
      rw [← hM] at OB
      have hMb : M ≤ 2097152 := by omega
      have hSb : S.length ≤ 2097152 := by omega
      have hjI : (j : Int) < (l.length : Int) := by omega
      have hjj : (((j + 1 : Nat) : Int) - 1) = (j : Int) := by omega
      rw [hjj]
      clear hcell hr hM hS hbl h0 hjj
      go_wp2_with fail
      go_region_law ((refine step_append_own _ (by rfl) _ _ _ (by rfl) 0 35 i0 _ 2 16 Try.underlying22 hi35 hz0 hz1 hz2 rfl (by decide) (.slice ab M cb) _ _ (by rfl) ((OB.out.own.alloc _).drew) ⟨wr.heap.size, 0, none⟩ 2 2 [.int .i64 x, .int .i64 y, .int .i64 x, .int .i64 y] (by rfl) (by rfl) (row_new wr [.int .i64 x, .int .i64 y, .int .i64 x, .int .i64 y] 35) (by intro u hu; simp at hu; rcases hu with rfl | rfl | rfl | rfl <;> rfl) (by unfold maxLen; omega) (by omega) (Nat.zero_le _) (wr.heap.size + 1) (by simp) ?_; intro v' w4 hown hgrow hat))
      all_goals
        have OC := hid (OB.out.more (xs := [(x, y), (x, y)]) hown ⟨hgrow.os, hgrow.tape, hgrow.output, hgrow.size, hgrow.block⟩ hat)
        clear hown hgrow hat
        go_wp2
        go_roundg j
        case measure => omega
        case rel =>
          refine ⟨by omega, by go_num, ?_⟩
          rw [HB.out]
          exact OC.out

set_option maxRecDepth 100000 in
theorem setsTurned_contract (H : Type) (enc : TypeId × Value → H) (W : World) (base : Nat) (args : Array Value) (ds gs : List (DataW H)) (before : List MemPlace)
    (hval : ∀ (j : Nat) t v, Try.f4.params[j]? = some t → args[j]? = some v → Value.okWide Try.prog W .any base t v)
    (hW : DataW.Whole enc Try.prog Try.f4.params.toList Rows.setsTurnedSpec.vars false W args.toList ds gs before) (hk : Rows.uptoSmall H (ds ++ gs) = true) :
    Calls Try.prog 4 args W fun e W' => ∃ v, e = .returned v ∧ Rows.setsTurnedSpec.post enc Try.prog Try.f4 false true false false W args v W' := by
  have hW' := hW
  obtain ⟨p, q, hA0, hV, rfl, hfz, hnd⟩ := hW
  have hA : DataW.TrodAll enc Try.prog W 0 (fun _ => true) true Try.f4.params.toList args.toList ds p := hA0
  rw [Try.params4] at hA hval
  obtain ⟨v0, vs0, d0, ds0, p0, q0, hargs, rfl, rfl, h0, r0⟩ := trodAll_cons hA
  obtain ⟨rfl, rfl, rfl⟩ := trodAll_nil r0
  obtain rfl : args = #[v0] := by cases args; simp_all
  obtain ⟨rfl, rfl⟩ := trodVars_none hV
  have hb : Rows.uptoBulkAll ([d0] ++ ([] : List (DataW H))) ≤ 1048576 := of_decide_eq_true hk
  simp only [List.append_nil, Rows.uptoBulkAll] at hb
  obtain ⟨a0, len0, cap0, rfl⟩ := okWide_slice Try.underlying22 (hval 0 22 v0 rfl rfl)
  have k0 := h0
  have lt0 : ∀ x ∈ p0, x.block < W.heap.size := by obtain ⟨m, hm⟩ := k0; exact DataW.trod_lt m _ _ _ hm
  obtain ⟨l0, rfl, w0, y0⟩ : ∃ l : List R2, len0 = l.length ∧ Rg W a0 l ∧ l.length ≤ Rows.uptoBulk d0 := by
    rcases open_ranges h0 with ⟨rfl, rfl, rfl, rfl⟩ | ⟨x, q, sp, rfl, hl, hsp, rfl, hcell⟩
    · exact ⟨[], rfl, .inl rfl, Nat.zero_le _⟩
    · refine ⟨(List.range len0).map q, by simp, rg_of hcell, ?_⟩
      rw [Rows.uptoBulk]
      have := bulk_ranges (H := H) q (List.range len0)
      rw [List.length_map]
      omega
  clear hA0
  refine (setsTurned_walk a0 cap0 l0 W w0 (by omega)).mono fun e W' ⟨he, bel⟩ => ?_
  subst he
  exact ⟨_, rfl, _, _, _, [], _, [], hW', trodAll_mk1 (shut_bool Try.underlying4 _), (trodAll_cons_mk (Below.trod laidOut (by kernel_rfl) (of_decide_eq_true (by kernel_rfl)) k0 bel lt0) trodAll_mk0), rfl, bel.frame _, fun h => by cases h⟩

set_option maxRecDepth 100000 in
theorem setsTurned_lifted (os : Os) (started : os.Started) (H : Type) (enc : TypeId × Value → H) (F : Stop.Interp) :
    ReturnsInHanded {} Try.checked os 4 .any ((Rows.OpenSpec.upto Rows.setsTurnedSpec).pre6 enc Try.prog Try.f4 Rows.setsTurnedUptoRow.domain false) (((Rows.OpenSpec.upto Rows.setsTurnedSpec).at F).post enc Try.prog Try.f4 false true false false) := by
  refine returnsInHanded_of_cond (C := Try.checked) (s := Rows.OpenSpec.upto Rows.setsTurnedSpec) (k := Rows.uptoSmall) rfl own started (by kernel_rfl) Try.func4
    (OpenSpec.witness (enc := enc) (C := Try.checked) (s := Rows.OpenSpec.upto Rows.setsTurnedSpec) (k := Rows.uptoSmall) rfl false ⟨#[], #[.slice none 0 0], []⟩ 8 (by kernel_rfl) (by kernel_rfl) (by kernel_rfl)
      (x := ([.nil], [], [])) (by kernel_rfl) rfl (by kernel_rfl)) ?_
  intro W base args ds gs before hval hW _ hk _
  exact setsTurned_contract H enc W base args ds gs before hval hW hk

theorem setsTurned_holds : Rows.SetsTurnedUptoSaid :=
  OpenClaim.holds_of_cond 4 Try.f4 rfl rfl rfl rfl rfl rfl rfl ⟨rfl, rfl, rfl, rfl, rfl⟩ rfl rfl rfl rfl rfl (by kernel_rfl) Try.func4 (by kernel_rfl)
    (of_decide_eq_true (by kernel_rfl)) (by unfold Func.isWrapper; first | (rw [if_pos (by decide +kernel)]; kernel_rfl) | (rw [if_neg (by decide +kernel)]; exact ⟨rfl, rfl⟩))
    (fun os started H enc _ F => setsTurned_lifted os started H enc F)
#print axioms setsTurned_holds
end Go.Proofs.Ytpjnnbegimaaeab
