/- HuffEven: the lengths of any symbols that are used are the document's, and they make a table; condition: what is read is of bulk at most 1048576 (the given one). -/
import Derived.Test.YtokelpnmeknncaaLb
import Derived.Test.YtokelpnmeknncaaEn
namespace Go.Proofs.Ytokelpnmeknncaa
open Go.ChangeShapes Go.WideShapes Go.ChangeAt Go.RowKit Go.Deep

theorem even_both (len : Nat) (u : Nat → Bool) (hl : len ≤ 1048576) : ∃ F : Nat → Nat,
    (∀ a cap w, Bools w a len u → Calls Try.prog 19 #[.slice a len cap] w fun e w' => ∃ v, e = .returned v ∧ w'.ownsRow w.heap.size 3 1 v len ((List.range len).map fun i => .int .i64 (F i : Nat)) ∧ Touch (fun _ => False) w w') ∧
    (∀ a cap w, Bools w a len u → Calls Try.prog 20 #[.slice a len cap] w fun e w' => ∃ v, e = .returned v ∧ w'.ownsRow w.heap.size 3 1 v len ((List.range len).map fun i => .int .i64 (F i : Nat)) ∧ Touch (fun _ => False) w w') ∧
    (len ≤ 1024 → F = evf u len) := by
  have hle := cntb_le u len
  by_cases h : cntb u len = 0 ∨ 32768 < cntb u len
  · have e : ((List.range len).map fun _ : Nat => Value.int .i64 ((0 : Nat) : Int)) = List.replicate len (.int .i64 0) := by
      rw [List.eq_replicate_iff]
      refine ⟨by simp, fun x hx => ?_⟩
      simp at hx
      obtain ⟨_, rfl⟩ := hx
      rfl
    refine ⟨fun _ => 0, fun a cap w hi => ?_, fun a cap w hi => ?_, fun h2 => ?_⟩
    · rw [e]
      exact even_none a len cap _ u w hl hi rfl h
    · rw [e]
      exact refeven_none a len cap _ u w hl hi rfl h
    · funext i
      unfold evf
      rw [if_pos (by omega)]
  · obtain ⟨h1, h2⟩ := log_fits (cntb u len) (by omega)
    refine ⟨evenLen u (cntb u len) (Nat.log2 (cntb u len)), fun a cap w hi => ?_, fun a cap w hi => ?_, fun _ => ?_⟩
    · have hc := even_any a len cap _ _ u w hl hi rfl (by omega) (by omega) h1 h2
      refine hc.mono ?_
      rintro e w' ⟨v, g1, g2, g3⟩
      rw [natsV, List.map_map] at g2
      exact ⟨v, g1, g2, g3⟩
    · have hc := refeven_any a len cap _ _ u w hl hi rfl (by omega) (by omega) h1 h2
      refine hc.mono ?_
      rintro e w' ⟨v, g1, g2, g3⟩
      rw [natsV, List.map_map] at g2
      exact ⟨v, g1, g2, g3⟩
    · funext i
      unfold evf
      rw [if_neg (by omega)]

set_option maxRecDepth 100000 in
set_option maxHeartbeats 4000000 in
theorem huffEven_walk (a : Option Addr) (len cap : Nat) (u : Nat → Bool) (w : World) (h : BRow w a len cap u) (hl : len ≤ 1048576) :
    Calls Try.prog 5 #[.slice a len cap] w fun e w' => e = .returned (.bool true) ∧ Below w.heap.size w w' := by
  obtain ⟨F, hE, hR, hsm⟩ := even_both len u hl
  have HE := hid hE
  have HRE := hid hR
  have HSM := hid hsm
  clear hE hR hsm
  obtain ⟨i0, hin, hz0, hz1, hz2⟩ := info_parts info4
  go_enter Try.func5, Try.ntmps5
  go_wp2_with fail
  refine (speaks_yes w).mono ?_
  rintro e w1 ⟨rfl, ht⟩
  have T1 := hid ht
  have HR := hid (h.new ht)
  clear ht h
  go_wp2_with (first
    | (at_builtin; refine wpList_copy w1 rfl _ _ 42 4 i0 (.bool false) 1 rfl Try.underlying42 hin hz0 hz1 hz2 rfl rfl a len cap rfl ((List.range len).map fun i => Value.bool (u i)) (by rw [List.length_map, List.length_range]) HR.out.vals (bone_cells u len) (by unfold maxLen; omega) (by omega) ?_))
  intro v2 w2 hown ht g c hv2
  subst hv2
  have T2 := hid (T1.out.trans ht (fun _ _ e => e))
  have R2 := hid (HR.out.new ht)
  have I2 := hid (own_bools hown)
  clear T1 HR hown ht
  go_wp2_with fail
  refine (HE.out _ c w2 I2.out).mono ?_
  rintro e w3 ⟨vl, rfl, ho, ht⟩
  obtain ⟨al, cl, rfl, hil⟩ := own_ints' ho
  have T3 := hid (T2.out.trans ht (fun _ _ e => e))
  have R3 := hid (R2.out.new ht)
  have L3 := hid hil
  clear T2 R2 I2 ho ht hil
  go_wp2_with fail
  refine (HRE.out a cap w3 R3.out.bools).mono ?_
  rintro e w4 ⟨vl2, rfl, ho, ht⟩
  obtain ⟨al2, cl2, rfl, hil⟩ := own_ints' ho
  have T4 := hid (T3.out.trans ht (fun _ _ e => e))
  have L4 := hid (L3.out.new ht)
  have M4 := hid hil
  clear T3 R3 L3 ho ht hil
  go_wp2_with fail
  refine (ints_yes al al2 len cl cl2 _ w4 (by omega) L4.out M4.out).mono ?_
  rintro e w5 ⟨rfl, hs5⟩
  have T5 := hid (T4.out.trans (hs5.touch _) (fun _ _ e => e))
  have L5 := hid (L4.out.new (hs5.touch _))
  clear T4 L4 M4 hs5
  by_cases hbig : 1024 < len
  · go_wp2_with fail
    refine (new_big al len cl w5 hbig (by omega)).mono ?_
    rintro e w6 ⟨rfl, rfl⟩
    go_wp2
    go_ret
    exact ⟨ret_bool (decide_eq_true (by omega)), T5.out.below _ (Nat.le_refl _) (fun _ e => e.elim)⟩
  · rw [HSM.out (by omega)] at L5
    go_wp2_with fail
    refine (new_ok al len cl (evf u len) w5 (by omega) (evf_le u len (by omega)) L5.out (evf_err u len (by omega))).mono ?_
    rintro e w6 ⟨b, rfl, hT, ht⟩
    have T6 := hid (T5.out.trans ht (fun _ _ e => e))
    clear hT ht
    go_wp2
    go_ret
    exact ⟨rfl, T6.out.below _ (Nat.le_refl _) (fun _ e => e.elim)⟩

theorem bulk_bools {H : Type} (u : Nat → Bool) : ∀ l : List Nat, Rows.uptoBulkAll (H := H) (l.map fun i => .lit (.bool (u i))) = l.length
  | [] => rfl
  | x :: l => by
    rw [List.map_cons, Rows.uptoBulkAll, bulk_bools u l, Rows.uptoBulk, List.length_cons]
    · omega
    · intro b h
      cases h

theorem huffEven_contract (H : Type) (enc : TypeId × Value → H) (W : World) (base : Nat) (args : Array Value) (ds gs : List (DataW H)) (before : List MemPlace)
    (hval : ∀ (j : Nat) t v, Try.f5.params[j]? = some t → args[j]? = some v → Value.okWide Try.prog W .any base t v)
    (hW : DataW.Whole enc Try.prog Try.f5.params.toList Rows.huffEvenSpec.vars false W args.toList ds gs before) (hk : Rows.uptoSmall H (ds ++ gs) = true) :
    Calls Try.prog 5 args W fun e W' => ∃ v, e = .returned v ∧ Rows.huffEvenSpec.post enc Try.prog Try.f5 false true false false W args v W' := by
  have hW' := hW
  obtain ⟨p, q, hA0, hV, rfl, hfz, hnd⟩ := hW
  have hA : DataW.TrodAll enc Try.prog W 0 (fun _ => true) true Try.f5.params.toList args.toList ds p := hA0
  rw [Try.params5] at hA hval
  obtain ⟨v0, vs0, d0, ds0, p0, q0, hargs, rfl, rfl, h0, r0⟩ := trodAll_cons hA
  obtain ⟨rfl, rfl, rfl⟩ := trodAll_nil r0
  obtain rfl : args = #[v0] := by cases args; simp_all
  obtain ⟨rfl, rfl⟩ := trodVars_none hV
  obtain ⟨a0, len0, cap0, rfl⟩ := okWide_slice Try.underlying42 (hval 0 42 v0 rfl rfl)
  have k0 := h0
  have lt0 : ∀ x ∈ p0, x.block < W.heap.size := by obtain ⟨m, hm⟩ := k0; exact DataW.trod_lt m _ _ _ hm
  have hb : Rows.uptoBulkAll ([d0] ++ ([] : List (DataW H))) ≤ 1048576 := of_decide_eq_true hk
  obtain ⟨z0, w0, y0⟩ : ∃ u, BRow W a0 len0 cap0 u ∧ len0 ≤ 1048576 := by
    obtain ⟨fuel, hf⟩ := h0
    rcases open_bools Try.underlying42 Try.underlying4 (by kernel_rfl) hf with ⟨hcs, _⟩ | ⟨x, l, c, B, hcs, _, hl, hm, hx, hcell⟩
    · simp [Value.cells] at hcs
      obtain ⟨rfl, rfl, rfl⟩ := hcs
      exact ⟨fun _ => false, brow_none W _, by omega⟩
    · simp [Value.cells] at hcs
      obtain ⟨rfl, rfl, rfl⟩ := hcs
      simp only [Prod.mk.injEq] at hx
      obtain ⟨rfl, rfl⟩ := hx
      have hb2 : len0 ≤ 1048576 := by
        simp only [List.append_nil, boolRow, Rows.uptoBulkAll, Rows.uptoBulk] at hb
        rw [bulk_bools B, List.length_range] at hb
        omega
      exact ⟨B, brow_of hl (by omega) hcell, hb2⟩
  clear hA0
  refine (huffEven_walk a0 len0 cap0 z0 W w0 y0).mono fun e W' ⟨he, bel⟩ => ?_
  subst he
  exact ⟨_, rfl, _, _, _, [], _, [], hW', trodAll_mk1 (shut_bool Try.underlying4 _), (trodAll_cons_mk (Below.trod laidOut (by kernel_rfl) (of_decide_eq_true (by kernel_rfl)) k0 bel lt0) trodAll_mk0), rfl, bel.frame _, fun h => by cases h⟩

set_option maxRecDepth 100000 in
theorem huffEven_lifted (os : Os) (started : os.Started) (H : Type) (enc : TypeId × Value → H) (F : Stop.Interp) :
    ReturnsInHanded {} Try.checked os 5 .any ((Rows.OpenSpec.upto Rows.huffEvenSpec).pre6 enc Try.prog Try.f5 Rows.huffEvenUptoRow.domain false) (((Rows.OpenSpec.upto Rows.huffEvenSpec).at F).post enc Try.prog Try.f5 false true false false) := by
  refine returnsInHanded_of_cond (C := Try.checked) (s := Rows.OpenSpec.upto Rows.huffEvenSpec) (k := Rows.uptoSmall) rfl own started (by kernel_rfl) Try.func5
    (OpenSpec.witness (enc := enc) (C := Try.checked) (s := Rows.OpenSpec.upto Rows.huffEvenSpec) (k := Rows.uptoSmall) rfl false ⟨#[], #[.slice none 0 0], []⟩ 8 (by kernel_rfl) (by kernel_rfl) (by kernel_rfl)
      (x := ([.nil], [], [])) (by kernel_rfl) rfl (by kernel_rfl)) ?_
  intro W base args ds gs before hval hW _ hk _
  exact huffEven_contract H enc W base args ds gs before hval hW hk

theorem huffEven_holds : Rows.HuffEvenUptoSaid :=
  OpenClaim.holds_of_cond 5 Try.f5 rfl rfl rfl rfl rfl rfl rfl ⟨rfl, rfl, rfl, rfl, rfl⟩ rfl rfl rfl rfl rfl (by kernel_rfl) Try.func5 (by kernel_rfl)
    (of_decide_eq_true (by kernel_rfl)) (by unfold Func.isWrapper; first | (rw [if_pos (by decide +kernel)]; kernel_rfl) | (rw [if_neg (by decide +kernel)]; exact ⟨rfl, rfl⟩))
    (fun os started H enc _ F => huffEven_lifted os started H enc F)
#print axioms huffEven_holds
end Go.Proofs.Ytokelpnmeknncaa
