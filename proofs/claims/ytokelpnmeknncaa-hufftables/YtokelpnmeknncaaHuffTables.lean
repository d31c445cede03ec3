/- HuffTables: the codes of any lengths, or what is wrong with them, are what the document says, and what is handed in stays; for every input. -/
import Derived.Test.YtokelpnmeknncaaLw
namespace Go.Proofs.Ytokelpnmeknncaa
open Go.ChangeShapes Go.WideShapes Go.ChangeAt Go.RowKit
open Go.ChangeMaps (open_string shut_string)

set_option maxRecDepth 100000 in
set_option maxHeartbeats 4000000 in
theorem huffTables_core (a : Option Addr) (len cap : Nat) (F : Nat → Int) (w : World) (h : Row w a len cap F) :
    Calls Try.prog 3 #[.slice a len cap] w fun e w' => e = .returned (.bool true) ∧ Below w.heap.size w w' := by
  have hb8 := h.fit
  obtain ⟨i0, hin, hz0, hz1, hz2⟩ := info_parts info3
  go_enter Try.func3, Try.ntmps3
  go_wp2_with fail
  refine (speaks_yes w).mono ?_
  rintro e w1 ⟨rfl, ht⟩
  have T1 := hid ht
  have HR := hid (h.new ht)
  clear ht h
  go_wp2_with (first
    | (at_builtin; refine wpList_copy w1 rfl _ _ 22 3 i0 (.int .i64 0) 8 rfl Try.underlying22 hin hz0 hz1 hz2 rfl rfl a len cap rfl ((List.range len).map fun i => Value.int .i64 (F i)) (by rw [List.length_map, List.length_range]) HR.out.vals (one_cells F len) (by unfold maxLen; omega) (by omega) ?_))
  intro v w2 hown ht g c hv
  subst hv
  have T2 := hid (T1.out.trans ht (fun _ _ e => e))
  have R2 := hid (HR.out.new ht)
  have I2 := hid (own_ints hown)
  clear T1 HR hown ht
  go_wp2_with fail
  refine (new_all _ len c F w2 (by omega) I2.out).mono ?_
  rintro e w3 ⟨vd, hvd, ht, hres⟩
  have T3 := hid (T2.out.trans ht (fun _ _ e => e))
  have R3 := hid (R2.out.new ht)
  have I3 := hid (I2.out.new ht)
  have VD := hid hvd
  clear T2 R2 I2 hvd ht
  rcases hres with ⟨hne, rfl⟩ | ⟨rfl, b, rfl, hT⟩
  · go_wp2_with fail
    refine (refnew_all a len cap F w3 (by omega) R3.out.ints).mono ?_
    rintro e w4 ⟨vd2, hvd2, ht, hres⟩
    obtain rfl := hvd2.same VD.out
    have T4 := hid (T3.out.trans ht (fun _ _ e => e))
    have R4 := hid (R3.out.new ht)
    have I4 := hid (I3.out.new ht)
    have hv7 := verd_le hvd2
    clear T3 R3 I3 hvd2 ht
    rcases hres with ⟨_, rfl⟩ | ⟨h0, _⟩
    · go_wp2_with fail
      refine (tcodes_nil w4).mono ?_
      rintro e w5 ⟨rfl, rfl⟩
      go_wp2_with fail
      refine (ints_yes none none 0 0 0 F w5 (by omega) (.inl rfl) (.inl rfl)).mono ?_
      rintro e w6 ⟨rfl, hs6⟩
      have S6 := hid (hs6.touch (fun _ => False))
      clear hs6
      go_wp2_with fail
      refine (ints_yes _ a len c cap F w6 (by omega) (I4.out.new S6.out) (R4.out.ints.new S6.out)).mono ?_
      rintro e w7 ⟨rfl, hs7⟩
      have S7 := hid (T4.out.trans (S6.out.trans (hs7.touch (fun _ => False)) (fun _ _ e => e)) (fun _ _ e => e))
      clear hs7
      have hnz : ((vd2 : Nat) : Int) ≠ 0 := by omega
      go_wp2_with fail
      refine (tcodes_nil w7).mono ?_
      rintro e w8 ⟨rfl, rfl⟩
      go_wp2
      go_ret
      exact ⟨ret_bool (bne_iff_ne.mpr hnz), S7.out.below _ (Nat.le_refl _) (fun _ e => e.elim)⟩
    · exact absurd h0 hne
  · have HT := hid hT
    clear hT
    go_wp2_with fail
    refine (refnew_all a len cap F w3 (by omega) R3.out.ints).mono ?_
    rintro e w4 ⟨vd2, hvd2, ht, hres⟩
    obtain rfl := hvd2.same VD.out
    have T4 := hid (T3.out.trans ht (fun _ _ e => e))
    have R4 := hid (R3.out.new ht)
    have I4 := hid (I3.out.new ht)
    have HT4 := hid (HT.out.kept ht (fun _ _ _ e => e))
    have hlen : len ≤ 1024 := by
      rcases VD.out with ⟨h, _⟩ | ⟨_, h⟩
      · exact h
      · omega
    clear T3 R3 I3 HT hvd2 ht
    rcases hres with ⟨h0, _⟩ | ⟨_, v2, rfl, ho⟩
    · exact absurd rfl h0
    · obtain ⟨a2, c2, rfl, hi2⟩ := own_ints' ho
      have I2 := hid hi2
      clear ho hi2
      go_wp2_with fail
      refine (codes_tbl b _ _ (fl F len) len w4 hlen HT4.out).mono ?_
      rintro e w5 ⟨v, rfl, ho, ht⟩
      obtain ⟨a5, c5, rfl, hi5⟩ := own_ints' ho
      have S5 := hid ht
      have I5 := hid hi5
      clear ht ho hi5
      go_wp2_with fail
      refine (ints_yes a5 a2 len c5 c2 _ w5 (by omega) I5.out (I2.out.new S5.out)).mono ?_
      rintro e w6 ⟨rfl, hs6⟩
      have S6 := hid (S5.out.trans (hs6.touch (fun _ => False)) (fun _ _ e => e))
      clear hs6 S5
      go_wp2_with fail
      refine (ints_yes _ a len c cap F w6 (by omega) (I4.out.new S6.out) (R4.out.ints.new S6.out)).mono ?_
      rintro e w7 ⟨rfl, hs7⟩
      have S7 := hid (T4.out.trans (S6.out.trans (hs7.touch (fun _ => False)) (fun _ _ e => e)) (fun _ _ e => e))
      clear hs7
      go_wp2_with fail
      refine (tcodes_nil w7).mono ?_
      rintro e w8 ⟨rfl, rfl⟩
      go_wp2
      go_ret
      exact ⟨rfl, S7.out.below _ (Nat.le_refl _) (fun _ e => e.elim)⟩

theorem huffTables_walk (a : Option Addr) (len cap : Nat) (zs : List Int) (w : World) (h : IsRow w a len cap zs) :
    Calls Try.prog 3 #[.slice a len cap] w fun e w' => e = .returned (.bool true) ∧ Below w.heap.size w w' := huffTables_core a len cap _ w h.row

set_option maxRecDepth 100000 in
theorem huffTables_lifted (os : Os) (started : os.Started) (H : Type) (enc : TypeId × Value → H) :
    ReturnsInHanded {} Try.checked os 3 .any (Rows.huffTablesSpec.pre6 enc Try.prog Try.f3 Rows.huffTablesRow.domain false) (Rows.huffTablesSpec.post enc Try.prog Try.f3 false true false false) := by
  refine returnsInHanded_of_change_sized (C := Try.checked) own started (by kernel_rfl) Try.func3
    (ChangeSpec.witness6 (enc := enc) (C := Try.checked) false ⟨#[], #[.slice none 0 0], []⟩ 8 (by kernel_rfl) (by kernel_rfl) (by kernel_rfl) (by kernel_rfl)) ?_
  intro W base args ds gs before hval0 hW hcnd hsz0 _
  have hsz : (DataW.weightsEach Try.prog (Try.f3.params.toList ++ Rows.huffTablesSpec.plain.varTypes Try.prog) (ds ++ gs)).all (· ≤ reachBytes) = true := hsz0
  clear hsz0
  have hval : ∀ (j : Nat) t v, Try.f3.params[j]? = some t → args[j]? = some v → Value.okWide Try.prog W .any base t v := hval0
  have hW' := hW
  obtain ⟨p, q, hA0, hV, rfl, hfz, hnd⟩ := hW
  have hA : DataW.TrodAll enc Try.prog W 0 (fun _ => true) true Try.f3.params.toList args.toList ds p := hA0
  rw [Try.params3] at hA hval hsz
  obtain ⟨v0, vs0, d0, ds0, p0, q0, hargs, rfl, rfl, h0, r0⟩ := trodAll_cons hA
  obtain ⟨rfl, rfl, rfl⟩ := trodAll_nil r0
  obtain rfl : args = #[v0] := by cases args; simp_all
  obtain ⟨rfl, rfl⟩ := trodVars_none hV
  obtain ⟨a0, len0, cap0, rfl⟩ := okWide_slice Try.underlying22 (hval 0 22 v0 rfl rfl)
  have k0 := h0
  have lt0 : ∀ x ∈ p0, x.block < W.heap.size := by obtain ⟨m, hm⟩ := k0; exact DataW.trod_lt m _ _ _ hm
  obtain ⟨z0, w0⟩ : ∃ zs, IsRow W a0 len0 cap0 zs := by
    obtain ⟨fuel, hf⟩ := h0
    rcases open_ints Try.underlying22 Try.underlying3 (by kernel_rfl) hf with ⟨hcs, _⟩ | ⟨x, l, c, zs, hcs, _, hl, hm, hz, hx, hcell, hwz⟩
    · simp [Value.cells] at hcs
      obtain ⟨rfl, rfl, rfl⟩ := hcs
      exact ⟨[], .inl ⟨rfl, rfl, rfl, rfl⟩⟩
    · simp [Value.cells] at hcs
      obtain ⟨rfl, rfl, rfl⟩ := hcs
      simp only [Prod.mk.injEq] at hx
      obtain ⟨rfl, rfl⟩ := hx
      have hs := sized_slice hsz (j := 0) (t := 22) (e := 3) rfl rfl Try.underlying22
      rw [show Try.prog.bytesOf 3 = 8 by kernel_rfl] at hs
      simp only [lits, List.length_map, List.length_take, List.length_drop, reachBytes] at hs
      simp only [if_true] at hz
      refine ⟨zs, .inr ⟨_, rfl, hl, by omega, hz, ?_, hcell, hwz⟩⟩
      intro hi
      have hb := World.block_lt_of_cell? W _ (hcell 0 (by omega))
      simpa [Addr.add] using hb
  clear hA0 hval0
  refine (huffTables_walk a0 len0 cap0 z0 W w0).mono fun e W' ⟨he, bel⟩ => ?_
  subst he
  exact ⟨_, rfl, _, _, _, [], _, [], hW', trodAll_mk1 (shut_bool Try.underlying4 _), (trodAll_cons_mk (Below.trod laidOut (by kernel_rfl) (of_decide_eq_true (by kernel_rfl)) k0 bel lt0) trodAll_mk0), rfl, bel.frame _, fun h => by cases h⟩

theorem huffTables_holds : Rows.HuffTablesSaid :=
  OpenClaim.holds_of_wide 3 Try.f3 rfl rfl rfl rfl rfl rfl rfl ⟨rfl, rfl, rfl, rfl, rfl⟩ rfl rfl rfl rfl rfl (by kernel_rfl) Try.func3 (by kernel_rfl)
    (of_decide_eq_true (by kernel_rfl)) (by unfold Func.isWrapper; first | (rw [if_pos (by decide +kernel)]; kernel_rfl) | (rw [if_neg (by decide +kernel)]; exact ⟨rfl, rfl⟩))
    (fun os started H enc _ => huffTables_lifted os started H enc)
#print axioms huffTables_holds
end Go.Proofs.Ytokelpnmeknncaa
