/- HuffOrder: of any lengths that make a table, longer codes are greater numbers from the left, and of one length they rise with the symbols; for every input. -/
import Derived.Test.YtokelpnmeknncaaLw
namespace Go.Proofs.Ytokelpnmeknncaa
open Go.ChangeShapes Go.WideShapes Go.ChangeAt Go.RowKit
open Go.ChangeMaps (open_string shut_string)

theorem order_says (f : Nat → Nat) (hf : ∀ i, f i ≤ 15) (len k i : Nat) (hk : k < i) (hi : i < len) (hk0 : f k ≠ 0) (hi0 : f i ≠ 0) : f k ≤ f i ↔ startOf f len k < startOf f len i := by
  have p1 : 0 < 2 ^ (15 - f k) := Nat.pow_pos (by decide)
  have p2 : 0 < 2 ^ (15 - f i) := Nat.pow_pos (by decide)
  constructor
  · intro h
    have := ahead f len k i (by omega) hk0 hi0 (hf k) (hf i) (by omega)
    omega
  · intro h
    rcases Nat.lt_or_ge (f i) (f k) with h' | h'
    · have := ahead f len i k hi hi0 hk0 (hf i) (hf k) (.inl h')
      omega
    · exact h'

theorem start_lt (f : Nat → Nat) (hf : ∀ i, f i ≤ 15) (len i : Nat) (hi : i < len) (h0 : f i ≠ 0) (hr : rm f len ≤ 2 ^ 15) : startOf f len i < 32768 := by
  have h := code_lt f hf len i hi h0 hr
  have e : 2 ^ f i * 2 ^ (15 - f i) = 32768 := by
    have := hf i
    rw [← Nat.pow_add, show f i + (15 - f i) = 15 by omega]
  unfold startOf
  rw [← e]
  exact Nat.mul_lt_mul_of_pos_right h (Nat.pow_pos (by decide))

theorem wrap_small (c e : Nat) (h : c * 2 ^ e < 32768) : wrap64 ((c : Int) * 2 ^ e) = ((c * 2 ^ e : Nat) : Int) := by
  have e1 : (c : Int) * 2 ^ e = ((c * 2 ^ e : Nat) : Int) := by simp
  rw [e1]
  generalize c * 2 ^ e = x at *
  unfold wrap64
  omega

theorem order_cmp (A B ck cn : Nat) (h1 : ck * 2 ^ (15 - A) < 32768) (h2 : cn * 2 ^ (15 - B) < 32768) (h : A ≤ B ↔ ck * 2 ^ (15 - A) < cn * 2 ^ (15 - B)) : (!decide (A ≤ B) == decide (wrap64 ((ck : Int) * 2 ^ (15 - A)) < wrap64 ((cn : Int) * 2 ^ (15 - B)))) = false := by
  rw [wrap_small _ _ h1, wrap_small _ _ h2]
  generalize ck * 2 ^ (15 - A) = x at *
  generalize cn * 2 ^ (15 - B) = y at *
  have : decide (A ≤ B) = decide ((x : Int) < (y : Int)) := decide_eq_decide.mpr (by omega)
  rw [this]
  cases decide ((x : Int) < (y : Int)) <;> rfl

set_option maxRecDepth 100000 in
set_option maxHeartbeats 4000000 in
theorem huffOrder_core (a : Option Addr) (len cap : Nat) (F : Nat → Int) (w : World) (h : Row w a len cap F) :
    Calls Try.prog 8 #[.slice a len cap] w fun e w' => e = .returned (.bool true) ∧ Below w.heap.size w w' := by
  have hb8 := h.fit
  obtain ⟨i0, hin, hz0, hz1, hz2⟩ := info_parts info3
  go_enter Try.func8, Try.ntmps8
  go_wp2_with fail
  refine (speaks_yes w).mono ?_
  rintro e w1 ⟨rfl, ht⟩
  have T1 := hid ht
  have HR := hid (h.new ht)
  clear ht h
  go_wp2_with (first
    | (at_builtin; refine wpList_copy w1 rfl _ _ 22 3 i0 (.int .i64 0) 8 rfl Try.underlying22 hin hz0 hz1 hz2 rfl rfl a len cap rfl ((List.range len).map fun i => Value.int .i64 (F i)) (by rw [List.length_map, List.length_range]) HR.out.vals (one_cells F len) (by unfold maxLen; omega) (by omega) ?_))
  intro v w2 hown ht g c hv
  subst hv
  have T2 := hid (T1.out.trans ht (fun _ _ e => e))
  have R2 := hid (HR.out.new ht)
  have I2 := hid (own_ints hown)
  clear T1 HR hown ht
  go_wp2_with fail
  refine (new_all _ len c F w2 (by omega) I2.out).mono ?_
  rintro e w3 ⟨vd, hvd, ht, hres⟩
  have T3 := hid (T2.out.trans ht (fun _ _ e => e))
  have R3 := hid (R2.out.new ht)
  have VD := hid hvd
  clear T2 R2 I2 hvd ht
  rcases hres with ⟨hne, rfl⟩ | ⟨rfl, b, rfl, hT⟩
  · have hnz : ((vd : Nat) : Int) ≠ 0 := by omega
    have hnz' : (((vd : Nat) : Int) != 0) = true := bne_iff_ne.mpr hnz
    go_wp2
    go_ret
    exact ⟨rfl, T3.out.below _ (Nat.le_refl _) (fun _ e => e.elim)⟩
  · have HT := hid hT
    have hok : len ≤ 1024 ∧ okLens F len ∧ errOf (fl F len) len = 0 := by
      rcases VD.out with ⟨h, h2, h3⟩ | ⟨_, h⟩
      · exact ⟨h, h2, h3.symm⟩
      · omega
    obtain ⟨hlen, hokl, herr⟩ := hok
    have OK := hid hokl
    have ER := hid herr
    clear hT hokl herr VD
    go_wp2_with fail
    refine (codes_tbl b _ _ (fl F len) len w3 hlen HT.out).mono ?_
    rintro e w5 ⟨v, rfl, ho, ht⟩
    obtain ⟨a5, c5, rfl, hi5⟩ := own_ints' ho
    have T5 := hid (T3.out.trans ht (fun _ _ e => e))
    have R5 := hid (R3.out.new ht)
    have I5 := hid hi5
    clear ht ho hi5 T3 R3 HT
    have hr := (err_ok ER.out).1
    have Lints := hid (R5.out.ints.ext (g := fun i => ((fl F len i : Nat) : Int)) (fun i hi => fl_eq OK.out hi))
    obtain ⟨f, hf⟩ : ∃ f, f = fl F len := ⟨_, rfl⟩
    rw [← hf] at Lints I5 hr
    have HF := hid (show ∀ i, f i ≤ 15 from fun i => by rw [hf]; exact fl_le F len i)
    have HR := hid hr
    clear hf OK ER R5 hr
    go_wp2_with fail
    go_loopw [6] (fun i wr => ∃ n : Nat, n ≤ len ∧ i = .int .i64 (n : Nat) ∧ Still w5 wr) (fun i _ => len - (intOf i).toNat)
    case atStart => exact ⟨0, Nat.zero_le _, rfl, Still.refl _⟩
    case round =>
      obtain ⟨n, hn, rfl, hst⟩ := hrel
      have ST := hid hst
      clear hst
      by_cases hlt : n < len
      · go_wp2_with fail
        go_loopw [7] (fun i wr => ∃ k : Nat, k ≤ n ∧ i = .int .i64 (k : Nat) ∧ Still w5 wr) (fun i _ => n - (intOf i).toNat)
        case atStart => exact ⟨0, Nat.zero_le _, rfl, ST.out⟩
        case round =>
          obtain ⟨k, hk, rfl, hst⟩ := hrel
          have S2 := hid hst
          clear hst
          by_cases hkn : k < n
          · rcases Lints.out.new (S2.out.touch _) with h | ⟨b1, o1, ha1, hb1, hc1⟩
            · omega
            · rcases I5.out.new (S2.out.touch _) with h | ⟨b2, o2, ha2, hb2, hc2⟩
              · omega
              · subst ha1 ha2
                have d1 : wr.cell? ⟨b1, o1 + k, none⟩ = some (.int .i64 (f k : Nat)) := hc1 k (by omega)
                have d2 : wr.cell? ⟨b1, o1 + n, none⟩ = some (.int .i64 (f n : Nat)) := hc1 n hlt
                have d3 : wr.cell? ⟨b2, o2 + k, none⟩ = some (.int .i64 (codeOf (cOf f len) f k : Nat)) := hc2 k (by omega)
                have d4 : wr.cell? ⟨b2, o2 + n, none⟩ = some (.int .i64 (codeOf (cOf f len) f n : Nat)) := hc2 n hlt
                clear hc1 hc2 hb1 hb2
                have hfk := HF.out k
                have hfn := HF.out n
                by_cases hk0 : f k = 0
                · rw [hk0] at d1
                  go_wp2_with fail
                  go_quiet (fail)
                  go_wp2_with fail
                  exact ⟨⟨k + 1, by omega, by go_num, S2.out.drewN _⟩, by simp [intOf]; omega⟩
                · by_cases hn0 : f n = 0
                  · rw [hn0] at d2
                    have hkz : (((f k : Nat) : Int) == 0) = false := by simp; omega
                    go_wp2_with fail
                    go_quiet (fail)
                    go_wp2_with fail
                    exact ⟨⟨k + 1, by omega, by go_num, S2.out.drewN _⟩, by simp [intOf]; omega⟩
                  · have hkz : (((f k : Nat) : Int) == 0) = false := by simp; omega
                    have hnz : (((f n : Nat) : Int) == 0) = false := by simp; omega
                    have hsy := order_says f HF.out len k n hkn hlt hk0 hn0
                    have hs1 := start_lt f HF.out len k (by omega) hk0 HR.out
                    have hs2 := start_lt f HF.out len n hlt hn0 HR.out
                    unfold startOf at hsy hs1 hs2
                    have HSY := hid hsy
                    have HS1 := hid hs1
                    have HS2 := hid hs2
                    clear hsy hs1 hs2
                    generalize codeOf (cOf f len) f k = ck at *
                    generalize codeOf (cOf f len) f n = cn at *
                    generalize f k = A at *
                    generalize f n = B at *
                    go_wp2_with fail
                    go_quiet (fail)
                    have hcmp := order_cmp A B ck cn HS1.out HS2.out HSY.out
                    go_wp2_with fail
                    go_quiet (fail)
                    go_wp2_with fail
                    exact ⟨⟨k + 1, by omega, by go_num, S2.out.drewN _⟩, by simp [intOf]; omega⟩
          · obtain rfl : k = n := by omega
            go_wp2_with fail
            go_roundw
            case rel => exact ⟨k + 1, by omega, by go_num, S2.out⟩
            case measure => simp [intOf]; omega
      · go_wp2_with fail
        go_ret
        exact ⟨rfl, (T5.out.trans (ST.out.touch _) (fun _ _ e => e)).below _ (Nat.le_refl _) (fun _ e => e.elim)⟩

theorem huffOrder_walk (a : Option Addr) (len cap : Nat) (zs : List Int) (w : World) (h : IsRow w a len cap zs) :
    Calls Try.prog 8 #[.slice a len cap] w fun e w' => e = .returned (.bool true) ∧ Below w.heap.size w w' := huffOrder_core a len cap _ w h.row

set_option maxRecDepth 100000 in
theorem huffOrder_lifted (os : Os) (started : os.Started) (H : Type) (enc : TypeId × Value → H) :
    ReturnsInHanded {} Try.checked os 8 .any (Rows.huffOrderSpec.pre6 enc Try.prog Try.f8 Rows.huffOrderRow.domain false) (Rows.huffOrderSpec.post enc Try.prog Try.f8 false true false false) := by
  refine returnsInHanded_of_change_sized (C := Try.checked) own started (by kernel_rfl) Try.func8
    (ChangeSpec.witness6 (enc := enc) (C := Try.checked) false ⟨#[], #[.slice none 0 0], []⟩ 8 (by kernel_rfl) (by kernel_rfl) (by kernel_rfl) (by kernel_rfl)) ?_
  intro W base args ds gs before hval0 hW hcnd hsz0 _
  have hsz : (DataW.weightsEach Try.prog (Try.f8.params.toList ++ Rows.huffOrderSpec.plain.varTypes Try.prog) (ds ++ gs)).all (· ≤ reachBytes) = true := hsz0
  clear hsz0
  have hval : ∀ (j : Nat) t v, Try.f8.params[j]? = some t → args[j]? = some v → Value.okWide Try.prog W .any base t v := hval0
  have hW' := hW
  obtain ⟨p, q, hA0, hV, rfl, hfz, hnd⟩ := hW
  have hA : DataW.TrodAll enc Try.prog W 0 (fun _ => true) true Try.f8.params.toList args.toList ds p := hA0
  rw [Try.params8] at hA hval hsz
  obtain ⟨v0, vs0, d0, ds0, p0, q0, hargs, rfl, rfl, h0, r0⟩ := trodAll_cons hA
  obtain ⟨rfl, rfl, rfl⟩ := trodAll_nil r0
  obtain rfl : args = #[v0] := by cases args; simp_all
  obtain ⟨rfl, rfl⟩ := trodVars_none hV
  obtain ⟨a0, len0, cap0, rfl⟩ := okWide_slice Try.underlying22 (hval 0 22 v0 rfl rfl)
  have k0 := h0
  have lt0 : ∀ x ∈ p0, x.block < W.heap.size := by obtain ⟨m, hm⟩ := k0; exact DataW.trod_lt m _ _ _ hm
  obtain ⟨z0, w0⟩ : ∃ zs, IsRow W a0 len0 cap0 zs := by
    obtain ⟨fuel, hf⟩ := h0
    rcases open_ints Try.underlying22 Try.underlying3 (by kernel_rfl) hf with ⟨hcs, _⟩ | ⟨x, l, c, zs, hcs, _, hl, hm, hz, hx, hcell, hwz⟩
    · simp [Value.cells] at hcs
      obtain ⟨rfl, rfl, rfl⟩ := hcs
      exact ⟨[], .inl ⟨rfl, rfl, rfl, rfl⟩⟩
    · simp [Value.cells] at hcs
      obtain ⟨rfl, rfl, rfl⟩ := hcs
      simp only [Prod.mk.injEq] at hx
      obtain ⟨rfl, rfl⟩ := hx
      have hs := sized_slice hsz (j := 0) (t := 22) (e := 3) rfl rfl Try.underlying22
      rw [show Try.prog.bytesOf 3 = 8 by kernel_rfl] at hs
      simp only [lits, List.length_map, List.length_take, List.length_drop, reachBytes] at hs
      simp only [if_true] at hz
      refine ⟨zs, .inr ⟨_, rfl, hl, by omega, hz, ?_, hcell, hwz⟩⟩
      intro hi
      have hb := World.block_lt_of_cell? W _ (hcell 0 (by omega))
      simpa [Addr.add] using hb
  clear hA0 hval0
  refine (huffOrder_walk a0 len0 cap0 z0 W w0).mono fun e W' ⟨he, bel⟩ => ?_
  subst he
  exact ⟨_, rfl, _, _, _, [], _, [], hW', trodAll_mk1 (shut_bool Try.underlying4 _), (trodAll_cons_mk (Below.trod laidOut (by kernel_rfl) (of_decide_eq_true (by kernel_rfl)) k0 bel lt0) trodAll_mk0), rfl, bel.frame _, fun h => by cases h⟩

theorem huffOrder_holds : Rows.HuffOrderSaid :=
  OpenClaim.holds_of_wide 8 Try.f8 rfl rfl rfl rfl rfl rfl rfl ⟨rfl, rfl, rfl, rfl, rfl⟩ rfl rfl rfl rfl rfl (by kernel_rfl) Try.func8 (by kernel_rfl)
    (of_decide_eq_true (by kernel_rfl)) (by unfold Func.isWrapper; first | (rw [if_pos (by decide +kernel)]; kernel_rfl) | (rw [if_neg (by decide +kernel)]; exact ⟨rfl, rfl⟩))
    (fun os started H enc _ => huffOrder_lifted os started H enc)
#print axioms huffOrder_holds
end Go.Proofs.Ytokelpnmeknncaa
