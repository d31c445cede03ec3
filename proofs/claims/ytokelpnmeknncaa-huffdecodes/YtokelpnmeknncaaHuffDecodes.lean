/- HuffDecodes: any bytes by any lengths, behind any bits, are read as the document says, to the end; for every input. -/
import Derived.Test.YtokelpnmeknncaaLw
import Derived.ShutString
namespace Go.Proofs.Ytokelpnmeknncaa
open Go.ChangeShapes Go.WideShapes Go.ChangeAt Go.RowKit
open Go.ChangeMaps (open_string shut_string)

theorem i64_and31 (n : Int) : bits .and .i64 n 31 = n % 32 := i64_and_mask n 5 (by decide)

theorem code_small (f : Nat → Nat) (hf : ∀ i, f i ≤ 15) (len : Nat) (h0 : ∀ i, len ≤ i → f i = 0) (hr : rm f len ≤ 2 ^ 15) (i : Nat) : codeOf (cOf f len) f i ≤ 65536 := by
  by_cases h : f i = 0
  · unfold codeOf
    rw [if_pos h]
    omega
  · have hi : i < len := by
      rcases Nat.lt_or_ge i len with g | g
      · exact g
      · exact absurd (h0 i g) h
    have := code_lt f hf len i hi h hr
    have h2 : 2 ^ f i ≤ 2 ^ 15 := Nat.pow_le_pow_right (by decide) (hf i)
    omega

theorem ints_beside {w w' : World} {a : Option Addr} {len r : Nat} {f : Nat → Int} (h : Ints w a len f) (t : Touch (fun k => k = r) w w') (hs : ∀ b o, a = some ⟨b, o, none⟩ → 0 < len → b < r) : Ints w' a len f := by
  rcases Nat.eq_zero_or_pos len with h0 | h0
  · exact .inl h0
  · exact h.beside t (fun b o e _ hb => by have := hs b o e h0; omega)

theorem at_less (t f n : Nat) (h : t + f ≤ n) (h0 : f ≠ 0) : n - (intOf (.int .i64 ((t : Int) + (f : Nat)))).toNat < n - (intOf (.int .i64 (t : Nat))).toNat := by
  simp only [intOf]
  omega

theorem ans_form {laid : Nat → Prop} {f path : Nat → Nat} {p t r : Nat} {s : ByteArray} {w w' : World} {e : Ending} (h : Answer laid f path p s t r w e w') : ∃ x er : Int, e = .returned (.tuple #[.int .i64 x, .int .i64 er]) := by
  rcases h with ⟨i, _, _, _, h, _⟩ | ⟨i, _, _, _, h, _⟩ | ⟨_, h, _⟩
  · exact ⟨_, _, h⟩
  · exact ⟨_, _, h⟩
  · exact ⟨_, _, h⟩
theorem ans_step {laid : Nat → Prop} {f path : Nat → Nat} {p t r : Nat} {s : ByteArray} {w w' : World} {e : Ending} (h : Answer laid f path p s t r w e w') : ∃ t', RStep w w' r s t' := by
  rcases h with ⟨i, _, _, _, _, h⟩ | ⟨i, _, _, _, _, h⟩ | ⟨_, _, h⟩
  · exact ⟨_, h⟩
  · exact ⟨_, h⟩
  · exact ⟨_, h⟩
theorem ref_form {f path : Nat → Nat} {len k : Nat} {s : ByteArray} {e : Ending} (h : RefAns f path len s k e) : ∃ y n g : Int, e = .returned (.tuple #[.int .i64 y, .int .i64 n, .int .i64 g]) := by
  rcases h with ⟨i, _, _, h⟩ | ⟨_, _, h⟩ | ⟨_, _, h⟩
  · exact ⟨_, _, _, h⟩
  · exact ⟨_, _, _, h⟩
  · exact ⟨_, _, _, h⟩

set_option maxRecDepth 100000 in
set_option maxHeartbeats 4000000 in
theorem huffDecodes_core (a : Option Addr) (len cap : Nat) (F : Nat → Int) (s : ByteArray) (skip : Int) (w : World) (h : Row w a len cap F) (hs : s.size ≤ 140737488351232) :
    Calls Try.prog 4 #[.slice a len cap, .string s, .int .i64 skip] w fun e w' => e = .returned (.bool true) ∧ Below w.heap.size w w' := by
  have hb8 := h.fit
  obtain ⟨i0, hin, hz0, hz1, hz2⟩ := info_parts info3
  go_enter Try.func4, Try.ntmps4
  go_wp2_with fail
  refine (speaks_yes w).mono ?_
  rintro e w1 ⟨rfl, ht⟩
  have T1 := hid ht
  have HR := hid (h.new ht)
  clear ht h
  go_wp2_with (first
    | (at_builtin; refine wpList_copy w1 rfl _ _ 22 3 i0 (.int .i64 0) 8 rfl Try.underlying22 hin hz0 hz1 hz2 rfl rfl a len cap rfl ((List.range len).map fun i => Value.int .i64 (F i)) (by rw [List.length_map, List.length_range]) HR.out.vals (one_cells F len) (by unfold maxLen; omega) (by omega) ?_))
  intro v w2 hown ht g c hv
  subst hv
  have T2 := hid (T1.out.trans ht (fun _ _ e => e))
  have R2 := hid (HR.out.new ht)
  have I2 := hid (own_ints hown)
  clear T1 HR hown ht
  go_wp2_with fail
  refine (new_all _ len c F w2 (by omega) I2.out).mono ?_
  rintro e w3 ⟨vd, hvd, ht, hres⟩
  have T3 := hid (T2.out.trans ht (fun _ _ e => e))
  have R3 := hid (R2.out.new ht)
  have VD := hid hvd
  clear T2 R2 I2 hvd ht
  rcases hres with ⟨hne, rfl⟩ | ⟨rfl, b, rfl, hT⟩
  · go_wp2_with fail
    refine (refnew_all a len cap F w3 (by omega) R3.out.ints).mono ?_
    rintro e w4 ⟨vd2, hvd2, ht, hres⟩
    obtain rfl := hvd2.same VD.out
    have T4 := hid (T3.out.trans ht (fun _ _ e => e))
    clear T3 R3 hvd2 ht
    rcases hres with ⟨_, rfl⟩ | ⟨h0, _⟩
    · have hnz : ((vd2 : Nat) : Int) ≠ 0 := by omega
      have hnz' : (((vd2 : Nat) : Int) != 0) = true := bne_iff_ne.mpr hnz
      go_wp2_with fail
      refine (open_any _ _).mono ?_
      rintro e w5 ⟨rfl, rfl⟩
      go_wp2_with fail
      refine (next_nil _ _ ⟨_, rfl⟩).mono ?_
      rintro e w6 ⟨rfl, rfl⟩
      go_wp2
      go_ret
      exact ⟨rfl, (T4.out.alloc _).below _ (Nat.le_refl _) (fun _ e => e.elim)⟩
    · exact absurd h0 hne
  · have HT := hid hT
    clear hT
    go_wp2_with fail
    refine (refnew_all a len cap F w3 (by omega) R3.out.ints).mono ?_
    rintro e w4 ⟨vd2, hvd2, ht, hres⟩
    obtain rfl := hvd2.same VD.out
    have T4 := hid (T3.out.trans ht (fun _ _ e => e))
    have R4 := hid (R3.out.new ht)
    have HT4 := hid (HT.out.kept ht (fun _ _ _ e => e))
    have hok : len ≤ 1024 ∧ okLens F len ∧ errOf (fl F len) len = 0 := by
      rcases VD.out with ⟨h, h2, h3⟩ | ⟨_, h⟩
      · exact ⟨h, h2, h3.symm⟩
      · omega
    obtain ⟨hlen, hokl, herr⟩ := hok
    have ht4 := ht.size
    rcases hres with ⟨h0, _⟩ | ⟨_, v2, rfl, ho⟩
    · exact absurd rfl h0
    · obtain ⟨a2, c2, rfl, hi2⟩ := own_ints' ho
      obtain ⟨f, hf⟩ : ∃ f, f = fl F len := ⟨_, rfl⟩
      rw [← hf] at herr HT4 hi2
      have L4 := hid (R4.out.ints.ext (g := fun i => ((f i : Nat) : Int)) (fun i hi => by rw [hf]; exact fl_eq hokl hi))
      have HF := hid (show ∀ i, f i ≤ 15 from fun i => by rw [hf]; exact fl_le F len i)
      have HC := hid (code_small f HF.out len (fun i hi => by rw [hf]; exact if_neg (by omega)) (err_ok herr).1)
      have C4 := hid hi2
      have ER := hid herr
      clear T3 R3 R4 HT hvd2 ht ho hi2 VD herr hokl hf
      go_wp2_with fail
      refine (open_any _ _).mono ?_
      rintro e w5 ⟨rfl, rfl⟩
      have hand := i64_and31 skip
      obtain ⟨m, hm⟩ : ∃ m : Nat, skip % 32 = (m : Int) := ⟨(skip % 32).toNat, by omega⟩
      have hm32 : m < 32 := by omega
      rw [hm] at hand
      clear hm
      -- BEGIN LOOP
      have b4 := (show w3.heap.size ≤ w4.heap.size from ht4)
      have la : ∀ b o, a = some ⟨b, o, none⟩ → 0 < len → b < w4.heap.size := fun b o e h => by rcases L4.out with h0 | ⟨b', o', e', hb', _⟩; omega; rw [e'] at e; simp at e; omega
      have lc : ∀ b o, a2 = some ⟨b, o, none⟩ → 0 < len → b < w4.heap.size := fun b o e h => by rcases C4.out with h0 | ⟨b', o', e', hb', _⟩; omega; rw [e'] at e; simp at e; omega
      have hwr := T4.out.size
      have rd0 := rd_new w4 s
      have tA : Touch (fun _ => False) w4 (w4.alloc (.cells #[.string s, .int .i64 0] 65)) := (Touch.refl _ w4).alloc _
      have hT0 := HT4.out.kept tA (fun _ _ _ e => e)
      have l0 := L4.out.new tA
      have c0 := C4.out.new tA
      have t0 := T4.out.trans tA (fun _ _ e => e)
      clear tA
      generalize w4.alloc (.cells #[.string s, .int .i64 0] 65) = W0 at *
      clear HT4 L4 C4 T4
      generalize w4.heap.size = r at *
      have HT0W := hid hT0
      have L0 := hid l0
      have C0 := hid c0
      have TT0 := hid t0
      have RD0 := hid rd0
      clear hT0 l0 c0 t0 rd0
      have hs8 : s.size ≤ 140737488355328 := by omega
      by_cases hfit : m ≤ 8 * s.size
      · go_wp2_with fail
        refine (take_yes r s 0 m _ RD0.out (by omega) (by omega) (by omega)).mono ?_
        rintro e w6 ⟨rfl, hrs⟩
        obtain ⟨T0, hT0⟩ : ∃ T0, T0 = m := ⟨_, rfl⟩
        have HT0 : T0 ≤ 8 * s.size := by omega
        have RS := hid (show RStep W0 w6 r s T0 from by rw [Nat.zero_add] at hrs; rw [hT0]; exact hrs)
        rw [← hT0]
        clear hrs hT0
        go_wp2_with fail
        go_loopw [14] (fun i wr => ∃ t : Nat, t ≤ 8 * s.size ∧ i = .int .i64 (t : Nat) ∧ RStep W0 wr r s t) (fun i _ => 8 * s.size - (intOf i).toNat)
        case atStart => exact ⟨T0, HT0, rfl, RS.out⟩
        case round =>
          obtain ⟨t, ht8, rfl, hrs⟩ := hrel
          have R1 := hid hrs
          clear hrs
          have hT1 := HT0W.out.kept R1.out.touch (fun k h1 h2 e => Nat.lt_irrefl k (Nat.lt_of_lt_of_le h2 (Nat.le_trans b4 (Nat.le_of_eq e.symm))))
          have hnx := next_tbl b r t _ _ f len s wr HF.out ER.out hT1 R1.out.rd hs8 ht8
          have NX := hid hnx
          clear hnx hT1
          go_wp2_with fail
          refine NX.out.mono ?_
          intro e w7 hans
          obtain ⟨x, er, rfl⟩ := ans_form hans
          have AN := hid hans
          obtain ⟨t', hst'⟩ := ans_step hans
          have R2 := hid (R1.out.touch.trans hst'.touch (fun _ _ e => e))
          clear hans NX hst'
          have hrf := refnext_any a a2 len cap c2 f (codeOf (cOf f len) f) s t w7 hlen HF.out HC.out (ints_beside L0.out R2.out la) (ints_beside C0.out R2.out lc) hs8 ht8
          have RF := hid hrf
          clear hrf
          go_wp2_with fail
          refine RF.out.mono ?_
          rintro e w8 ⟨href, hst⟩
          obtain ⟨y, n, gg, rfl⟩ := ref_form href
          have hboth := ans_same HF.out ER.out ht8 AN.out href
          have S8 := hid hst
          clear href hst RF AN
          rcases hboth with ⟨i, hLi, hfit', h1, h2, hrs⟩ | ⟨gv, hgv, h1, h2, hrs⟩
          · simp at h1 h2
            obtain ⟨rfl, rfl⟩ := h1
            obtain ⟨rfl, rfl, rfl⟩ := h2
            have hfi := HF.out i
            have hfi0 : f i ≠ 0 := hLi.2
            have R3 := hid (R1.out.trans ⟨S8.out.rd hrs.rd, hrs.touch.trans (S8.out.touch _) (fun _ _ e => e)⟩)
            clear hrs hLi R2
            go_wp2_with fail
            refine (taken_any r s (t + f i) w8 R3.out.rd).mono ?_
            rintro e w9 ⟨rfl, rfl⟩
            rw [Int.natCast_add]
            go_wp2_with fail
            go_roundw
            case rel => exact ⟨t + f i, hfit', by rw [Int.natCast_add], R3.out⟩
            case measure => exact at_less t (f i) _ hfit' hfi0
          · simp at h1 h2
            obtain ⟨rfl, rfl⟩ := h1
            obtain ⟨rfl, rfl, rfl⟩ := h2
            have R3 := hid (R1.out.trans ⟨S8.out.rd hrs.rd, hrs.touch.trans (S8.out.touch _) (fun _ _ e => e)⟩)
            clear hrs R2
            have TE := hid (show Touch (fun _ => False) w w8 from TT0.out.trans R3.out.touch (fun k hk e => by have := TT0.out.size; omega))
            rcases hgv with rfl | rfl
            · go_wp2_with fail
              refine (taken_any r s t w8 R3.out.rd).mono ?_
              rintro e w9 ⟨rfl, rfl⟩
              go_wp2_with fail
              refine (next_noreader b w9).mono ?_
              rintro e w10 ⟨rfl, rfl⟩
              go_wp2
              go_ret
              exact ⟨rfl, TE.out.below _ (Nat.le_refl _) (fun _ e => e.elim)⟩
            · go_wp2_with fail
              refine (taken_any r s t w8 R3.out.rd).mono ?_
              rintro e w9 ⟨rfl, rfl⟩
              go_wp2_with fail
              refine (next_noreader b w9).mono ?_
              rintro e w10 ⟨rfl, rfl⟩
              go_wp2
              go_ret
              exact ⟨rfl, TE.out.below _ (Nat.le_refl _) (fun _ e => e.elim)⟩
      · go_wp2_with fail
        refine (take_end r s 0 m _ RD0.out hs8 (by omega) (by omega) (by omega)).mono ?_
        rintro e w6 ⟨rfl, hst0⟩
        have RS := hid (show RStep W0 w6 r s 0 from hst0.rstep RD0.out)
        clear hst0
        go_wp2_with fail
        go_loopw [14] (fun i wr => ∃ t : Nat, t ≤ 8 * s.size ∧ i = .int .i64 (t : Nat) ∧ RStep W0 wr r s t) (fun i _ => 8 * s.size - (intOf i).toNat)
        case atStart => exact ⟨0, Nat.zero_le _, rfl, RS.out⟩
        case round =>
          obtain ⟨t, ht8, rfl, hrs⟩ := hrel
          have R1 := hid hrs
          clear hrs
          have hT1 := HT0W.out.kept R1.out.touch (fun k h1 h2 e => Nat.lt_irrefl k (Nat.lt_of_lt_of_le h2 (Nat.le_trans b4 (Nat.le_of_eq e.symm))))
          have hnx := next_tbl b r t _ _ f len s wr HF.out ER.out hT1 R1.out.rd hs8 ht8
          have NX := hid hnx
          clear hnx hT1
          go_wp2_with fail
          refine NX.out.mono ?_
          intro e w7 hans
          obtain ⟨x, er, rfl⟩ := ans_form hans
          have AN := hid hans
          obtain ⟨t', hst'⟩ := ans_step hans
          have R2 := hid (R1.out.touch.trans hst'.touch (fun _ _ e => e))
          clear hans NX hst'
          have hrf := refnext_any a a2 len cap c2 f (codeOf (cOf f len) f) s t w7 hlen HF.out HC.out (ints_beside L0.out R2.out la) (ints_beside C0.out R2.out lc) hs8 ht8
          have RF := hid hrf
          clear hrf
          go_wp2_with fail
          refine RF.out.mono ?_
          rintro e w8 ⟨href, hst⟩
          obtain ⟨y, n, gg, rfl⟩ := ref_form href
          have hboth := ans_same HF.out ER.out ht8 AN.out href
          have S8 := hid hst
          clear href hst RF AN
          rcases hboth with ⟨i, hLi, hfit', h1, h2, hrs⟩ | ⟨gv, hgv, h1, h2, hrs⟩
          · simp at h1 h2
            obtain ⟨rfl, rfl⟩ := h1
            obtain ⟨rfl, rfl, rfl⟩ := h2
            have hfi := HF.out i
            have hfi0 : f i ≠ 0 := hLi.2
            have R3 := hid (R1.out.trans ⟨S8.out.rd hrs.rd, hrs.touch.trans (S8.out.touch _) (fun _ _ e => e)⟩)
            clear hrs hLi R2
            go_wp2_with fail
            refine (taken_any r s (t + f i) w8 R3.out.rd).mono ?_
            rintro e w9 ⟨rfl, rfl⟩
            rw [Int.natCast_add]
            go_wp2_with fail
            go_roundw
            case rel => exact ⟨t + f i, hfit', by rw [Int.natCast_add], R3.out⟩
            case measure => exact at_less t (f i) _ hfit' hfi0
          · simp at h1 h2
            obtain ⟨rfl, rfl⟩ := h1
            obtain ⟨rfl, rfl, rfl⟩ := h2
            have R3 := hid (R1.out.trans ⟨S8.out.rd hrs.rd, hrs.touch.trans (S8.out.touch _) (fun _ _ e => e)⟩)
            clear hrs R2
            have TE := hid (show Touch (fun _ => False) w w8 from TT0.out.trans R3.out.touch (fun k hk e => by have := TT0.out.size; omega))
            rcases hgv with rfl | rfl
            · go_wp2_with fail
              refine (taken_any r s t w8 R3.out.rd).mono ?_
              rintro e w9 ⟨rfl, rfl⟩
              go_wp2_with fail
              refine (next_noreader b w9).mono ?_
              rintro e w10 ⟨rfl, rfl⟩
              go_wp2
              go_ret
              exact ⟨rfl, TE.out.below _ (Nat.le_refl _) (fun _ e => e.elim)⟩
            · go_wp2_with fail
              refine (taken_any r s t w8 R3.out.rd).mono ?_
              rintro e w9 ⟨rfl, rfl⟩
              go_wp2_with fail
              refine (next_noreader b w9).mono ?_
              rintro e w10 ⟨rfl, rfl⟩
              go_wp2
              go_ret
              exact ⟨rfl, TE.out.below _ (Nat.le_refl _) (fun _ e => e.elim)⟩

theorem huffDecodes_walk (a : Option Addr) (len cap : Nat) (zs : List Int) (s : ByteArray) (skip : Int) (w : World) (h : IsRow w a len cap zs) (hs : s.size ≤ 140737488351232) :
    Calls Try.prog 4 #[.slice a len cap, .string s, .int .i64 skip] w fun e w' => e = .returned (.bool true) ∧ Below w.heap.size w w' := huffDecodes_core a len cap _ s skip w h.row hs

set_option maxRecDepth 100000 in
theorem huffDecodes_lifted (os : Os) (started : os.Started) (H : Type) (enc : TypeId × Value → H) :
    ReturnsInHanded {} Try.checked os 4 .any (Rows.huffDecodesSpec.pre6 enc Try.prog Try.f4 Rows.huffDecodesRow.domain false) (Rows.huffDecodesSpec.post enc Try.prog Try.f4 false true false false) := by
  refine returnsInHanded_of_change_sized (C := Try.checked) own started (by kernel_rfl) Try.func4
    (ChangeSpec.witness6 (enc := enc) (C := Try.checked) false ⟨#[], #[.slice none 0 0, .string ByteArray.empty, .int .i64 0], []⟩ 8 (by kernel_rfl) (by kernel_rfl) (by kernel_rfl) (by kernel_rfl)) ?_
  intro W base args ds gs before hval0 hW hcnd hsz0 _
  have hsz : (DataW.weightsEach Try.prog (Try.f4.params.toList ++ Rows.huffDecodesSpec.plain.varTypes Try.prog) (ds ++ gs)).all (· ≤ reachBytes) = true := hsz0
  clear hsz0
  have hval : ∀ (j : Nat) t v, Try.f4.params[j]? = some t → args[j]? = some v → Value.okWide Try.prog W .any base t v := hval0
  have hW' := hW
  obtain ⟨p, q, hA0, hV, rfl, hfz, hnd⟩ := hW
  have hA : DataW.TrodAll enc Try.prog W 0 (fun _ => true) true Try.f4.params.toList args.toList ds p := hA0
  rw [Try.params4] at hA hval hsz
  obtain ⟨v0, vs0, d0, ds0, p0, q0, hargs, rfl, rfl, h0, r0⟩ := trodAll_cons hA
  obtain ⟨v1, vs1, d1, ds1, p1, q1, rfl, rfl, rfl, h1, r1⟩ := trodAll_cons r0
  obtain ⟨v2, vs2, d2, ds2, p2, q2, rfl, rfl, rfl, h2, r2⟩ := trodAll_cons r1
  obtain ⟨rfl, rfl, rfl⟩ := trodAll_nil r2
  obtain rfl : args = #[v0, v1, v2] := by cases args; simp_all
  obtain ⟨rfl, rfl⟩ := trodVars_none hV
  obtain ⟨a0, len0, cap0, rfl⟩ := okWide_slice Try.underlying22 (hval 0 22 v0 rfl rfl)
  have k0 := h0
  have lt0 : ∀ x ∈ p0, x.block < W.heap.size := by obtain ⟨m, hm⟩ := k0; exact DataW.trod_lt m _ _ _ hm
  obtain ⟨z0, w0⟩ : ∃ zs, IsRow W a0 len0 cap0 zs := by
    obtain ⟨fuel, hf⟩ := h0
    rcases open_ints Try.underlying22 Try.underlying3 (by kernel_rfl) hf with ⟨hcs, _⟩ | ⟨x, l, c, zs, hcs, _, hl, hm, hz, hx, hcell, hwz⟩
    · simp [Value.cells] at hcs
      obtain ⟨rfl, rfl, rfl⟩ := hcs
      exact ⟨[], .inl ⟨rfl, rfl, rfl, rfl⟩⟩
    · simp [Value.cells] at hcs
      obtain ⟨rfl, rfl, rfl⟩ := hcs
      simp only [Prod.mk.injEq] at hx
      obtain ⟨rfl, rfl⟩ := hx
      have hs := sized_slice hsz (j := 0) (t := 22) (e := 3) rfl rfl Try.underlying22
      rw [show Try.prog.bytesOf 3 = 8 by kernel_rfl] at hs
      simp only [lits, List.length_map, List.length_take, List.length_drop, reachBytes] at hs
      simp only [if_true] at hz
      refine ⟨zs, .inr ⟨_, rfl, hl, by omega, hz, ?_, hcell, hwz⟩⟩
      intro hi
      have hb := World.block_lt_of_cell? W _ (hcell 0 (by omega))
      simpa [Addr.add] using hb
  obtain ⟨a1, rfl, rfl, rfl, w1⟩ := open_string Try.underlying9 (hval 1 9 v1 rfl rfl) h1
  have z1 : a1.size ≤ 140737488351232 := by
    have := sized_string hsz (j := 1) (t := 9) rfl rfl
    simpa [reachBytes] using this
  obtain ⟨a2, rfl, rfl, rfl, w2⟩ := open_int Try.underlying3 (hval 2 3 v2 rfl rfl) h2
  clear hA0 hval0
  refine (huffDecodes_walk a0 len0 cap0 z0 a1 a2 W w0 z1).mono fun e W' ⟨he, bel⟩ => ?_
  subst he
  exact ⟨_, rfl, _, _, _, [], _, [], hW', trodAll_mk1 (shut_bool Try.underlying4 _), (trodAll_cons_mk (Below.trod laidOut (by kernel_rfl) (of_decide_eq_true (by kernel_rfl)) k0 bel lt0) (trodAll_cons_mk (shut_string Try.underlying9 w1) (trodAll_cons_mk (shut_int Try.underlying3 w2) trodAll_mk0))), rfl, bel.frame _, fun h => by cases h⟩

theorem huffDecodes_holds : Rows.HuffDecodesSaid :=
  OpenClaim.holds_of_wide 4 Try.f4 rfl rfl rfl rfl rfl rfl rfl ⟨rfl, rfl, rfl, rfl, rfl⟩ rfl rfl rfl rfl rfl (by kernel_rfl) Try.func4 (by kernel_rfl)
    (of_decide_eq_true (by kernel_rfl)) (by unfold Func.isWrapper; first | (rw [if_pos (by decide +kernel)]; kernel_rfl) | (rw [if_neg (by decide +kernel)]; exact ⟨rfl, rfl⟩))
    (fun os started H enc _ => huffDecodes_lifted os started H enc)
#print axioms huffDecodes_holds
end Go.Proofs.Ytokelpnmeknncaa
