/- HuffWhole: whatever is used, every row of bits begins with a code of Even's lengths, or as the law says where fewer than two are used; for every input. -/
import Derived.Test.YtokelpnmeknncaaLb
namespace Go.Proofs.Ytokelpnmeknncaa
open Go.ChangeShapes Go.WideShapes Go.ChangeAt Go.RowKit Go.Deep
open Go.ChangeMaps (open_string shut_string)

def s2 (v : Int) : ByteArray := ⟨#[UInt8.ofNat (v % 256).toNat, UInt8.ofNat (v / 256 % 256).toNat]⟩

theorem s2_size (v : Int) : (s2 v).size = 2 := rfl

theorem conv2 (w : World) (v : Int) : (convert 45 9 (.slice (some ⟨w.heap.size, 0, none⟩) 2 2)).run Try.prog (w.alloc (.cells #[.int .u8 (v % 256), .int .u8 (v / 256 % 256)] 5)) = .ok (.string (s2 v)) (w.alloc (.cells #[.int .u8 (v % 256), .int .u8 (v / 256 % 256)] 5)) := by
  have hb : (w.alloc (.cells #[.int .u8 (v % 256), .int .u8 (v / 256 % 256)] 5)).heap[w.heap.size]? = some (.cells #[.int .u8 (v % 256), .int .u8 (v / 256 % 256)] 5) := by
    show (w.heap.push _)[_]? = _
    simp
  have e0 : ((UInt8.ofNat (v % 256).toNat).toNat : Int) = v % 256 := by
    rw [UInt8.toNat_ofNat_of_lt' (by have : (v % 256).toNat < 256 := by omega
                                     exact this)]
    omega
  have e1 : ((UInt8.ofNat (v / 256 % 256).toNat).toNat : Int) = v / 256 % 256 := by
    rw [UInt8.toNat_ofNat_of_lt' (by have : (v / 256 % 256).toNat < 256 := by omega
                                     exact this)]
    omega
  refine run_convert_bytes_back (P := Try.prog) _ 45 9 5 ⟨w.heap.size, 0, none⟩ 2 [UInt8.ofNat (v % 256).toNat, UInt8.ofNat (v / 256 % 256).toNat] Try.underlying45 Try.underlying5 Try.underlying9 ?_
  intro j hj
  rcases j with _ | _ | j
  · rw [add_zero]
    simp only [World.cell?, hb]
    show some (Value.int .u8 (v % 256)) = some (.int .u8 ((UInt8.ofNat (v % 256).toNat).toNat : Int))
    rw [e0]
  · rw [add_zero]
    simp only [World.cell?, hb]
    show some (Value.int .u8 (v / 256 % 256)) = some (.int .u8 ((UInt8.ofNat (v / 256 % 256).toNat).toNat : Int))
    rw [e1]
  · simp at hj
    omega

theorem low_bit (v : Int) : ((Bt.rval (s2 v) 0 15 % 2 : Nat) : Int) = v % 2 := by
  have h := Bt.rval_mod (s2 v) 0 1 14
  rw [Bt.rval_one] at h
  have hb : Bt.bitAt (s2 v) 0 = ((v % 256).toNat / 1 % 2 == 1) := by
    have : Bt.byteN (s2 v) 0 = (v % 256).toNat := by
      show (UInt8.ofNat (v % 256).toNat).toNat = _
      rw [UInt8.toNat_ofNat_of_lt' (by have : (v % 256).toNat < 256 := by omega
                                       exact this)]
    unfold Bt.bitAt
    rw [show 0 / 8 = 0 by rfl, this]
  rw [hb, Bt.bit_toNat] at h
  rw [show (1 : Nat) + 14 = 15 by rfl, Nat.pow_one] at h
  rw [h]
  omega

theorem evf_zero (u : Nat → Bool) (len : Nat) (h : cntb u len = 0) (i : Nat) : evf u len i = 0 := by
  unfold evf
  rw [if_pos h]

theorem evf_whole (u : Nat → Bool) (len : Nat) (h : 2 ≤ cntb u len) (hl : len ≤ 1024) : rm (evf u len) len = 2 ^ 15 := by
  have hle := cntb_le u len
  have e : evf u len = evenLen u (cntb u len) (Nat.log2 (cntb u len)) := by funext i; unfold evf; rw [if_neg (by omega)]
  have he := evf_err u len hl
  obtain ⟨h1, h2⟩ := err_ok he
  have hu : usedTo (evf u len) len = cntb u len := by
    rw [e]
    obtain ⟨g1, g2⟩ := log_fits (cntb u len) (by omega)
    have g3 := log_le (cntb u len) (by omega) (by omega)
    have hk : 1 ≤ Nat.log2 (cntb u len) := by
      rcases Nat.eq_zero_or_pos (Nat.log2 (cntb u len)) with g | g
      · rw [g] at g2; simp at g2; omega
      · exact g
    exact (even_rm u _ _ _ _ hk (by omega) rfl rfl len).2
  rcases h2 with h | h | h
  · exact h
  · omega
  · omega

theorem evf_single (u : Nat → Bool) (len : Nat) (h : cntb u len = 1) : usedTo (evf u len) len = 1 ∧ rm (evf u len) len = 16384 := by
  have e : evf u len = evenLen u 1 0 := by
    funext i
    unfold evf
    rw [if_neg (by omega), h]
    rfl
  obtain ⟨h1, h2⟩ := even_one u len (by omega)
  rw [e, h1, h2, h]
  exact ⟨rfl, rfl⟩

theorem whole_says (u : Nat → Bool) (len : Nat) (hl : len ≤ 1024) (v : Int) {r : Nat} {w w' : World} {e : Ending} (h : Answer (Laid (evf u len) len) (evf u len) (pathOf (evf u len) len) (Bt.rval (s2 v) 0 (min 15 (8 * (s2 v).size - 0))) (s2 v) 0 r w e w') :
    (∃ t, RStep w w' r (s2 v) t) ∧ ((cntb u len = 0 ∧ e = .returned (.tuple #[.int .i64 0, .int .i64 5])) ∨ (cntb u len = 1 ∧ ∃ x : Int, (v % 2 = 0 ∧ e = .returned (.tuple #[.int .i64 x, .int .i64 0])) ∨ (v % 2 = 1 ∧ e = .returned (.tuple #[.int .i64 x, .int .i64 5]))) ∨
      (2 ≤ cntb u len ∧ ∃ i, i < len ∧ u i = true ∧ e = .returned (.tuple #[.int .i64 (i : Nat), .int .i64 0]) ∧ RStep w w' r (s2 v) (evf u len i))) := by
  rw [s2_size, show min 15 (8 * 2 - 0) = 15 by rfl] at h
  have hb := low_bit v
  have hv2 : v % 2 = 0 ∨ v % 2 = 1 := by omega
  rcases h with ⟨i, h1, h2, h3, h4, h5⟩ | ⟨i, h1, h2, h3, h4, h5⟩ | ⟨h1, h2, h3⟩
  · refine ⟨⟨_, h5⟩, ?_⟩
    have hu := (evf_used u len i h1.1).mp h1.2
    by_cases c0 : cntb u len = 0
    · exact absurd (evf_zero u len c0 i) h1.2
    · by_cases c1 : cntb u len = 1
      · refine .inr (.inl ⟨c1, _, .inl ⟨?_, h4⟩⟩)
        obtain ⟨s1, s2'⟩ := evf_single u len c1
        obtain ⟨m, _, m2, m3, m4⟩ := half_path (evf u len) (evf_le u len hl) len s1 s2'
        obtain rfl := m4 i h1.1 h1.2
        rw [m2, m3, Nat.pow_one] at h2
        omega
      · refine .inr (.inr ⟨by omega, i, h1.1, hu, h4, ?_⟩)
        rwa [Nat.zero_add] at h5
  · have := evf_le u len hl i
    rw [s2_size] at h3
    omega
  · refine ⟨⟨_, h3⟩, ?_⟩
    by_cases c0 : cntb u len = 0
    · exact .inl ⟨c0, h2⟩
    · by_cases c1 : cntb u len = 1
      · refine .inr (.inl ⟨c1, 0, .inr ⟨?_, h2⟩⟩)
        obtain ⟨s1, s2'⟩ := evf_single u len c1
        obtain ⟨m, m1, m2, m3, m4⟩ := half_path (evf u len) (evf_le u len hl) len s1 s2'
        have := h1 m ⟨m1, by omega⟩
        rw [m2, m3, Nat.pow_one] at this
        omega
      · obtain ⟨i, hi, hp⟩ := full (evf u len) (evf_le u len hl) len (evf_whole u len (by omega) hl) (Bt.rval (s2 v) 0 15)
        exact absurd hp (h1 i hi)

set_option maxRecDepth 100000 in
set_option maxHeartbeats 4000000 in
theorem huffWhole_walk (a : Option Addr) (len cap : Nat) (u : Nat → Bool) (v : Int) (w : World) (h : BRow w a len cap u) (_hv : (Lit.int .i64 v).wf = true) :
    Calls Try.prog 7 #[.slice a len cap, .int .i64 v] w fun e w' => e = .returned (.bool true) ∧ Below w.heap.size w w' := by
  have hfit := h.fit
  obtain ⟨i0, hin, hz0, hz1, hz2⟩ := info_parts info4
  go_enter Try.func7, Try.ntmps7
  go_wp2_with fail
  refine (speaks_yes w).mono ?_
  rintro e w1 ⟨rfl, ht⟩
  have T1 := hid ht
  have HR := hid (h.new ht)
  clear ht h
  by_cases hbig : 1024 < len
  · go_wp2
    go_ret
    exact ⟨rfl, T1.out.below _ (Nat.le_refl _) (fun _ e => e.elim)⟩
  · go_wp2_with (first
      | (at_builtin; refine wpList_copy w1 rfl _ _ 42 4 i0 (.bool false) 1 rfl Try.underlying42 hin hz0 hz1 hz2 rfl rfl a len cap rfl ((List.range len).map fun i => Value.bool (u i)) (by rw [List.length_map, List.length_range]) HR.out.vals (bone_cells u len) (by unfold maxLen; omega) (by omega) ?_))
    intro v2 w2 hown ht g c hv2
    subst hv2
    have T2 := hid (T1.out.trans ht (fun _ _ e => e))
    have R2 := hid (HR.out.new ht)
    have I2 := hid (own_bools hown)
    clear T1 HR hown ht
    go_wp2_with fail
    refine (even_all _ len c u w2 (by omega) I2.out).mono ?_
    rintro e w3 ⟨vl, rfl, ho, ht⟩
    obtain ⟨al, cl, rfl, hil⟩ := own_ints' ho
    have T3 := hid (T2.out.trans ht (fun _ _ e => e))
    have R3 := hid (R2.out.new ht)
    have L3 := hid hil
    clear T2 R2 I2 ho ht hil
    go_wp2_with fail
    refine (new_ok al len cl (evf u len) w3 (by omega) (evf_le u len (by omega)) L3.out (evf_err u len (by omega))).mono ?_
    rintro e w4 ⟨b, rfl, hT, ht⟩
    have T4 := hid (T3.out.trans ht (fun _ _ e => e))
    have R4 := hid (R3.out.new ht)
    have L4 := hid (L3.out.new ht)
    have HT := hid hT
    clear T3 R3 L3 ht hT
    go_wp2_with fail
    go_loopw [8, 9] (fun n i wr => ∃ k : Nat, k ≤ len ∧ i = .int .i64 (k : Nat) ∧ n = .int .i64 (cntb u k : Nat) ∧ Still w4 wr) (fun _ i _ => len - (intOf i).toNat)
    case atStart => exact ⟨0, Nat.zero_le _, rfl, rfl, Still.refl _⟩
    case round =>
      obtain ⟨k, hk, rfl, rfl, hst⟩ := hrel
      have ST := hid hst
      clear hst
      have hcl := cntb_le u k
      by_cases hlt : k < len
      · rcases R4.out.bools.new (ST.out.touch _) with h | ⟨b1, o1, ha1, hb1, hc1⟩
        · omega
        · subst ha1
          have d1 := hc1 k hlt
          have hcs : cntb u (k + 1) = cntb u k + (u k).toNat := rfl
          have HCS := hid hcs
          clear hc1 hb1 hcs
          cases hu : u k
          · rw [hu] at d1 HCS
            go_wp2_with fail
            go_roundw
            case rel => exact ⟨k + 1, by omega, by go_num, by rw [HCS.out]; rfl, ST.out⟩
            case measure => simp [intOf]; omega
          · rw [hu] at d1 HCS
            go_wp2_with fail
            go_roundw
            case rel => exact ⟨k + 1, by omega, by go_num, by rw [HCS.out]; simp, ST.out⟩
            case measure => simp [intOf]; omega
      · obtain rfl : k = len := by omega
        have hcv := conv2 wr v
        go_wp2_with fail
        refine (open_any _ _).mono ?_
        rintro e w5 ⟨rfl, rfl⟩
        have tA : Touch (fun _ => False) w4 ((wr.alloc (.cells #[.int .u8 (v % 256), .int .u8 (v / 256 % 256)] 5)).alloc (.cells #[.string (s2 v), .int .i64 0] 65)) := ((ST.out.touch _).alloc _).alloc _
        have rd0 := rd_new (wr.alloc (.cells #[.int .u8 (v % 256), .int .u8 (v / 256 % 256)] 5)) (s2 v)
        have hsz0 : w4.heap.size < (wr.alloc (.cells #[.int .u8 (v % 256), .int .u8 (v / 256 % 256)] 5)).heap.size := by have := ST.out.size; simp; omega
        clear hcv
        generalize (wr.alloc (.cells #[.int .u8 (v % 256), .int .u8 (v / 256 % 256)] 5)).alloc (.cells #[.string (s2 v), .int .i64 0] 65) = W0 at *
        generalize (wr.alloc (.cells #[.int .u8 (v % 256), .int .u8 (v / 256 % 256)] 5)).heap.size = r at *
        have TA := hid tA
        have RD0 := hid rd0
        have NX := hid (next_tbl b r 0 _ _ (evf u k) k (s2 v) W0 (evf_le u k (by omega)) (evf_err u k (by omega)) (HT.out.kept TA.out (fun _ _ _ e => e)) RD0.out (by rw [s2_size]; decide) (by omega))
        clear tA rd0
        go_wp2_with fail
        refine NX.out.mono ?_
        intro e w6 hans
        obtain ⟨⟨t, hrs⟩, hcase⟩ := whole_says u k (by omega) v hans
        have hw4 := T4.out.size
        have TE := hid (show Touch (fun _ => False) w w6 from (T4.out.trans TA.out (fun _ _ e => e)).trans hrs.touch (fun i hi e => by omega))
        clear hans NX
        have hand := i64_and1 v
        rcases hcase with ⟨c0, rfl⟩ | ⟨c1, x, ⟨hv0, rfl⟩ | ⟨hv1, rfl⟩⟩ | ⟨c2, i, hi, hui, rfl, hr2⟩
        · rw [c0]
          go_wp2
          go_ret
          exact ⟨rfl, TE.out.below _ (Nat.le_refl _) (fun _ e => e.elim)⟩
        · rw [c1]
          rw [hv0] at hand
          go_wp2
          go_ret
          exact ⟨rfl, TE.out.below _ (Nat.le_refl _) (fun _ e => e.elim)⟩
        · rw [c1]
          rw [hv1] at hand
          go_wp2
          go_ret
          exact ⟨rfl, TE.out.below _ (Nat.le_refl _) (fun _ e => e.elim)⟩
        · have tB : Touch (fun j => j = r) w4 w6 := (TA.out.mono (S' := fun j => j = r) (fun _ _ e => e.elim)).trans hr2.touch (fun _ _ e => e)
          rcases R4.out.bools with h | ⟨b1, o1, ha1, hb1, hc1⟩
          · omega
          · rcases L4.out with h | ⟨b2, o2, ha2, hb2, hc2⟩
            · omega
            · subst ha1 ha2
              have d1 : w6.cell? ⟨b1, o1 + i, none⟩ = some (.bool true) := by rw [tB.cell (p := ⟨b1, o1 + i, none⟩) hb1 (by show ¬ b1 = r; omega), hc1 i hi, hui]
              have d2 : w6.cell? ⟨b2, o2 + i, none⟩ = some (.int .i64 (evf u k i : Nat)) := by rw [tB.cell (p := ⟨b2, o2 + i, none⟩) hb2 (by show ¬ b2 = r; omega)]; exact hc2 i hi
              have R6 := hid hr2.rd
              clear hc1 hc2 tB hr2 hrs hand
              go_wp2_with fail
              go_quiet ((go_at_call 18; refine Calls.quiet_of_same (taken_any r (s2 v) (evf u k i) _ R6.out)))
              go_wp2
              go_ret
              exact ⟨rfl, (TE.out.drewN _).below _ (Nat.le_refl _) (fun _ e => e.elim)⟩

set_option maxRecDepth 100000 in
theorem huffWhole_lifted (os : Os) (started : os.Started) (H : Type) (enc : TypeId × Value → H) :
    ReturnsInHanded {} Try.checked os 7 .any (Rows.huffWholeSpec.pre6 enc Try.prog Try.f7 Rows.huffWholeRow.domain false) (Rows.huffWholeSpec.post enc Try.prog Try.f7 false true false false) := by
  refine returnsInHanded_of_change_sized (C := Try.checked) own started (by kernel_rfl) Try.func7
    (ChangeSpec.witness6 (enc := enc) (C := Try.checked) false ⟨#[], #[.slice none 0 0, .int .i64 0], []⟩ 8 (by kernel_rfl) (by kernel_rfl) (by kernel_rfl) (by kernel_rfl)) ?_
  intro W base args ds gs before hval0 hW hcnd hsz0 _
  have hsz : (DataW.weightsEach Try.prog (Try.f7.params.toList ++ Rows.huffWholeSpec.plain.varTypes Try.prog) (ds ++ gs)).all (· ≤ reachBytes) = true := hsz0
  clear hsz0
  have hval : ∀ (j : Nat) t v, Try.f7.params[j]? = some t → args[j]? = some v → Value.okWide Try.prog W .any base t v := hval0
  have hW' := hW
  obtain ⟨p, q, hA0, hV, rfl, hfz, hnd⟩ := hW
  have hA : DataW.TrodAll enc Try.prog W 0 (fun _ => true) true Try.f7.params.toList args.toList ds p := hA0
  rw [Try.params7] at hA hval hsz
  obtain ⟨v0, vs0, d0, ds0, p0, q0, hargs, rfl, rfl, h0, r0⟩ := trodAll_cons hA
  obtain ⟨v1, vs1, d1, ds1, p1, q1, rfl, rfl, rfl, h1, r1⟩ := trodAll_cons r0
  obtain ⟨rfl, rfl, rfl⟩ := trodAll_nil r1
  obtain rfl : args = #[v0, v1] := by cases args; simp_all
  obtain ⟨rfl, rfl⟩ := trodVars_none hV
  obtain ⟨a0, len0, cap0, rfl⟩ := okWide_slice Try.underlying42 (hval 0 42 v0 rfl rfl)
  have k0 := h0
  have lt0 : ∀ x ∈ p0, x.block < W.heap.size := by obtain ⟨m, hm⟩ := k0; exact DataW.trod_lt m _ _ _ hm
  obtain ⟨z0, w0⟩ : ∃ u, BRow W a0 len0 cap0 u := by
    obtain ⟨fuel, hf⟩ := h0
    rcases open_bools Try.underlying42 Try.underlying4 (by kernel_rfl) hf with ⟨hcs, _⟩ | ⟨x, l, c, B, hcs, _, hl, hm, hx, hcell⟩
    · simp [Value.cells] at hcs
      obtain ⟨rfl, rfl, rfl⟩ := hcs
      exact ⟨fun _ => false, brow_none W _⟩
    · simp [Value.cells] at hcs
      obtain ⟨rfl, rfl, rfl⟩ := hcs
      simp only [Prod.mk.injEq] at hx
      obtain ⟨rfl, rfl⟩ := hx
      have hs := sized_slice hsz (j := 0) (t := 42) (e := 4) rfl rfl Try.underlying42
      rw [show Try.prog.bytesOf 4 = 1 by kernel_rfl] at hs
      simp only [List.length_map, List.length_range, reachBytes] at hs
      exact ⟨B, brow_of hl (by omega) hcell⟩
  obtain ⟨a1, rfl, rfl, rfl, w1⟩ := open_int Try.underlying3 (hval 1 3 v1 rfl rfl) h1
  clear hA0 hval0
  refine (huffWhole_walk a0 len0 cap0 z0 a1 W w0 w1).mono fun e W' ⟨he, bel⟩ => ?_
  subst he
  exact ⟨_, rfl, _, _, _, [], _, [], hW', trodAll_mk1 (shut_bool Try.underlying4 _), (trodAll_cons_mk (Below.trod laidOut (by kernel_rfl) (of_decide_eq_true (by kernel_rfl)) k0 bel lt0) (trodAll_cons_mk (shut_int Try.underlying3 w1) trodAll_mk0)), rfl, bel.frame _, fun h => by cases h⟩

theorem huffWhole_holds : Rows.HuffWholeSaid :=
  OpenClaim.holds_of_wide 7 Try.f7 rfl rfl rfl rfl rfl rfl rfl ⟨rfl, rfl, rfl, rfl, rfl⟩ rfl rfl rfl rfl rfl (by kernel_rfl) Try.func7 (by kernel_rfl)
    (of_decide_eq_true (by kernel_rfl)) (by unfold Func.isWrapper; first | (rw [if_pos (by decide +kernel)]; kernel_rfl) | (rw [if_neg (by decide +kernel)]; exact ⟨rfl, rfl⟩))
    (fun os started H enc _ => huffWhole_lifted os started H enc)
#print axioms huffWhole_holds
end Go.Proofs.Ytokelpnmeknncaa
