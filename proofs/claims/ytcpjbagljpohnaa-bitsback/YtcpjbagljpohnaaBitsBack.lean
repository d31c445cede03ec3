/- BitsBack: for every two lists of numbers, what is put in any widths is taken as it was; no condition. -/
import Derived.Test.YtcpjbagljpohnaaRows
import Derived.WalkKit
import Derived.ProofKit
import Derived.OpenShut
import Derived.ShutString
import Derived.ChangeOld
import Derived.Below
import Derived.SizedLaws
import Derived.BigQuiet
import Derived.Test.YtcpjbagljpohnaaSpk
import Derived.Test.YtcpjbagljpohnaaTake
import Derived.Test.YtcpjbagljpohnaaBack
namespace Go.Proofs.Ytcpjbagljpohnaa
open Go.ChangeShapes Go.WideShapes Go.ChangeAt Go.RowKit
open Go.ChangeMaps (open_string shut_string)

theorem own : ownKnob Try.prog.godebug = none := by kernel_rfl
theorem laidOut : laidOutB Try.prog = true := by kernel_rfl
theorem i64_and31 (n : Int) : bits .and .i64 n 31 = n % 32 := i64_and_mask n 5 (by decide)

theorem below_wnew {w0 w w' : World} {bs : List Bool} (hb : Below w0.heap.size w0 w) (h : WStep (w.alloc (.cells #[.slice none 0 0, .int .i64 0] 41)) w' w.heap.size bs) : Below w0.heap.size w0 w' :=
  hb.trans ((below_new h).mono hb.size)

theorem below_rnew {w0 w w' : World} {s : ByteArray} {t : Nat} (hb : Below w0.heap.size w0 w) (h : RStep (w.alloc (.cells #[.string s, .int .i64 0] 55)) w' w.heap.size s t) : Below w0.heap.size w0 w' :=
  (hb.alloc hb.size _).trans (h.touch.below w0.heap.size (by have := hb.size; simp; omega) (fun k e => by have := hb.size; omega))

theorem and_pow (x : Int) (m : Nat) (hm : m ≤ 32) : bits .and .i64 x (wrap64 (wrap64 (2 ^ m) - 1)) = x % 2 ^ m := by
  have hp : 2 ^ m ≤ 2 ^ 32 := Nat.pow_le_pow_right (by decide) hm
  have hp0 : 0 < 2 ^ m := Nat.pow_pos (by decide)
  have hc : (2 : Int) ^ m = ((2 ^ m : Nat) : Int) := by simp
  have e : wrap64 (wrap64 (2 ^ m) - 1) = 2 ^ m - 1 := by rw [hc]; unfold wrap64; omega
  rw [e, i64_and_mask _ m (by omega)]

theorem Still.below {w w' : World} (h : Still w w') (B : Nat) : Below B w w' := ⟨h.os, h.tape, h.output, by rw [h.heap]; exact Nat.le_refl _, fun k _ => by rw [h.heap]⟩

set_option maxHeartbeats 1000000 in
theorem bitsBack_core (b0 o0 l0 c0 b1 o1 l1 c1 n : Nat) (vs zs : List Int) (w : World) (hn : n = min (min l0 l1) 2000) (h0 : b0 < w.heap.size) (h1 : b1 < w.heap.size)
    (hv : ∀ i, i < n → w.cell? ⟨b0, o0 + i, none⟩ = some (.int .i64 (vs.getD i 0))) (hz : ∀ i, i < n → w.cell? ⟨b1, o1 + i, none⟩ = some (.int .i64 (zs.getD i 0)))
    (hl0 : l0 ≤ 140737488351232) (hl1 : l1 ≤ 140737488351232) :
    Calls Try.prog 5 #[.slice (some ⟨b0, o0, none⟩) l0 c0, .slice (some ⟨b1, o1, none⟩) l1 c1] w fun e w' => e = .returned (.bool true) ∧ Below w.heap.size w w' := by
  have HN : Hid _ := hn
  have HV : Hid _ := hv
  have HZ : Hid _ := hz
  clear hn hv hz
  go_enter Try.func5, Try.ntmps5
  go_wp2_with fail
  refine (speaks_any _).mono ?_
  rintro e w1 ⟨rfl, hb⟩
  have HB : Hid _ := hb
  clear hb
  go_wp2_with fail
  all_goals
    obtain ⟨hn2, hn3, hn4⟩ : n ≤ 2000 ∧ n ≤ l0 ∧ n ≤ l1 := by have := HN.out; omega
    first
      | rw [show (2000 : Int) = (n : Int) by have := HN.out; omega]
      | rw [show (l1 : Int) = (n : Int) by have := HN.out; omega]
      | rw [show (l0 : Int) = (n : Int) by have := HN.out; omega]
    clear HN
    go_loopw [7, 8] (fun u i wr => ∃ k : Nat, k ≤ n ∧ i = .int .i64 k ∧ u = .int .i64 (Bt.rows vs zs k).length ∧ WStep (w1.alloc (.cells #[.slice none 0 0, .int .i64 0] 41)) wr w1.heap.size (Bt.rows vs zs k)) (fun _ i _ => n - (intOf i).toNat)
    case atStart => exact ⟨0, Nat.zero_le _, rfl, rfl, WStep.refl wr_new⟩
    case round =>
      obtain ⟨k, hk, rfl, rfl, hst⟩ := hrel
      have bel : Hid _ := below_wnew HB.out hst
      have ST : Hid _ := hst
      clear hst
      by_cases hlt : k < n
      · obtain ⟨x, hx⟩ : ∃ x, vs.getD k 0 = x := ⟨_, rfl⟩
        obtain ⟨z, hzz⟩ : ∃ z, zs.getD k 0 = z := ⟨_, rfl⟩
        have cx : wr.cell? ⟨b0, o0 + k, none⟩ = some (.int .i64 x) := by rw [bel.out.cell (p := ⟨b0, o0 + k, none⟩) h0, HV.out k hlt, hx]
        have cz : wr.cell? ⟨b1, o1 + k, none⟩ = some (.int .i64 z) := by rw [bel.out.cell (p := ⟨b1, o1 + k, none⟩) h1, HZ.out k hlt, hzz]
        have HX : Hid _ := hx
        have HZZ : Hid _ := hzz
        have hkl := Bt.rows_le vs zs k
        have hkz := Bt.kOf_le z
        clear hx hzz
        go_wp2_with fail
        rw [i64_and31, ← Bt.kOf_cast]
        refine (put_yes w1.heap.size _ x (Bt.kOf z) _ ST.out.wr (by omega) (by omega)).mono ?_
        rintro e w3 ⟨rfl, s⟩
        have S3 : Hid _ := ST.out.trans s
        clear ST s
        go_wp2
        go_roundw
        case rel =>
          have h3 := S3.out
          refine ⟨k + 1, by omega, by go_num, ?_, ?_⟩
          · rw [Bt.rows_succ_len, HZZ.out]; go_num
          · rw [Bt.rows, HX.out, HZZ.out]; exact h3
        case measure => simp [intOf]; omega
      · obtain rfl : k = n := by omega
        go_wp2_with fail
        refine (all_any _ _ _ ST.out.wr).mono ?_
        rintro e w3 ⟨rfl, rfl⟩
        go_wp2_with fail
        refine (open_any _ _).mono ?_
        rintro e w4 ⟨rfl, rfl⟩
        obtain ⟨n, hkn⟩ : ∃ n, k = n := ⟨_, rfl⟩
        subst hkn
        obtain ⟨S, hS⟩ : ∃ S, strOf (Bt.pack (Bt.rows vs zs k)) = S := ⟨_, rfl⟩
        have hSl : S.size = ((Bt.rows vs zs k).length + 7) / 8 := by rw [← hS, size_strOf, Bt.length_pack]
        have hkl := Bt.rows_le vs zs k
        have HS : Hid _ := hS
        rw [hS]
        clear hS
        go_wp2_with fail
        go_loopw [12] (fun i wr => ∃ j : Nat, j ≤ k ∧ i = .int .i64 j ∧ RStep (w3.alloc (.cells #[.string S, .int .i64 0] 55)) wr w3.heap.size S (Bt.rows vs zs j).length) (fun i _ => k - (intOf i).toNat)
        case atStart => exact ⟨0, Nat.zero_le _, rfl, RStep.refl (rd_new _ _)⟩
        case round =>
          obtain ⟨j, hj, rfl, hst⟩ := hrel
          have RT : Hid _ := hst
          clear hst
          have bel2 : Hid _ := below_rnew bel.out RT.out
          by_cases hlt2 : j < k
          · obtain ⟨x, hx⟩ : ∃ x, vs.getD j 0 = x := ⟨_, rfl⟩
            obtain ⟨z, hzz⟩ : ∃ z, zs.getD j 0 = z := ⟨_, rfl⟩
            have cx : wr.cell? ⟨b0, o0 + j, none⟩ = some (.int .i64 x) := by rw [bel2.out.cell (p := ⟨b0, o0 + j, none⟩) h0, HV.out j hlt2, hx]
            have cz : wr.cell? ⟨b1, o1 + j, none⟩ = some (.int .i64 z) := by rw [bel2.out.cell (p := ⟨b1, o1 + j, none⟩) h1, HZ.out j hlt2, hzz]
            have hrv := Bt.rows_rval vs zs j k hlt2
            have hrt := (Bt.rows_take vs zs j k hlt2).1
            have hjl := Bt.rows_le vs zs j
            have hsl := Bt.rows_succ_len vs zs j
            rw [HS.out, hx, hzz] at hrv
            rw [hzz] at hrt hsl
            have hkz := Bt.kOf_le z
            have HRV : Hid _ := hrv
            have HSL : Hid _ := hsl
            clear hx hzz hrv hsl
            go_wp2_with fail
            rw [i64_and31, ← Bt.kOf_cast]
            refine (take_yes w3.heap.size S _ (Bt.kOf z) _ RT.out.rd (by omega) (by omega) (by omega)).mono ?_
            rintro e w5 ⟨rfl, s⟩
            have S3 : Hid _ := RT.out.trans s
            have bel3 : Hid _ := below_rnew bel.out S3.out
            have cx2 : w5.cell? ⟨b0, o0 + j, none⟩ = some (.int .i64 x) := by rw [bel3.out.cell (p := ⟨b0, o0 + j, none⟩) h0, ← cx, bel2.out.cell (p := ⟨b0, o0 + j, none⟩) h0]
            clear RT s cx cz bel2
            rw [HRV.out]
            have hand := and_pow x (Bt.kOf z) (by omega)
            go_wp2_with fail
            go_quiet (fail)
            go_wp2
            go_roundw
            case rel => exact ⟨j + 1, by omega, by go_num, by rw [HSL.out]; exact ⟨S3.out.rd, S3.out.touch.drewN _⟩⟩
            case measure => simp [intOf]; omega
          · obtain rfl : j = k := by omega
            go_wp2_with fail
            refine (left_any _ _ _ _ RT.out.rd (by omega) (by omega)).mono ?_
            rintro e w5 ⟨rfl, hst⟩
            go_wp2
            go_ret
            exact ⟨ret_bool (by simp; omega), bel2.out.trans (hst.below _)⟩

set_option maxHeartbeats 1000000 in
theorem bitsBack_none (a0 a1 : Option Addr) (l0 c0 l1 c1 : Nat) (w : World) (hn : l0 = 0 ∨ l1 = 0) (hl0 : l0 ≤ 140737488351232) (hl1 : l1 ≤ 140737488351232) :
    Calls Try.prog 5 #[.slice a0 l0 c0, .slice a1 l1 c1] w fun e w' => e = .returned (.bool true) ∧ Below w.heap.size w w' := by
  have HN : Hid _ := hn
  clear hn
  go_enter Try.func5, Try.ntmps5
  go_wp2_with fail
  refine (speaks_any _).mono ?_
  rintro e w1 ⟨rfl, hb⟩
  have HB : Hid _ := hb
  clear hb
  go_wp2_with fail
  all_goals try (exfalso; have := HN.out; split at * <;> omega)
  all_goals
    first
      | rw [show (l1 : Int) = 0 by have := HN.out; omega]
      | rw [show (l0 : Int) = 0 by have := HN.out; omega]
    clear HN
    go_loopw [7, 8] (fun u i wr => i = .int .i64 0 ∧ u = .int .i64 0 ∧ wr = (w1.alloc (.cells #[.slice none 0 0, .int .i64 0] 41))) (fun _ i _ => 0)
    case atStart => exact ⟨rfl, rfl, rfl⟩
    case round =>
      obtain ⟨rfl, rfl, rfl⟩ := hrel
      go_wp2_with fail
      refine (all_any _ _ _ wr_new).mono ?_
      rintro e w3 ⟨rfl, rfl⟩
      go_wp2_with fail
      refine (open_any _ _).mono ?_
      rintro e w4 ⟨rfl, rfl⟩
      rw [show strOf (Bt.pack []) = ByteArray.empty from rfl]
      have R0 := rd_new (w1.alloc (.cells #[.slice none 0 0, .int .i64 0] 41)) ByteArray.empty
      have hs1 : (w1.alloc (.cells #[.slice none 0 0, .int .i64 0] 41)).heap.size = w1.heap.size + 1 := by simp
      rw [hs1] at R0
      have R1 : Hid _ := R0
      clear R0 hs1
      go_wp2_with fail
      go_loopw [12] (fun i wr => i = .int .i64 0 ∧ wr = (w1.alloc (.cells #[.slice none 0 0, .int .i64 0] 41)).alloc (.cells #[.string ByteArray.empty, .int .i64 0] 55)) (fun i _ => 0)
      case atStart => exact ⟨rfl, rfl⟩
      case round =>
        obtain ⟨rfl, rfl⟩ := hrel
        go_wp2_with fail
        refine (left_any _ ByteArray.empty 0 _ R1.out (by decide) (by decide)).mono ?_
        rintro e w5 ⟨rfl, hst⟩
        go_wp2
        go_ret
        exact ⟨rfl, (((HB.out.alloc HB.out.size _).alloc (by have := HB.out.size; simp; omega) _)).trans (hst.below _)⟩

/-- What a walk is told of a list of numbers that came in. -/
def IsRow (w : World) (a : Option Addr) (len cap : Nat) (zs : List Int) : Prop :=
  (a = none ∧ len = 0 ∧ cap = 0 ∧ zs = []) ∨
  ∃ x, a = some x ∧ len ≤ cap ∧ cap * 8 ≤ 140737488351232 ∧ zs.length = cap ∧ (0 < cap → x.block < w.heap.size) ∧ (∀ i, i < zs.length → w.cell? (x.add i) = some (.int .i64 (zs.getD i 0))) ∧ ∀ n ∈ zs, (Lit.int .i64 n).wf = true

theorem IsRow.open {w : World} {a : Option Addr} {len cap : Nat} {zs : List Int} (h : IsRow w a len cap zs) : len * 8 ≤ 140737488351232 ∧ (len = 0 ∨ ∃ b o, a = some ⟨b, o, none⟩ ∧ b < w.heap.size ∧ ∀ i, i < len → w.cell? ⟨b, o + i, none⟩ = some (.int .i64 (zs.getD i 0))) := by
  rcases h with ⟨rfl, rfl, rfl, rfl⟩ | ⟨x, rfl, hl, hc, hz, hlt, hcell, _⟩
  · exact ⟨by omega, .inl rfl⟩
  · refine ⟨by omega, ?_⟩
    by_cases h0 : len = 0
    · exact .inl h0
    · obtain ⟨b, off, spot⟩ := x
      have hspot : spot = none := by simpa [Addr.add] using World.cell?_spot (hcell 0 (by omega))
      subst hspot
      refine .inr ⟨b, off, rfl, hlt (by omega), fun i hi => ?_⟩
      have := hcell i (by omega)
      rwa [show (⟨b, off, none⟩ : Addr).add i = ⟨b, off + i, none⟩ by unfold Addr.add; split <;> simp_all] at this

theorem bitsBack_walk (a0 : Option Addr) (l0 c0 : Nat) (vs : List Int) (a1 : Option Addr) (l1 c1 : Nat) (zs : List Int) (w : World) (h0 : IsRow w a0 l0 c0 vs) (h1 : IsRow w a1 l1 c1 zs) :
    Calls Try.prog 5 #[.slice a0 l0 c0, .slice a1 l1 c1] w fun e w' => e = .returned (.bool true) ∧ Below w.heap.size w w' := by
  obtain ⟨s0, k0⟩ := h0.open
  obtain ⟨s1, k1⟩ := h1.open
  rcases k0 with e0 | ⟨b0, o0, rfl, hb0, hc0⟩
  · exact bitsBack_none _ _ _ _ _ _ _ (.inl e0) (by omega) (by omega)
  · rcases k1 with e1 | ⟨b1, o1, rfl, hb1, hc1⟩
    · exact bitsBack_none _ _ _ _ _ _ _ (.inr e1) (by omega) (by omega)
    · exact bitsBack_core b0 o0 l0 c0 b1 o1 l1 c1 _ vs zs w rfl hb0 hb1 (fun i hi => hc0 i (by omega)) (fun i hi => hc1 i (by omega)) (by omega) (by omega)

set_option maxRecDepth 100000 in
theorem bitsBack_lifted (os : Os) (started : os.Started) (H : Type) (enc : TypeId × Value → H) :
    ReturnsInHanded {} Try.checked os 5 .any (Rows.bitsBackSpec.pre6 enc Try.prog Try.f5 Rows.bitsBackRow.domain false) (Rows.bitsBackSpec.post enc Try.prog Try.f5 false true false false) := by
  refine returnsInHanded_of_change_sized (C := Try.checked) own started (by kernel_rfl) Try.func5
    (ChangeSpec.witness6 (enc := enc) (C := Try.checked) false ⟨#[], #[.slice none 0 0, .slice none 0 0], []⟩ 8 (by kernel_rfl) (by kernel_rfl) (by kernel_rfl) (by kernel_rfl)) ?_
  intro W base args ds gs before hval0 hW hcnd hsz0 _
  have hsz : (DataW.weightsEach Try.prog (Try.f5.params.toList ++ Rows.bitsBackSpec.plain.varTypes Try.prog) (ds ++ gs)).all (· ≤ reachBytes) = true := hsz0
  clear hsz0
  have hval : ∀ (j : Nat) t v, Try.f5.params[j]? = some t → args[j]? = some v → Value.okWide Try.prog W .any base t v := hval0
  have hW' := hW
  obtain ⟨p, q, hA0, hV, rfl, hfz, hnd⟩ := hW
  have hA : DataW.TrodAll enc Try.prog W 0 (fun _ => true) true Try.f5.params.toList args.toList ds p := hA0
  rw [Try.params5] at hA hval hsz
  obtain ⟨v0, vs0, d0, ds0, p0, q0, hargs, rfl, rfl, h0, r0⟩ := trodAll_cons hA
  obtain ⟨v1, vs1, d1, ds1, p1, q1, rfl, rfl, rfl, h1, r1⟩ := trodAll_cons r0
  obtain ⟨rfl, rfl, rfl⟩ := trodAll_nil r1
  obtain rfl : args = #[v0, v1] := by cases args; simp_all
  obtain ⟨rfl, rfl⟩ := trodVars_none hV
  obtain ⟨a0, len0, cap0, rfl⟩ := okWide_slice Try.underlying43 (hval 0 43 v0 rfl rfl)
  have k0 := h0
  have lt0 : ∀ x ∈ p0, x.block < W.heap.size := by obtain ⟨m, hm⟩ := k0; exact DataW.trod_lt m _ _ _ hm
  obtain ⟨z0, w0⟩ : ∃ zs, IsRow W a0 len0 cap0 zs := by
    obtain ⟨fuel, hf⟩ := h0
    rcases open_ints Try.underlying43 Try.underlying3 (by kernel_rfl) hf with ⟨hcs, _⟩ | ⟨x, l, c, zs, hcs, _, hl, hm, hz, hx, hcell, hwz⟩
    · simp [Value.cells] at hcs
      obtain ⟨rfl, rfl, rfl⟩ := hcs
      exact ⟨[], .inl ⟨rfl, rfl, rfl, rfl⟩⟩
    · simp [Value.cells] at hcs
      obtain ⟨rfl, rfl, rfl⟩ := hcs
      simp only [Prod.mk.injEq] at hx
      obtain ⟨rfl, rfl⟩ := hx
      have hs := sized_slice hsz (j := 0) (t := 43) (e := 3) rfl rfl Try.underlying43
      rw [show Try.prog.bytesOf 3 = 8 by kernel_rfl] at hs
      simp only [lits, List.length_map, List.length_take, List.length_drop, reachBytes] at hs
      simp only [if_true] at hz
      refine ⟨zs, .inr ⟨_, rfl, hl, by omega, hz, ?_, hcell, hwz⟩⟩
      intro hi
      have hb := World.block_lt_of_cell? W _ (hcell 0 (by omega))
      simpa [Addr.add] using hb
  obtain ⟨a1, len1, cap1, rfl⟩ := okWide_slice Try.underlying43 (hval 1 43 v1 rfl rfl)
  have k1 := h1
  have lt1 : ∀ x ∈ p1, x.block < W.heap.size := by obtain ⟨m, hm⟩ := k1; exact DataW.trod_lt m _ _ _ hm
  obtain ⟨z1, w1⟩ : ∃ zs, IsRow W a1 len1 cap1 zs := by
    obtain ⟨fuel, hf⟩ := h1
    rcases open_ints Try.underlying43 Try.underlying3 (by kernel_rfl) hf with ⟨hcs, _⟩ | ⟨x, l, c, zs, hcs, _, hl, hm, hz, hx, hcell, hwz⟩
    · simp [Value.cells] at hcs
      obtain ⟨rfl, rfl, rfl⟩ := hcs
      exact ⟨[], .inl ⟨rfl, rfl, rfl, rfl⟩⟩
    · simp [Value.cells] at hcs
      obtain ⟨rfl, rfl, rfl⟩ := hcs
      simp only [Prod.mk.injEq] at hx
      obtain ⟨rfl, rfl⟩ := hx
      have hs := sized_slice hsz (j := 1) (t := 43) (e := 3) rfl rfl Try.underlying43
      rw [show Try.prog.bytesOf 3 = 8 by kernel_rfl] at hs
      simp only [lits, List.length_map, List.length_take, List.length_drop, reachBytes] at hs
      simp only [if_true] at hz
      refine ⟨zs, .inr ⟨_, rfl, hl, by omega, hz, ?_, hcell, hwz⟩⟩
      intro hi
      have hb := World.block_lt_of_cell? W _ (hcell 0 (by omega))
      simpa [Addr.add] using hb
  clear hA0 hval0
  refine (bitsBack_walk a0 len0 cap0 z0 a1 len1 cap1 z1 W w0 w1).mono fun e W' ⟨he, bel⟩ => ?_
  subst he
  exact ⟨_, rfl, _, _, _, [], _, [], hW', trodAll_mk1 (shut_bool Try.underlying4 _), (trodAll_cons_mk (Below.trod laidOut (by kernel_rfl) (of_decide_eq_true (by kernel_rfl)) k0 bel lt0) (trodAll_cons_mk (Below.trod laidOut (by kernel_rfl) (of_decide_eq_true (by kernel_rfl)) k1 bel lt1) trodAll_mk0)), rfl, bel.frame _, fun h => by cases h⟩

theorem bitsBack_holds : Rows.BitsBackSaid :=
  OpenClaim.holds_of_wide 5 Try.f5 rfl rfl rfl rfl rfl rfl rfl ⟨rfl, rfl, rfl, rfl, rfl⟩ rfl rfl rfl rfl rfl (by kernel_rfl) Try.func5 (by kernel_rfl)
    (of_decide_eq_true (by kernel_rfl)) (by unfold Func.isWrapper; first | (rw [if_pos (by decide +kernel)]; kernel_rfl) | (rw [if_neg (by decide +kernel)]; exact ⟨rfl, rfl⟩))
    (fun os started H enc _ => bitsBack_lifted os started H enc)
#print axioms bitsBack_holds
end Go.Proofs.Ytcpjbagljpohnaa
