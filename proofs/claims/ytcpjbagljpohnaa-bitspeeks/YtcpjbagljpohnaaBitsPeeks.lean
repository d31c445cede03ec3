/- BitsPeeks: for every string and every two numbers, what is peeked at is what is taken then, and bits taken in two goes are those taken in one; no condition. -/
import Derived.Test.YtcpjbagljpohnaaRows
import Derived.WalkKit
import Derived.ProofKit
import Derived.OpenShut
import Derived.ShutString
import Derived.Below
import Derived.SizedLaws
import Derived.Test.YtcpjbagljpohnaaSpk
import Derived.Test.YtcpjbagljpohnaaTake
namespace Go.Proofs.Ytcpjbagljpohnaa
open Go.ChangeShapes Go.WideShapes Go.ChangeAt Go.RowKit
open Go.ChangeMaps (open_string shut_string)

theorem own : ownKnob Try.prog.godebug = none := by kernel_rfl
theorem i64_and15 (n : Int) : bits .and .i64 n 15 = n % 16 := i64_and_mask n 4 (by decide)

theorem RStep.other {w w' : World} {a b : Nat} {s s' : ByteArray} {t t' : Nat} (h : RStep w w' a s t) (r : Rd w b s' t') (hne : b ≠ a) : Rd w' b s' t' := by
  unfold Rd
  rw [h.touch.block b r.lt hne]
  exact r

theorem below_rstep {B : Nat} {w0 w w' : World} {a : Nat} {s : ByteArray} {t : Nat} (hb : Below B w0 w) (h : RStep w w' a s t) (hB : B ≤ w0.heap.size) (ha : B ≤ a) : Below B w0 w' :=
  hb.trans (h.touch.below B (Nat.le_trans hB hb.size) (fun k e => by omega))

/-- Two readers of one string. -/
structure Pair (w0 w : World) (a : Nat) (s : ByteArray) (t u : Nat) : Prop where
  ra : Rd w a s t
  rb : Rd w (a + 1) s u
  low : w0.heap.size ≤ a
  bel : Below w0.heap.size w0 w

theorem Pair.stepA {w0 w w' : World} {a : Nat} {s : ByteArray} {t u t' : Nat} (h : Pair w0 w a s t u) (k : RStep w w' a s t') : Pair w0 w' a s t' u :=
  ⟨k.rd, k.other h.rb (by omega), h.low, below_rstep h.bel k (Nat.le_refl _) h.low⟩
theorem Pair.stepB {w0 w w' : World} {a : Nat} {s : ByteArray} {t u t' : Nat} (h : Pair w0 w a s t u) (k : RStep w w' (a + 1) s t') : Pair w0 w' a s t t' :=
  ⟨k.other h.ra (by omega), k.rd, h.low, below_rstep h.bel k (Nat.le_refl _) (by have := h.low; omega)⟩
theorem Pair.still {w0 w w' : World} {a : Nat} {s : ByteArray} {t u : Nat} (h : Pair w0 w a s t u) (k : Still w w') : Pair w0 w' a s t u := h.stepA (k.rstep h.ra)

theorem pair_new {w0 w : World} (s : ByteArray) (hb : Below w0.heap.size w0 w) :
    Pair w0 ((w.alloc (.cells #[.string s, .int .i64 0] 55)).alloc (.cells #[.string s, .int .i64 0] 55)) w.heap.size s 0 0 := by
  have hs : (w.alloc (.cells #[.string s, .int .i64 0] 55)).heap.size = w.heap.size + 1 := by simp
  refine ⟨?_, ?_, hb.size, (hb.alloc hb.size _).alloc (by have := hb.size; omega) _⟩
  · unfold Rd
    rw [Below.heap_alloc _ _ _ (by omega)]
    exact rd_new w s
  · rw [← hs]
    exact rd_new _ s

theorem two_goes (s : ByteArray) (n m : Nat) (hn : n ≤ 15) (hm : m ≤ 15) : bits .or .i64 (Bt.rval s 0 n : Nat) (wrap64 ((Bt.rval s n m : Nat) * 2 ^ n)) = ((Bt.rval s 0 (n + m) : Nat) : Int) := by
  have h1 := Bt.rval_lt s 0 n
  have h2 := Bt.rval_lt s n m
  have p1 : 2 ^ n ≤ 2 ^ 15 := Nat.pow_le_pow_right (by decide) hn
  have p2 : 2 ^ m ≤ 2 ^ 15 := Nat.pow_le_pow_right (by decide) hm
  have p3 : Bt.rval s n m * 2 ^ n ≤ 2 ^ 15 * 2 ^ 15 := Nat.mul_le_mul (by omega) p1
  have e : wrap64 (((Bt.rval s n m : Nat) : Int) * 2 ^ n) = ((Bt.rval s n m * 2 ^ n : Nat) : Int) := by
    have : ((Bt.rval s n m * 2 ^ n : Nat) : Int) = ((Bt.rval s n m : Nat) : Int) * 2 ^ n := by simp
    rw [← this]
    unfold wrap64
    omega
  rw [e, i64_or_nat _ _ (by omega) (by omega), Nat.or_comm, nat_join n _ _ (by simp) h1, Bt.rval_add, Nat.zero_add, Nat.mul_comm, Nat.add_comm]

set_option maxHeartbeats 1000000 in
theorem bitsPeeks_walk (s : ByteArray) (a1 a2 : Int) (w : World) (hs : s.size ≤ 140737488351232) (_w1 : (Lit.int .i64 a1).wf = true) (_w2 : (Lit.int .i64 a2).wf = true) :
    Calls Try.prog 7 #[.string s, .int .i64 a1, .int .i64 a2] w fun e w' => e = .returned (.bool true) ∧ Below w.heap.size w w' := by
  go_enter Try.func7, Try.ntmps7
  go_wp2_with fail
  refine (speaks_any _).mono ?_
  rintro e w1 ⟨rfl, hb⟩
  have P0 : Hid _ := pair_new s hb
  clear hb
  go_wp2_with fail
  refine (open_any _ _).mono ?_
  rintro e w2 ⟨rfl, rfl⟩
  go_wp2_with fail
  refine (open_any _ _).mono ?_
  rintro e w2 ⟨rfl, rfl⟩
  go_wp2_with fail
  rw [i64_and15, i64_and15]
  obtain ⟨n, hn, hn15⟩ : ∃ n : Nat, a1 % 16 = n ∧ n ≤ 15 := ⟨(a1 % 16).toNat, by omega, by omega⟩
  obtain ⟨m, hm, hm15⟩ : ∃ m : Nat, a2 % 16 = m ∧ m ≤ 15 := ⟨(a2 % 16).toNat, by omega, by omega⟩
  rw [hn, hm]
  clear hn hm
  rw [show wrap64 ((n : Int) + (m : Int)) = ((n + m : Nat) : Int) by unfold wrap64; omega]
  by_cases hall : n + m ≤ 8 * s.size
  · have hp := peek_yes _ s 0 (n + m) _ P0.out.ra (by omega) (by omega) (by omega)
    rw [show min (n + m) (8 * s.size - 0) = n + m by omega] at hp
    refine Calls.mono hp ?_
    clear hp
    rintro e w3 ⟨rfl, hst⟩
    have P1 : Hid _ := P0.out.still hst
    clear P0 hst
    go_wp2_with fail
    refine (take_yes _ s 0 n _ P1.out.ra (by omega) (by omega) (by omega)).mono ?_
    rintro e w4 ⟨rfl, k⟩
    have P2 : Hid _ := P1.out.stepA k
    clear P1 k
    go_wp2_with fail
    refine (take_yes _ s (0 + n) m _ P2.out.ra (by omega) (by omega) (by omega)).mono ?_
    rintro e w5 ⟨rfl, k⟩
    have P3 : Hid _ := P2.out.stepA k
    clear P2 k
    go_wp2_with fail
    rw [show (n : Int) + (m : Int) = ((n + m : Nat) : Int) by omega]
    refine (take_yes _ s 0 (n + m) _ P3.out.rb (by omega) (by omega) (by omega)).mono ?_
    rintro e w6 ⟨rfl, k⟩
    have P4 : Hid _ := P3.out.stepB k
    clear P3 k
    have hz := two_goes s n m hn15 hm15
    go_wp2_with fail
    refine (taken_any _ s _ _ P4.out.ra).mono ?_
    rintro e w7 ⟨rfl, rfl⟩
    go_wp2_with fail
    refine (taken_any _ s _ _ P4.out.rb).mono ?_
    rintro e w7 ⟨rfl, rfl⟩
    go_wp2
    go_ret
    exact ⟨ret_bool (by simp), P4.out.bel⟩
  · have hp := peek_yes _ s 0 (n + m) _ P0.out.ra (by omega) (by omega) (by omega)
    obtain ⟨q, hq⟩ : ∃ q, 8 * s.size = q := ⟨_, rfl⟩
    rw [show min (n + m) (8 * s.size - 0) = q by omega] at hp
    have hqn : q < n + m := by omega
    refine Calls.mono hp ?_
    clear hp
    rintro e w3 ⟨rfl, hst⟩
    have P1 : Hid _ := P0.out.still hst
    have HQ : Hid _ := hq
    clear P0 hst hq hall
    by_cases hnq : n ≤ q
    · go_wp2_with fail
      refine (take_yes _ s 0 n _ P1.out.ra (by omega) (by omega) (by have := HQ.out; omega)).mono ?_
      rintro e w4 ⟨rfl, k⟩
      have P2 : Hid _ := P1.out.stepA k
      clear P1 k
      go_wp2_with fail
      refine (take_end _ s (0 + n) m _ P2.out.ra (by omega) (by omega) (by have := HQ.out; omega) (by have := HQ.out; omega)).mono ?_
      rintro e w5 ⟨rfl, k⟩
      have P3 : Hid _ := P2.out.still k
      clear P2 k
      go_wp2_with fail
      rw [show (n : Int) + (m : Int) = ((n + m : Nat) : Int) by omega]
      refine (take_end _ s 0 (n + m) _ P3.out.rb (by omega) (by omega) (by omega) (by have := HQ.out; omega)).mono ?_
      rintro e w6 ⟨rfl, k⟩
      have P4 : Hid _ := P3.out.still k
      clear P3 k
      go_wp2_with fail
      refine (taken_any _ s _ _ P4.out.rb).mono ?_
      rintro e w7 ⟨rfl, rfl⟩
      go_wp2
      go_ret
      exact ⟨rfl, P4.out.bel⟩
    · go_wp2_with fail
      refine (take_end _ s 0 n _ P1.out.ra (by omega) (by omega) (by omega) (by have := HQ.out; omega)).mono ?_
      rintro e w4 ⟨rfl, k⟩
      have P2 : Hid _ := P1.out.still k
      clear P1 k
      by_cases hmq : m ≤ q
      · go_wp2_with fail
        refine (take_yes _ s 0 m _ P2.out.ra (by omega) (by omega) (by have := HQ.out; omega)).mono ?_
        rintro e w5 ⟨rfl, k⟩
        have P3 : Hid _ := P2.out.stepA k
        clear P2 k
        go_wp2_with fail
        rw [show (n : Int) + (m : Int) = ((n + m : Nat) : Int) by omega]
        refine (take_end _ s 0 (n + m) _ P3.out.rb (by omega) (by omega) (by omega) (by have := HQ.out; omega)).mono ?_
        rintro e w6 ⟨rfl, k⟩
        have P4 : Hid _ := P3.out.still k
        clear P3 k
        go_wp2_with fail
        refine (taken_any _ s _ _ P4.out.rb).mono ?_
        rintro e w7 ⟨rfl, rfl⟩
        go_wp2
        go_ret
        exact ⟨rfl, P4.out.bel⟩
      · go_wp2_with fail
        refine (take_end _ s 0 m _ P2.out.ra (by omega) (by omega) (by omega) (by have := HQ.out; omega)).mono ?_
        rintro e w5 ⟨rfl, k⟩
        have P3 : Hid _ := P2.out.still k
        clear P2 k
        go_wp2_with fail
        rw [show (n : Int) + (m : Int) = ((n + m : Nat) : Int) by omega]
        refine (take_end _ s 0 (n + m) _ P3.out.rb (by omega) (by omega) (by omega) (by have := HQ.out; omega)).mono ?_
        rintro e w6 ⟨rfl, k⟩
        have P4 : Hid _ := P3.out.still k
        clear P3 k
        go_wp2_with fail
        refine (taken_any _ s _ _ P4.out.rb).mono ?_
        rintro e w7 ⟨rfl, rfl⟩
        go_wp2
        go_ret
        exact ⟨rfl, P4.out.bel⟩

set_option maxRecDepth 100000 in
theorem bitsPeeks_lifted (os : Os) (started : os.Started) (H : Type) (enc : TypeId × Value → H) :
    ReturnsInHanded {} Try.checked os 7 .any (Rows.bitsPeeksSpec.pre6 enc Try.prog Try.f7 Rows.bitsPeeksRow.domain false) (Rows.bitsPeeksSpec.post enc Try.prog Try.f7 false true false false) := by
  refine returnsInHanded_of_change_sized (C := Try.checked) own started (by kernel_rfl) Try.func7
    (ChangeSpec.witness6 (enc := enc) (C := Try.checked) false ⟨#[], #[.string ByteArray.empty, .int .i64 0, .int .i64 0], []⟩ 8 (by kernel_rfl) (by kernel_rfl) (by kernel_rfl) (by kernel_rfl)) ?_
  intro W base args ds gs before hval0 hW hcnd hsz0 _
  have hsz : (DataW.weightsEach Try.prog (Try.f7.params.toList ++ Rows.bitsPeeksSpec.plain.varTypes Try.prog) (ds ++ gs)).all (· ≤ reachBytes) = true := hsz0
  clear hsz0
  have hval : ∀ (j : Nat) t v, Try.f7.params[j]? = some t → args[j]? = some v → Value.okWide Try.prog W .any base t v := hval0
  have hW' := hW
  obtain ⟨p, q, hA0, hV, rfl, hfz, hnd⟩ := hW
  have hA : DataW.TrodAll enc Try.prog W 0 (fun _ => true) true Try.f7.params.toList args.toList ds p := hA0
  rw [Try.params7] at hA hval hsz
  obtain ⟨v0, vs0, d0, ds0, p0, q0, hargs, rfl, rfl, h0, r0⟩ := trodAll_cons hA
  obtain ⟨v1, vs1, d1, ds1, p1, q1, rfl, rfl, rfl, h1, r1⟩ := trodAll_cons r0
  obtain ⟨v2, vs2, d2, ds2, p2, q2, rfl, rfl, rfl, h2, r2⟩ := trodAll_cons r1
  obtain ⟨rfl, rfl, rfl⟩ := trodAll_nil r2
  obtain rfl : args = #[v0, v1, v2] := by cases args; simp_all
  obtain ⟨rfl, rfl⟩ := trodVars_none hV
  obtain ⟨a0, rfl, rfl, rfl, w0⟩ := open_string Try.underlying9 (hval 0 9 v0 rfl rfl) h0
  have z0 : a0.size ≤ 140737488351232 := by
    have := sized_string hsz (j := 0) (t := 9) rfl rfl
    simpa [reachBytes] using this
  obtain ⟨a1, rfl, rfl, rfl, w1⟩ := open_int Try.underlying3 (hval 1 3 v1 rfl rfl) h1
  obtain ⟨a2, rfl, rfl, rfl, w2⟩ := open_int Try.underlying3 (hval 2 3 v2 rfl rfl) h2
  clear hA0 hval0
  refine (bitsPeeks_walk a0 a1 a2 W z0 w1 w2).mono fun e W' ⟨he, bel⟩ => ?_
  subst he
  exact ⟨_, rfl, _, _, _, [], _, [], hW', trodAll_mk1 (shut_bool Try.underlying4 _), (trodAll_cons_mk (shut_string Try.underlying9 w0) (trodAll_cons_mk (shut_int Try.underlying3 w1) (trodAll_cons_mk (shut_int Try.underlying3 w2) trodAll_mk0))), rfl, bel.frame _, fun h => by cases h⟩

theorem bitsPeeks_holds : Rows.BitsPeeksSaid :=
  OpenClaim.holds_of_wide 7 Try.f7 rfl rfl rfl rfl rfl rfl rfl ⟨rfl, rfl, rfl, rfl, rfl⟩ rfl rfl rfl rfl rfl (by kernel_rfl) Try.func7 (by kernel_rfl)
    (of_decide_eq_true (by kernel_rfl)) (by unfold Func.isWrapper; first | (rw [if_pos (by decide +kernel)]; kernel_rfl) | (rw [if_neg (by decide +kernel)]; exact ⟨rfl, rfl⟩))
    (fun os started H enc _ => bitsPeeks_lifted os started H enc)
#print axioms bitsPeeks_holds
end Go.Proofs.Ytcpjbagljpohnaa
