/- BitsAligned: for every two numbers and every string, whole bytes begin at the next whole byte, put and taken; no condition. -/
import Derived.Test.YtcpjbagljpohnabRows
import Derived.WalkKit
import Derived.ProofKit
import Derived.OpenShut
import Derived.ShutString
import Derived.ChangeOld
import Derived.Below
import Derived.SizedLaws
import Derived.Test.YtcpjbagljpohnabSpk
import Derived.Test.YtcpjbagljpohnabTake
import Derived.Test.YtcpjbagljpohnabWbytes
import Derived.Test.YtcpjbagljpohnabAmath
namespace Go.Proofs.Ytcpjbagljpohnab
open Go.ChangeShapes Go.WideShapes Go.ChangeAt Go.RowKit
open Go.ChangeMaps (open_string shut_string)

theorem own : ownKnob Try.prog.godebug = none := by kernel_rfl
theorem i64_and31 (n : Int) : bits .and .i64 n 31 = n % 32 := i64_and_mask n 5 (by decide)
theorem and_pow (x : Int) (m : Nat) (hm : m ≤ 32) : bits .and .i64 x (wrap64 (wrap64 (2 ^ m) - 1)) = x % 2 ^ m := by
  have hp : 2 ^ m ≤ 2 ^ 32 := Nat.pow_le_pow_right (by decide) hm
  have hp0 : 0 < 2 ^ m := Nat.pow_pos (by decide)
  have hc : (2 : Int) ^ m = ((2 ^ m : Nat) : Int) := by simp
  have e : wrap64 (wrap64 (2 ^ m) - 1) = 2 ^ m - 1 := by rw [hc]; unfold wrap64; omega
  rw [e, i64_and_mask _ m (by omega)]
theorem Still.below {w w' : World} (h : Still w w') (B : Nat) : Below B w w' := ⟨h.os, h.tape, h.output, by rw [h.heap]; exact Nat.le_refl _, fun k _ => by rw [h.heap]⟩

/-- What is put in all. -/
def allBits (v : Int) (n : Nat) (s : ByteArray) : List Bool := Bt.behind ((List.range n).map (ibit v)) s ++ [true]

theorem length_allBits (v : Int) (n : Nat) (s : ByteArray) : (allBits v n s).length = 8 * ((n + 7) / 8 + s.size) + 1 := by
  simp [allBits, Bt.length_behind]

theorem size_all (v : Int) (n : Nat) (s : ByteArray) : (strOf (Bt.pack (allBits v n s))).size = (n + 7) / 8 + s.size + 1 := by
  rw [size_strOf, Bt.length_pack, length_allBits]
  omega

theorem first_bits (v : Int) (n : Nat) (s : ByteArray) : ((Bt.rval (strOf (Bt.pack (allBits v n s))) 0 n : Nat) : Int) = v % 2 ^ n := by
  rw [Bt.rval_pack _ _ _ (by rw [length_allBits]; omega), List.drop_zero]
  have e : (allBits v n s).take n = (List.range n).map (ibit v) := by
    unfold allBits Bt.behind
    simp only [List.append_assoc]
    exact List.take_left' (by simp)
  rw [e, Bt.val_ibit]

theorem last_bit (v : Int) (n : Nat) (s : ByteArray) : Bt.rval (strOf (Bt.pack (allBits v n s))) (8 * ((n + 7) / 8 + s.size)) 1 = 1 := by
  rw [Bt.rval_pack _ _ _ (by rw [length_allBits]; omega)]
  have e : (allBits v n s).drop (8 * ((n + 7) / 8 + s.size)) = [true] := by
    unfold allBits
    exact List.drop_left' (by simp [Bt.length_behind])
  rw [e]
  rfl

theorem mid_bytes (v : Int) (n : Nat) (s : ByteArray) : (strOf (Bt.pack (allBits v n s))).extract ((n + 7) / 8) ((n + 7) / 8 + s.size) = s := by
  unfold allBits
  rw [Bt.pack_new _ _ (by rw [Bt.length_behind]; omega), Bt.pack_behind]
  exact Bt.extract_mid _ _ _ _ (by rw [Bt.length_pack]; simp)

theorem wr_beside {w w' : World} {b : Nat} {bs : List Bool} {s : ByteArray} {t : Nat} (h : Wr w b bs) (k : RStep (w.alloc (.cells #[.string s, .int .i64 0] 61)) w' w.heap.size s t) : Wr w' b bs :=
  h.kept fun i hi => by
    have hlt := h.fp_lt hi
    rw [k.touch.block i (by simp; omega) (by omega), Below.heap_alloc _ _ _ hlt]

theorem below_rnew {w0 w w' : World} {s : ByteArray} {t : Nat} (hb : Below w0.heap.size w0 w) (h : RStep (w.alloc (.cells #[.string s, .int .i64 0] 61)) w' w.heap.size s t) : Below w0.heap.size w0 w' :=
  (hb.alloc hb.size _).trans (h.touch.below w0.heap.size (by have := hb.size; simp; omega) (fun k e => by have := hb.size; omega))

set_option maxRecDepth 100000 in
set_option maxHeartbeats 1000000 in
theorem bitsAligned_walk (a0 a1 : Int) (s : ByteArray) (w : World) (_w0 : (Lit.int .i64 a0).wf = true) (_w1 : (Lit.int .i64 a1).wf = true) (hs : s.size ≤ 140737488351232) :
    Calls Try.prog 3 #[.int .i64 a0, .int .i64 a1, .string s] w fun e w' => e = .returned (.bool true) ∧ Below w.heap.size w w' := by
  go_enter Try.func3, Try.ntmps3
  go_wp2_with fail
  refine (speaks_any _).mono ?_
  rintro e w1 ⟨rfl, hb⟩
  have HB : Hid _ := hb
  clear hb
  go_wp2_with fail
  rw [i64_and31]
  obtain ⟨n, hn, hle⟩ : ∃ n : Nat, a1 % 32 = n ∧ n ≤ 31 := ⟨(a1 % 32).toNat, by omega, by omega⟩
  rw [hn]
  clear hn
  refine (put_yes w1.heap.size [] a0 n _ wr_new (by simp; omega) (by omega)).mono ?_
  rintro e w2 ⟨rfl, s2⟩
  have S2 : Hid _ := s2
  clear s2
  go_wp2_with fail
  refine (wbytes_any w1.heap.size _ s _ S2.out.wr (by simp; omega)).mono ?_
  rintro e w3 ⟨rfl, s3⟩
  have S3 : Hid _ := S2.out.trans s3
  clear S2 s3
  go_wp2_with fail
  refine (put_int w1.heap.size _ 1 1 _ S3.out.wr (by decide) (by decide) (by rw [Bt.length_behind]; simp; omega)).mono ?_
  rintro e w4 ⟨rfl, s4⟩
  have S4 : Hid _ := S3.out.trans s4
  clear S3 s4
  have e4 : Bt.behind ([] ++ (List.range n).map (ibit a0)) s ++ (List.range (1 : Int).toNat).map (ibit 1) = allBits a0 n s := rfl
  rw [e4] at S4
  clear e4
  go_wp2_with fail
  refine (all_any _ _ _ S4.out.wr).mono ?_
  rintro e w5 ⟨rfl, rfl⟩
  obtain ⟨S, hS⟩ : ∃ S, strOf (Bt.pack (allBits a0 n s)) = S := ⟨_, rfl⟩
  have hsz := size_all a0 n s
  have f1 := first_bits a0 n s
  have f2 := mid_bytes a0 n s
  have f3 := last_bit a0 n s
  rw [hS] at hsz f1 f2 f3 ⊢
  have HS : Hid _ := hS
  have F1 : Hid _ := f1
  have F2 : Hid _ := f2
  have F3 : Hid _ := f3
  clear hS f1 f2 f3
  go_wp2_with fail
  refine (open_any _ _).mono ?_
  rintro e w6 ⟨rfl, rfl⟩
  have R0 : Hid _ := RStep.refl (rd_new w5 S)
  go_wp2_with fail
  refine (take_yes w5.heap.size S 0 n _ R0.out.rd (by omega) (by omega) (by omega)).mono ?_
  rintro e w7 ⟨rfl, k⟩
  have R1 : Hid _ := R0.out.trans k
  clear R0 k
  rw [F1.out]
  go_wp2_with fail
  refine (rbytes_yes w5.heap.size S (0 + n) s.size _ R1.out.rd (by omega) (by omega) (by omega)).mono ?_
  rintro e w8 ⟨rfl, k⟩
  have R2 : Hid _ := R1.out.trans k
  clear R1 k
  rw [Nat.zero_add] at R2 ⊢
  rw [F2.out]
  go_wp2_with fail
  refine (take_yes w5.heap.size S _ 1 _ R2.out.rd (by omega) (by omega) (by omega)).mono ?_
  rintro e w9 ⟨rfl, k⟩
  have R3 : Hid _ := R2.out.trans k
  clear R2 k
  rw [F3.out]
  have hand := and_pow a0 n (by omega)
  go_wp2_with fail
  refine (all_any _ _ _ (wr_beside S4.out.wr R3.out)).mono ?_
  rintro e w10 ⟨rfl, rfl⟩
  rw [HS.out]
  go_wp2
  go_ret
  exact ⟨ret_bool (by simp), below_rnew (HB.out.trans ((below_new S4.out).mono HB.out.size)) R3.out⟩

set_option maxRecDepth 100000 in
theorem bitsAligned_lifted (os : Os) (started : os.Started) (H : Type) (enc : TypeId × Value → H) :
    ReturnsInHanded {} Try.checked os 3 .any (Rows.bitsAlignedSpec.pre6 enc Try.prog Try.f3 Rows.bitsAlignedRow.domain false) (Rows.bitsAlignedSpec.post enc Try.prog Try.f3 false true false false) := by
  refine returnsInHanded_of_change_sized (C := Try.checked) own started (by kernel_rfl) Try.func3
    (ChangeSpec.witness6 (enc := enc) (C := Try.checked) false ⟨#[], #[.int .i64 0, .int .i64 0, .string ByteArray.empty], []⟩ 8 (by kernel_rfl) (by kernel_rfl) (by kernel_rfl) (by kernel_rfl)) ?_
  intro W base args ds gs before hval0 hW hcnd hsz0 _
  have hsz : (DataW.weightsEach Try.prog (Try.f3.params.toList ++ Rows.bitsAlignedSpec.plain.varTypes Try.prog) (ds ++ gs)).all (· ≤ reachBytes) = true := hsz0
  clear hsz0
  have hval : ∀ (j : Nat) t v, Try.f3.params[j]? = some t → args[j]? = some v → Value.okWide Try.prog W .any base t v := hval0
  have hW' := hW
  obtain ⟨p, q, hA0, hV, rfl, hfz, hnd⟩ := hW
  have hA : DataW.TrodAll enc Try.prog W 0 (fun _ => true) true Try.f3.params.toList args.toList ds p := hA0
  rw [Try.params3] at hA hval hsz
  obtain ⟨v0, vs0, d0, ds0, p0, q0, hargs, rfl, rfl, h0, r0⟩ := trodAll_cons hA
  obtain ⟨v1, vs1, d1, ds1, p1, q1, rfl, rfl, rfl, h1, r1⟩ := trodAll_cons r0
  obtain ⟨v2, vs2, d2, ds2, p2, q2, rfl, rfl, rfl, h2, r2⟩ := trodAll_cons r1
  obtain ⟨rfl, rfl, rfl⟩ := trodAll_nil r2
  obtain rfl : args = #[v0, v1, v2] := by cases args; simp_all
  obtain ⟨rfl, rfl⟩ := trodVars_none hV
  obtain ⟨a0, rfl, rfl, rfl, w0⟩ := open_int Try.underlying3 (hval 0 3 v0 rfl rfl) h0
  obtain ⟨a1, rfl, rfl, rfl, w1⟩ := open_int Try.underlying3 (hval 1 3 v1 rfl rfl) h1
  obtain ⟨a2, rfl, rfl, rfl, w2⟩ := open_string Try.underlying9 (hval 2 9 v2 rfl rfl) h2
  have z2 : a2.size ≤ 140737488351232 := by
    have := sized_string hsz (j := 2) (t := 9) rfl rfl
    simpa [reachBytes] using this
  clear hA0 hval0
  refine (bitsAligned_walk a0 a1 a2 W w0 w1 z2).mono fun e W' ⟨he, bel⟩ => ?_
  subst he
  exact ⟨_, rfl, _, _, _, [], _, [], hW', trodAll_mk1 (shut_bool Try.underlying4 _), (trodAll_cons_mk (shut_int Try.underlying3 w0) (trodAll_cons_mk (shut_int Try.underlying3 w1) (trodAll_cons_mk (shut_string Try.underlying9 w2) trodAll_mk0))), rfl, bel.frame _, fun h => by cases h⟩

theorem bitsAligned_holds : Rows.BitsAlignedSaid :=
  OpenClaim.holds_of_wide 3 Try.f3 rfl rfl rfl rfl rfl rfl rfl ⟨rfl, rfl, rfl, rfl, rfl⟩ rfl rfl rfl rfl rfl (by kernel_rfl) Try.func3 (by kernel_rfl)
    (of_decide_eq_true (by kernel_rfl)) (by unfold Func.isWrapper; first | (rw [if_pos (by decide +kernel)]; kernel_rfl) | (rw [if_neg (by decide +kernel)]; exact ⟨rfl, rfl⟩))
    (fun os started H enc _ => bitsAligned_lifted os started H enc)
#print axioms bitsAligned_holds
end Go.Proofs.Ytcpjbagljpohnab
