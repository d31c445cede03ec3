/- take: conditions: the text fits into memory, the library's variables lie there. -/
import Derived.Test.YtmeekjfnmdbnpaaDoorNm
namespace Go.Proofs.YtmeekjfnmdbnpaaDoor
open Go.RowKit
open Go.Lib

/-- What take tells. -/
def tkV (s : Bs) : Value := match tk s with
  | some (t, r) => .tuple #[sv t, sv r, .bool true]
  | none => .tuple #[sv [], sv [], .bool false]
theorem cutD_le (s : Bs) : (cutD s).length ≤ s.length := by
  unfold cutD
  split
  · rw [List.length_take]; omega
  · exact Nat.le_refl _
theorem cutR_le (s : Bs) : (cutR s).length ≤ s.length := by
  unfold cutR
  split
  · rw [List.length_drop]; omega
  · exact Nat.zero_le _
set_option maxRecDepth 100000 in
set_option maxHeartbeats 4000000 in
theorem take_any (s : ByteArray) (hs : s.size ≤ 140737488355328) (w : World) (hx : Sx w) :
    Calls Tryd.prog 21 #[.string s] w fun e w' => e = .returned (tkV s.data.toList) ∧ Touch (fun _ => False) w w' := by
  have K := hid (cut_any s w hs)
  obtain ⟨D, hD, hDs, hDd⟩ := name_ba (cutD s.data.toList)
  obtain ⟨R, hR, hRs, hRd⟩ := name_ba (cutR s.data.toList)
  rw [hD, hR] at K
  have hl1 := cutD_le s.data.toList
  have hl2 := cutR_le s.data.toList
  rw [len_size] at hl1 hl2
  have K2 := hid (fun w1 (t1 : Touch (fun _ => False) w w1) => readNumber_any D (by omega) w1 (hx.new t1))
  rw [hDd] at K2
  have hRb : R.size ≤ 140737488355328 := by omega
  clear hl1 hl2 hD hR hDs hDd
  cases hn : rn (cutD s.data.toList) with
  | none =>
    have HV := hid (show tkV s.data.toList = .tuple #[sv [], sv [], .bool false] by
      unfold tkV tk
      rw [hn])
    unfold rnV at K2
    rw [hn] at K2
    dsimp only at K2
    clear hn hRs hRd
    go_enter Tryd.func21, Tryd.ntmps21
    go_wp2_with (first
      | (go_at_call 28; refine K.out.mono ?_; rintro e w1 ⟨⟨f, rfl⟩, t1⟩; have T1 := hid t1; clear t1 K)
      | (go_at_call 29; refine (K2.out _ T1.out).mono ?_; rintro e w2 ⟨rfl, t2⟩; have T2 := hid (T1.out.trans t2 (fun _ _ e => e)); clear t2 K2))
    refine bodyPost_ret (results_tmp3 rfl _ _ _) rfl ?_
    exact ⟨by rw [HV.out]; rfl, T2.out⟩
  | some n =>
    unfold rnV at K2
    rw [hn] at K2
    dsimp only at K2
    have hnb := ((rn_iff _ _).1 hn).2
    by_cases hbad : n < 0 ∨ 9999999 < n ∨ (R.size : Int) < n
    · have HV := hid (show tkV s.data.toList = .tuple #[sv [], sv [], .bool false] by
        unfold tkV tk
        rw [hn]
        dsimp only
        rw [if_pos (by rw [← hRs]; exact hbad)])
      clear hn hRs hRd
      by_cases h0 : n < 0
      · go_enter Tryd.func21, Tryd.ntmps21
        go_wp2_with (first
          | (go_at_call 28; refine K.out.mono ?_; rintro e w1 ⟨⟨f, rfl⟩, t1⟩; have T1 := hid t1; clear t1 K)
          | (go_at_call 29; refine (K2.out _ T1.out).mono ?_; rintro e w2 ⟨rfl, t2⟩; have T2 := hid (T1.out.trans t2 (fun _ _ e => e)); clear t2 K2))
        refine bodyPost_ret (results_tmp3 rfl _ _ _) rfl ?_
        exact ⟨by rw [HV.out]; rfl, T2.out⟩
      · have hgt : min 9999999 (R.size : Int) < n := by omega
        clear hbad
        go_enter Tryd.func21, Tryd.ntmps21
        go_wp2_with (first
          | (go_at_call 28; refine K.out.mono ?_; rintro e w1 ⟨⟨f, rfl⟩, t1⟩; have T1 := hid t1; clear t1 K)
          | (go_at_call 29; refine (K2.out _ T1.out).mono ?_; rintro e w2 ⟨rfl, t2⟩; have T2 := hid (T1.out.trans t2 (fun _ _ e => e)); clear t2 K2))
        refine bodyPost_ret (results_tmp3 rfl _ _ _) rfl ?_
        exact ⟨by rw [HV.out]; rfl, T2.out⟩
    · have h0 : ¬ n < 0 := fun e => hbad (.inl e)
      have h9 : ¬ 9999999 < n := fun e => hbad (.inr (.inl e))
      have hR2 : ¬ (R.size : Int) < n := fun e => hbad (.inr (.inr e))
      obtain ⟨m, rfl⟩ : ∃ m : Nat, n = (m : Int) := ⟨n.toNat, by omega⟩
      have hgt : ¬ min 9999999 (R.size : Int) < (m : Int) := by omega
      have hm1 : m ≤ R.size := by omega
      have hmI : (m : Int) ≤ (R.size : Int) := by omega
      have hext : (R.extract m R.size).data.toList = (cutR s.data.toList).drop m := by
        rw [ext_list, hRd, List.take_of_length_le (by rw [List.length_drop, ← hRs]; exact Nat.le_refl _)]
      have K3 := hid (fun w2 => cutPrefix_any (R.extract m R.size) w2)
      rw [hext] at K3
      have e0 : Value.string (R.extract 0 m) = sv ((cutR s.data.toList).take m) := by
        rw [show R.extract 0 m = (⟨((cutR s.data.toList).take m).toArray⟩ : ByteArray) from ba_eq (by rw [ext_list, hRd]; simp)]
        rfl
      have E0 := hid e0
      clear e0
      by_cases hp : ([44] : Bs).isPrefixOf ((cutR s.data.toList).drop m) = true
      · have HV := hid (show tkV s.data.toList = .tuple #[sv ((cutR s.data.toList).take m), sv ((cutR s.data.toList).drop (m + 1)), .bool true] by
          unfold tkV tk
          rw [hn]
          dsimp only
          rw [if_neg (by rw [← hRs]; exact hbad), Int.toNat_natCast, if_pos hp])
        rw [if_pos hp, hp, List.drop_drop] at K3
        obtain ⟨B2, hB2, _, _⟩ := name_ba ((cutR s.data.toList).drop (m + 1))
        rw [hB2] at K3 HV
        clear hbad hn hRs hRd hext hp hB2
        go_enter Tryd.func21, Tryd.ntmps21
        go_wp2_with (first
          | (go_at_call 28; refine K.out.mono ?_; rintro e w1 ⟨⟨f, rfl⟩, t1⟩; have T1 := hid t1; clear t1 K)
          | (go_at_call 29; refine (K2.out _ T1.out).mono ?_; rintro e w2 ⟨rfl, t2⟩; have T2 := hid (T1.out.trans t2 (fun _ _ e => e)); clear t2 K2)
          | (go_at_call 30; refine (K3.out _).mono ?_; rintro e w3 ⟨rfl, rfl⟩; clear K3))
        refine bodyPost_ret (results_tmp3 rfl _ _ _) rfl ?_
        exact ⟨by rw [HV.out, ← E0.out]; rfl, T2.out⟩
      · have HV := hid (show tkV s.data.toList = .tuple #[sv [], sv [], .bool false] by
          unfold tkV tk
          rw [hn]
          dsimp only
          rw [if_neg (by rw [← hRs]; exact hbad), Int.toNat_natCast, if_neg hp])
        rw [if_neg hp, show ([44] : Bs).isPrefixOf ((cutR s.data.toList).drop m) = false from Bool.eq_false_iff.2 hp] at K3
        obtain ⟨B2, hB2, _, _⟩ := name_ba ((cutR s.data.toList).drop m)
        rw [hB2] at K3
        clear hbad hn hRs hRd hext hp hB2
        go_enter Tryd.func21, Tryd.ntmps21
        go_wp2_with (first
          | (go_at_call 28; refine K.out.mono ?_; rintro e w1 ⟨⟨f, rfl⟩, t1⟩; have T1 := hid t1; clear t1 K)
          | (go_at_call 29; refine (K2.out _ T1.out).mono ?_; rintro e w2 ⟨rfl, t2⟩; have T2 := hid (T1.out.trans t2 (fun _ _ e => e)); clear t2 K2)
          | (go_at_call 30; refine (K3.out _).mono ?_; rintro e w3 ⟨rfl, rfl⟩; clear K3))
        refine bodyPost_ret (results_tmp3 rfl _ _ _) rfl ?_
        exact ⟨by rw [HV.out]; rfl, T2.out⟩
end Go.Proofs.YtmeekjfnmdbnpaaDoor
