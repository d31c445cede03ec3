/- readNumber, take: conditions: the texts fit into memory, the library's variables lie there. -/
import Derived.Test.YtmeekjfnmdbnpaaDoorLi
namespace Go.Proofs.YtmeekjfnmdbnpaaDoor
open Go.RowKit
open Go.Lib

theorem name_ba (l : Bs) : ∃ T : ByteArray, sv l = .string T ∧ T.size = l.length ∧ T.data.toList = l := ⟨⟨l.toArray⟩, rfl, by show l.toArray.size = _; simp, by simp⟩
/-- What readNumber tells. -/
def rnV (s : Bs) : Value := match rn s with
  | some n => .tuple #[.int .i64 n, .bool true]
  | none => .tuple #[.int .i64 0, .bool false]
set_option maxRecDepth 100000 in
set_option maxHeartbeats 4000000 in
theorem readNumber_any (s : ByteArray) (hs : s.size ≤ 140737488355328) (w : World) (hx : Sx w) :
    Calls Tryd.prog 29 #[.string s] w fun e w' => e = .returned (rnV s.data.toList) ∧ Touch (fun _ => False) w w' := by
  have K := hid (trimPrefix_any s w)
  obtain ⟨T, hT, hTs, _⟩ := name_ba (trimM s.data.toList)
  rw [hT] at K
  by_cases h18 : 18 < (trimM s.data.toList).length
  · have hr : rn s.data.toList = none := by unfold rn; rw [if_pos h18]
    have HV := hid (show rnV s.data.toList = .tuple #[.int .i64 0, .bool false] by unfold rnV; rw [hr])
    have hgt : (18 : Int) < (T.size : Int) := by omega
    clear hr h18 hTs hT
    go_enter Tryd.func29, Tryd.ntmps29
    go_wp2_with (go_at_call 38; refine K.out.mono ?_; rintro e w' ⟨rfl, rfl⟩)
    refine bodyPost_ret (results_tmp2 rfl _ _ _) rfl ?_
    exact ⟨by rw [HV.out]; rfl, Touch.refl _ _⟩
  · have hgt : ¬ (18 : Int) < (T.size : Int) := by omega
    have K2 := hid (atoi_any s hs w hx)
    have HX := hid hx
    clear hTs hT hx
    cases ha : atoiAll s.data.toList with
    | ok n =>
      obtain ⟨b0, b1⟩ := Lib.atoiAll_bounds ha
      obtain ⟨I, hI, _, hId⟩ := name_ba (itoa n)
      have HR := hid (show rn s.data.toList = if itoa n = s.data.toList then some n else none by unfold rn; rw [if_neg h18, ha])
      have K3 : Hid (Calls Tryd.prog 39 #[.string s] w fun e w' => e = .returned (.tuple #[.int .i64 n, .nilIface]) ∧ Touch (fun _ => False) w w') := hid (K2.out.mono (by
        rintro e w' ⟨v, rfl, hv, t⟩
        unfold atV at hv
        rw [ha] at hv
        exact ⟨by rw [hv], t⟩))
      clear K2 ha h18
      cases he : (I.toList == s.toList) with
      | true =>
        have HV := hid (show rnV s.data.toList = .tuple #[.int .i64 n, .bool true] by
          have e1 := beq_iff_eq.1 he
          rw [toList_data, toList_data, hId] at e1
          unfold rnV
          rw [HR.out, if_pos e1])
        clear hId HR
        go_enter Tryd.func29, Tryd.ntmps29
        go_wp2_with (first
          | (go_at_call 38; refine K.out.mono ?_; rintro e w' ⟨rfl, rfl⟩)
          | (go_at_call 39; refine K3.out.mono ?_; rintro e w1 ⟨rfl, t1⟩; have T1 := hid t1; clear t1)
          | (go_at_call 27; have K4 := hid (itoa_any n (by omega) (by omega) _ (HX.out.new T1.out)); rw [hI] at K4; refine K4.out.mono ?_; rintro e w2 ⟨rfl, t2⟩; have T2 := hid (T1.out.trans t2 (fun _ _ e => e)); clear t2 K4))
        refine bodyPost_ret (results_tmp2 rfl _ _ _) rfl ?_
        exact ⟨by rw [HV.out]; rfl, T2.out⟩
      | false =>
        have HV := hid (show rnV s.data.toList = .tuple #[.int .i64 0, .bool false] by
          have e1 := beq_eq_false_iff_ne.1 he
          rw [toList_data, toList_data, hId] at e1
          unfold rnV
          rw [HR.out, if_neg e1])
        clear hId HR
        go_enter Tryd.func29, Tryd.ntmps29
        go_wp2_with (first
          | (go_at_call 38; refine K.out.mono ?_; rintro e w' ⟨rfl, rfl⟩)
          | (go_at_call 39; refine K3.out.mono ?_; rintro e w1 ⟨rfl, t1⟩; have T1 := hid t1; clear t1)
          | (go_at_call 27; have K4 := hid (itoa_any n (by omega) (by omega) _ (HX.out.new T1.out)); rw [hI] at K4; refine K4.out.mono ?_; rintro e w2 ⟨rfl, t2⟩; have T2 := hid (T1.out.trans t2 (fun _ _ e => e)); clear t2 K4))
        refine bodyPost_ret (results_tmp2 rfl _ _ _) rfl ?_
        exact ⟨by rw [HV.out]; rfl, T2.out⟩
    | «syntax» =>
      have HV := hid (show rnV s.data.toList = .tuple #[.int .i64 0, .bool false] by
        unfold rnV rn
        rw [if_neg h18, ha])
      have K3 : Hid (Calls Tryd.prog 39 #[.string s] w fun e w' => (∃ n a, e = .returned (.tuple #[.int .i64 n, .iface 118 (.pointer a)])) ∧ Touch (fun _ => False) w w') := hid (K2.out.mono (by
        rintro e w' ⟨v, rfl, hv, t⟩
        unfold atV at hv
        rw [ha] at hv
        obtain ⟨n, a, rfl⟩ := hv
        exact ⟨⟨n, a, rfl⟩, t⟩))
      clear K2 ha h18
      go_enter Tryd.func29, Tryd.ntmps29
      go_wp2_with (first
        | (go_at_call 38; refine K.out.mono ?_; rintro e w' ⟨rfl, rfl⟩)
        | (go_at_call 39; refine K3.out.mono ?_; rintro e w1 ⟨⟨n, a, rfl⟩, t1⟩; have T1 := hid t1; clear t1))
      refine bodyPost_ret (results_tmp2 rfl _ _ _) rfl ?_
      exact ⟨by rw [HV.out]; rfl, T1.out⟩
    | range =>
      have HV := hid (show rnV s.data.toList = .tuple #[.int .i64 0, .bool false] by
        unfold rnV rn
        rw [if_neg h18, ha])
      have K3 : Hid (Calls Tryd.prog 39 #[.string s] w fun e w' => (∃ n a, e = .returned (.tuple #[.int .i64 n, .iface 118 (.pointer a)])) ∧ Touch (fun _ => False) w w') := hid (K2.out.mono (by
        rintro e w' ⟨v, rfl, hv, t⟩
        unfold atV at hv
        rw [ha] at hv
        obtain ⟨n, a, rfl⟩ := hv
        exact ⟨⟨n, a, rfl⟩, t⟩))
      clear K2 ha h18
      go_enter Tryd.func29, Tryd.ntmps29
      go_wp2_with (first
        | (go_at_call 38; refine K.out.mono ?_; rintro e w' ⟨rfl, rfl⟩)
        | (go_at_call 39; refine K3.out.mono ?_; rintro e w1 ⟨⟨n, a, rfl⟩, t1⟩; have T1 := hid t1; clear t1))
      refine bodyPost_ret (results_tmp2 rfl _ _ _) rfl ?_
      exact ⟨by rw [HV.out]; rfl, T1.out⟩
end Go.Proofs.YtmeekjfnmdbnpaaDoor
