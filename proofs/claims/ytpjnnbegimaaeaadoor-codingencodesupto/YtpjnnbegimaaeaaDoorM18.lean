/- Texts of this proof, one behind the other: what each says stands ahead of it. -/
import Derived.Test.YtpjnnbegimaaeaaDoorM16
import Derived.Test.YtpjnnbegimaaeaaDoorM17
/- CodingEncodes' walk in one coding (its number: 4); conditions: those told. -/
namespace Go.Proofs.YtpjnnbegimaaeaaDoor
open Go.RowKit
open Go.Lib

set_option maxRecDepth 100000 in
set_option maxHeartbeats 8000000 in
theorem codingEncodes_4 (a : Option Addr) (k : Nat) (l : List Int) (mark : Bool) (w : World) (ht : Tabs w) (hx : Ix w a l) (hb : l.length ≤ 1048576) : Calls Tryd.prog 6 #[.slice a l.length k, .int .i64 4, .bool mark] w fun e w' => e = .returned (.bool true) ∧ Touch (fun _ => False) w w' := by
  have HT := hid ht
  have HX := hid hx
  clear ht hx
  go_enter Tryd.func6, Tryd.ntmps6
  go_wp2_with fail
  refine (speaks_yes w HT.out).mono ?_
  rintro e w1 ⟨rfl, t1⟩
  have TC := hid t1
  clear t1
  have ON := hid (OwI.none w1)
  have HX2 := hid ((HX.out.new TC.out).new ON.out.touch)
  go_wp2_with (at_builtin; refine wpList_append_ix _ rfl _ _ rfl _ 0 [] rfl ON.out.own a k l _ rfl rfl HX2.out (by omega) ?_)
  intro v2 w2 hown hgrow hat
  have O2 := hid (show OwI w1 w2 v2 l from ON.out.grow (e := []) (by simpa [encI] using hown) hgrow (hat.imp id (fun e => e.trans (by simp))))
  clear hown hgrow hat ON HX2
  obtain ⟨a2, k2, hv2, hg2⟩ := O2.out.sh
  subst hv2
  have T2 := hid (TC.out.trans O2.out.touch (fun _ _ e => e))
  have HI := hid (show Ix w2 a2 l from hg2.elim .inl Ig.ix)
  have KE := hid (encode_4 a2 k2 l mark w2 (HT.out.new T2.out) hg2 hb)
  have KR := hid (fun w3 hx3 => rencode_4 a k l mark w3 hx3 hb)
  clear hg2 O2 TC
  cases hall : l.all (okc 4)
  · rw [encR_no hall] at KE KR
    clear hall
    go_wp2_with fail
    refine KE.out.mono ?_
    rintro e w3 ⟨rfl, t3⟩
    have T3 := hid (T2.out.trans t3 (fun _ _ e => e))
    replace HI := hid (HI.out.new t3)
    clear t3 T2 KE
    go_wp2_with fail
    refine (KR.out w3 (HX.out.new T3.out)).mono ?_
    rintro e w4 ⟨rfl, t4⟩
    have T4 := hid (T3.out.trans t4 (fun _ _ e => e))
    replace HI := hid (HI.out.new t4)
    clear t4 T3 KR
    go_wp2_with fail
    refine (ints_ix a2 a k2 k l.length l.length l w4 HI.out (HX.out.new T4.out) rfl rfl (by omega)).mono ?_
    rintro e w5 ⟨rfl, t5⟩
    have T5 := hid (T4.out.trans t5 (fun _ _ e => e))
    clear t5 T4
    go_wp2
    go_ret
    exact ⟨rfl, T5.out⟩
  · rw [encR_yes (by decide) hall] at KE KR
    have hsz := encS_size (c := 4) (by decide) mark hall
    obtain ⟨hl1, hl2⟩ := encS_lay (c := 4) (by decide) mark hall
    have KD : Hid (∀ w3, Tabs w3 → Calls Tryd.prog 10 #[.string (encS 4 mark l), .int .i64 4, .bool true] w3 fun e w' => ∃ a1 n1 k1 a2 n2 k2, e = .returned (.tuple #[.agg #[.int .i64 4, .slice a1 n1 k1, .slice a2 n2 k2, .int .i64 0], .agg #[.int .i64 0, .int .i64 0]]) ∧ n1 = (dropM 4 (fullL 4 mark l)).length ∧ Ix w' a1 (dropM 4 (fullL 4 mark l)) ∧ Touch (fun _ => False) w3 w') :=
      hid (fun w3 ht3 => decode_same 4 (by decide) (fullL 4 mark l) (full_ok 4 (by decide) mark l hall) (encS 4 mark l) hl1 hl2 w3 ht3 (by omega))
    rw [full_drop] at KD
    obtain ⟨m, hm⟩ : ∃ m, m = (if 4 ≠ 4 ∧ mark = false ∧ l.head? = some 65279 then l.tail else l) := ⟨_, rfl⟩
    have hml : m.length ≤ 1048576 := by
      rw [hm]
      split
      · rw [List.length_tail]
        omega
      · exact hb
    rw [← hm] at KD
    have HM := hid hm
    clear hall hl1 hl2 hsz hm
    generalize encS 4 mark l = s at *
    go_wp2_with fail
    refine KE.out.mono ?_
    rintro e w3 ⟨rfl, t3⟩
    have T3 := hid (T2.out.trans t3 (fun _ _ e => e))
    replace HI := hid (HI.out.new t3)
    clear t3 T2 KE
    go_wp2_with fail
    refine (KR.out w3 (HX.out.new T3.out)).mono ?_
    rintro e w4 ⟨rfl, t4⟩
    have T4 := hid (T3.out.trans t4 (fun _ _ e => e))
    replace HI := hid (HI.out.new t4)
    clear t4 T3 KR
    go_wp2_with fail
    refine (ints_ix a2 a k2 k l.length l.length l w4 HI.out (HX.out.new T4.out) rfl rfl (by omega)).mono ?_
    rintro e w5 ⟨rfl, t5⟩
    have T5 := hid (T4.out.trans t5 (fun _ _ e => e))
    clear t5 T4 HI
    go_wp2_with fail
    refine (KD.out w5 (HT.out.new T5.out)).mono ?_
    rintro e w6 ⟨a1, n1, k1, a3, n3, k3, rfl, hn1, hi, t6⟩
    have T6 := hid (T5.out.trans t6 (fun _ _ e => e))
    have HI := hid hi
    have HN := hid hn1
    clear hi hn1 t6 KD T5
    have B1 := hid (RB2.made w6 (.int .i64 4) (.slice a1 n1 k1) (.slice a3 n3 k3) (.int .i64 0) (.int .i64 0) (.int .i64 0))
    have TA := hid (((Touch.refl (fun _ => False) w6).alloc (.cells #[.int .i64 4, .slice a1 n1 k1, .slice a3 n3 k3, .int .i64 0] 25)).alloc (.cells #[.int .i64 0, .int .i64 0] 28))
    go_upto_region 11 with fail
    generalize ((w6.alloc (.cells #[.int .i64 4, .slice a1 n1 k1, .slice a3 n3 k3, .int .i64 0] 25)).alloc (.cells #[.int .i64 0, .int .i64 0] 28)) = w7 at *
    obtain ⟨q, hq⟩ : ∃ q, q = w6.heap.size := ⟨_, rfl⟩
    rw [← hq] at B1 ⊢
    clear hq
    have T7 := hid (T6.out.trans TA.out (fun _ _ e => e))
    replace HI := hid (HI.out.new TA.out)
    have HX7 := hid (HX.out.new T7.out)
    clear T6 TA HX
    have hm : m = l := by rw [HM.out, if_neg (fun e => e.1 rfl)]
    have HMM := hid hm
    clear hm
    obtain ⟨⟨q0, q1, q2, q3⟩, _⟩ := four_cells' B1.out.a
    obtain ⟨⟨p0, p1⟩, _⟩ := two_cells B1.out.b
    have KI := hid (ints_ix a1 (a) k1 (k) n1 (l.length) m w7 HI.out (by rw [HMM.out]; exact HX7.out) HN.out (by rw [HMM.out]) (by omega))
    clear HI HN B1 HM HX7
    go_wp2_with fail
    refine KI.out.mono ?_
    rintro e w9 ⟨rfl, t9⟩
    have T9 := hid (T7.out.trans t9 (fun _ _ e => e))
    clear t9 KI q0 q1 q2 q3 p0 p1
    go_wp2
    go_ret
    exact ⟨rfl, T9.out⟩
end Go.Proofs.YtpjnnbegimaaeaaDoor

/- CodingEncodes' walk in every coding; conditions: those told. -/
namespace Go.Proofs.YtpjnnbegimaaeaaDoor
open Go.RowKit

theorem codingEncodes_walk (a : Option Addr) (k : Nat) (l : List Int) (c : Int) (mark : Bool) (w : World) (ht : Tabs w) (hx : Ix w a l) (hb : l.length ≤ 1048576 ∧ l.length ≤ k) : Calls Tryd.prog 6 #[.slice a l.length k, .int .i64 c, .bool mark] w fun e w' => e = .returned (.bool true) ∧ Touch (fun _ => False) w w' := by
  by_cases h : c < 1 ∨ (1 ≤ c ∧ 4 < c)
  · exact codingEncodes_out a k l c mark w ht hx hb.1 h
  · rcases (show c = 1 ∨ c = 2 ∨ c = 3 ∨ c = 4 by omega) with rfl | rfl | rfl | rfl
    · exact codingEncodes_1 a k l mark w ht hx hb.1 hb.2
    · exact codingEncodes_2 a k l mark w ht hx hb.1 hb.2
    · exact codingEncodes_3 a k l mark w ht hx hb.1 hb.2
    · exact codingEncodes_4 a k l mark w ht hx hb.1
end Go.Proofs.YtpjnnbegimaaeaaDoor
