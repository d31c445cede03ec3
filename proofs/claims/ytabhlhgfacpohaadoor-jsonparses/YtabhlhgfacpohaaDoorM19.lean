/- Texts of this proof, one behind the other: what each says stands ahead of it. -/
import Derived.Test.YtabhlhgfacpohaaDoorM18
/- JsonQuotes' walk; conditions: the two tables lie there, the text has at most 1048576 bytes. -/
namespace Go.Proofs.YtabhlhgfacpohaaDoor
open Go.RowKit
open Go.Lib

theorem parse_quot (L : List Nat) (h : ∀ x ∈ L, isSc x) (hs : (quS L).size ≤ 1048576) (w : World) (ht : Tabs w) :
    Calls Tryd.prog 9 #[.string (quS L)] w fun e w' => e = .returned (.tuple #[.agg #[.int .i64 4, .string ⟨(UB L).toArray⟩, .slice none 0 0, .slice none 0 0], .agg #[.int .i64 0, .int .i64 0]]) ∧ Touch (fun _ => False) w w' := by
  obtain ⟨hq, hE⟩ := qu_back L h
  refine parse_ofT (quS L) 4 ⟨(UB L).toArray⟩ none none 0 0 0 0 0 0 w ht hs (fun w ht => qu_decode L h hs w ht) ?_
  intro b w' hp hb2 ht'
  have k := whole_okT b (quS L) (quS L).size 0 4 ⟨(UB L).toArray⟩ none none 0 0 0 0 w' hp hs (Nat.le_refl _) ht' (fun w1 hp1 ht1 => by
    have := value_quot b (quS L) 0 0 w1 hp1 hs (Nat.zero_le _) hb2 ht1 hq (fun o u e => by
      rw [hE] at e
      cases e
      refine ⟨Nat.le_refl _, ?_⟩
      rw [lk_by, if_neg (Nat.lt_irrefl _)]
      unfold noBlank
      decide)
    rw [hE] at this
    exact this)
  rw [if_pos rfl] at k
  exact k
theorem parse_quL (L : List Nat) (h : ∀ x ∈ L, isSc x) (w : World) (ht : Tabs w) :
    Calls Tryd.prog 9 #[.string (quS L)] w fun e w' => ∃ (vk : Nat) (vt : ByteArray) (fc : Nat), e = .returned (.tuple #[.agg #[.int .i64 (vk : Nat), .string vt, .slice none 0 0, .slice none 0 0], .agg #[.int .i64 (fc : Nat), .int .i64 0]]) ∧ Touch (fun _ => False) w w' ∧ ((quS L).size ≤ 1048576 → vk = 4 ∧ vt = ⟨(UB L).toArray⟩ ∧ fc = 0) := by
  by_cases hs : (quS L).size ≤ 1048576
  · exact (parse_quot L h hs w ht).mono (fun e w' ⟨h1, h2⟩ => ⟨4, _, 0, h1, h2, fun _ => ⟨rfl, rfl, rfl⟩⟩)
  · exact (parse_long (quS L) w ht (by omega)).mono (fun e w' ⟨h1, h2⟩ => ⟨0, ⟨#[]⟩, 2, h1, h2, fun h => absurd h hs⟩)
theorem enc_quot (L : List Nat) (h : ∀ x ∈ L, isSc x) : encR 1 false (ints L) = .tuple #[.string ⟨(UB L).toArray⟩, .int .i64 0] := by
  unfold encR
  rw [if_pos (ints_ok L h), ints_enc L h]
  have : strOfNums ((if (false : Bool) = true then nums (mk 1) else []) ++ (UB L).map fun b => (b.toNat : Int)) = ⟨(UB L).toArray⟩ := by
    rw [if_neg (by decide), List.nil_append]
    unfold strOfNums
    simp
    conv => rhs; rw [← List.map_id (UB L)]
    exact List.map_congr_left (fun b _ => by simp)
  rw [this]
set_option maxRecDepth 100000 in
set_option maxHeartbeats 8000000 in
theorem jsonQuotes_walk (s : ByteArray) (w : World) (ht : Tabs w) (hs : s.size ≤ 1048576) :
    Calls Tryd.prog 4 #[.string s] w fun e w' => e = .returned (.bool true) ∧ Touch (fun _ => False) w w' := by
  have KS := hid (speaks_yes w ht)
  have HSC := hid (scs_sc s)
  have KQ := hid (fun w' (ht' : Tabs w') => (show Calls Tryd.prog 11 #[.string s] w' fun e w'' => e = .returned (.string (quS (scs s))) ∧ Touch (fun _ => False) w' w'' from quote_str s w' ht' hs (fun x hx => one_all x (HSC.out x hx))))
  have KR := hid (fun w' => rquote_any s w' hs)
  have KD := hid (fun w' (ht' : Tabs w') => decX_any s (by omega) w' ht')
  have KP := hid (fun w' (ht' : Tabs w') => parse_quL (scs s) HSC.out w' ht')
  have hR := scs_len s
  have KE := hid (fun (a : Option Addr) (c : Nat) (w' : World) (ht' : Tabs w') (hl : ints (scs s) = [] ∨ Ig1 w' a (ints (scs s))) => by
    have := encode_1o a c (ints (scs s)) false w' ht' hl (by unfold ints; rw [List.length_map]; omega)
    rw [enc_quot (scs s) HSC.out] at this
    exact this)
  have HI := hid (show (ints (scs s)).length = (scs s).length from by unfold ints; rw [List.length_map])
  have HT := hid ht
  clear ht
  generalize quS (scs s) = Q at *
  generalize (⟨(UB (scs s)).toArray⟩ : ByteArray) = U at *
  unfold xs at KD
  obtain ⟨R, hRR⟩ : ∃ R, (scs s).length = R := ⟨_, rfl⟩
  rw [HI.out] at KE
  rw [hRR] at KD hR KE HI
  have HR := hid hRR
  clear hRR
  go_enter Tryd.func4, Tryd.ntmps4
  go_wp2_with fail
  refine KS.out.mono ?_
  rintro e w1 ⟨rfl, t1⟩
  have T1 := hid t1
  have H1 := hid (HT.out.new t1)
  clear t1 KS HT
  go_wp2_with fail
  refine (KQ.out _ H1.out).mono ?_
  rintro e w2 ⟨rfl, t2⟩
  have T2 := hid (T1.out.trans t2 (fun _ _ e => e))
  have H2 := hid (H1.out.new t2)
  clear t2 KQ T1 H1
  go_wp2_with fail
  refine (KR.out _).mono ?_
  rintro e w3 ⟨rfl, t3⟩
  have T3 := hid (T2.out.trans t3 (fun _ _ e => e))
  have H3 := hid (H2.out.new t3)
  clear t3 KR T2 H2
  go_wp2_with fail
  refine (KD.out _ H3.out).mono ?_
  rintro e w4 ⟨g, c, a2, n2, c2, bad, rfl, t4, hg1, hg2, hc, hcell⟩
  have T4 := hid (T3.out.trans t4 (fun _ _ e => e))
  have H4 := hid (H3.out.new t4)
  have HG := hid hg2
  have HC := hid hcell
  clear t4 KD T3 H3 hg1 hg2 hcell
  go_upto_region 7 with fail
  have TA := (Touch.refl (fun _ => False) w4).alloc (.cells #[.int .i64 1, .slice (some ⟨g, 0, none⟩) (R + 1) c, .slice a2 n2 c2, .int .i64 (bad : Nat)] 37) |>.alloc (.cells #[.int .i64 0, .int .i64 0] 29)
  have BX := hid ((((Touch.refl (fun _ => False) (w4.alloc (.cells #[.int .i64 1, .slice (some ⟨g, 0, none⟩) (R + 1) c, .slice a2 n2 c2, .int .i64 (bad : Nat)] 37))).alloc (.cells #[.int .i64 0, .int .i64 0] 29)).block w4.heap.size (by rw [size_alloc1]; omega) id).trans (jfour_new (w := w4) (.int .i64 1) (.slice (some ⟨g, 0, none⟩) (R + 1) c) (.slice a2 n2 c2) (.int .i64 (bad : Nat)) 37))
  have T5 := hid (T4.out.trans TA (fun _ _ e => e))
  have H5 := hid (H4.out.new TA)
  have C5 := hid (fun i x (h : (scs s)[i]? = some x) => (TA.cell (p := ⟨g, i + 1, none⟩) HG.out id).trans (HC.out i x h))
  have HG5 := hid (Nat.lt_of_lt_of_le HG.out TA.size)
  clear TA T4 H4 HC HG
  generalize (w4.alloc (.cells #[.int .i64 1, .slice (some ⟨g, 0, none⟩) (R + 1) c, .slice a2 n2 c2, .int .i64 (bad : Nat)] 37)).alloc (.cells #[.int .i64 0, .int .i64 0] 29) = w5 at *
  generalize w4.heap.size = q at *
  obtain ⟨⟨_, z1, _, _⟩, _⟩ := cells4 BX.out
  have hR1 : ¬ ((R : Int) + 1 < 1) := by omega
  have hcI : ((R : Int) + 1) ≤ (c : Int) := by omega
  have IG := hid (show Ig1 w5 (some ⟨g, 1, none⟩) (ints (scs s)) from by
    refine ⟨g, rfl, HG5.out, fun i hi => ?_⟩
    unfold ints at hi ⊢
    rw [List.length_map] at hi
    rw [List.getElem_map, Nat.add_comm]
    exact C5.out i _ (List.getElem?_eq_getElem hi))
  go_wp2_with fail
  case inl h =>
    have KE5 := hid (fun a cc => KE.out a cc w5 H5.out (.inl (List.eq_nil_of_length_eq_zero (by rw [HI.out]; omega))))
    refine (KE5.out _ _).mono ?_
    rintro e w6 ⟨rfl, t6⟩
    have T6 := hid (T5.out.trans t6 (fun _ _ e => e))
    have H6 := hid (H5.out.new t6)
    clear t6 KE5 KE T5 H5 BX IG C5 z1
    go_wp2_with fail
    refine (KP.out _ H6.out).mono ?_
    rintro e w7 ⟨vk, vt, fc, rfl, t7, hok⟩
    have T7 := hid ((T6.out.trans t7 (fun _ _ e => e)).alloc (.cells #[.int .i64 (vk : Nat), .string vt, .slice none 0 0, .slice none 0 0] 26) |>.alloc (.cells #[.int .i64 (fc : Nat), .int .i64 0] 29))
    clear t7 KP T6 H6
    by_cases hsz : Q.size ≤ 1048576
    · obtain ⟨rfl, rfl, rfl⟩ := hok hsz
      have hszI : ¬ (1048576 : Int) < (Q.size : Int) := by omega
      clear hok
      go_wp2
      go_ret
      exact ⟨rfl, T7.out⟩
    · have hszI : (1048576 : Int) < (Q.size : Int) := by omega
      clear hok
      go_wp2
      go_ret
      exact ⟨rfl, T7.out⟩
  case inr h =>
    have KE5 := hid (fun cc => KE.out (some ⟨g, 1, none⟩) cc w5 H5.out (.inr IG.out))
    refine (KE5.out _).mono ?_
    rintro e w6 ⟨rfl, t6⟩
    have T6 := hid (T5.out.trans t6 (fun _ _ e => e))
    have H6 := hid (H5.out.new t6)
    clear t6 KE5 KE T5 H5 BX IG C5 z1
    go_wp2_with fail
    refine (KP.out _ H6.out).mono ?_
    rintro e w7 ⟨vk, vt, fc, rfl, t7, hok⟩
    have T7 := hid ((T6.out.trans t7 (fun _ _ e => e)).alloc (.cells #[.int .i64 (vk : Nat), .string vt, .slice none 0 0, .slice none 0 0] 26) |>.alloc (.cells #[.int .i64 (fc : Nat), .int .i64 0] 29))
    clear t7 KP T6 H6
    by_cases hsz : Q.size ≤ 1048576
    · obtain ⟨rfl, rfl, rfl⟩ := hok hsz
      have hszI : ¬ (1048576 : Int) < (Q.size : Int) := by omega
      clear hok
      go_wp2
      go_ret
      exact ⟨rfl, T7.out⟩
    · have hszI : (1048576 : Int) < (Q.size : Int) := by omega
      clear hok
      go_wp2
      go_ret
      exact ⟨rfl, T7.out⟩
end Go.Proofs.YtabhlhgfacpohaaDoor
