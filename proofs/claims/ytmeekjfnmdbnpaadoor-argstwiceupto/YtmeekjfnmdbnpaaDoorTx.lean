/- The texts that a request tells, and Show; conditions: the texts fit into memory, the library's variables lie there. -/
import Derived.Test.YtmeekjfnmdbnpaaDoorSp
import Derived.Test.YtmeekjfnmdbnpaaDoorOz
namespace Go.Proofs.YtmeekjfnmdbnpaaDoor
open Go.RowKit
open Go.Lib

theorem m93t (v : Value) (W : World) : (method 258 93 v "ferret/args.told").run Tryd.prog W = .ok (93, v) W := by kernel_rfl
theorem m96t (v : Value) (W : World) : (method 258 96 v "ferret/args.told").run Tryd.prog W = .ok (95, v) W := by kernel_rfl
theorem m99t (v : Value) (W : World) : (method 258 99 v "ferret/args.told").run Tryd.prog W = .ok (97, v) W := by kernel_rfl
set_option maxRecDepth 100000 in
set_option maxHeartbeats 8000000 in
theorem told_num (b off : Nat) (n : Int) (w : World) (hc : w.cell? ⟨b, off, none⟩ = some (.int .i64 n)) (h0 : -9223372036854775808 ≤ n) (h1 : n ≤ 9223372036854775807) (hx : Sx w) :
    Calls Tryd.prog 93 #[.agg #[.pointer (some ⟨b, off, none⟩)]] w fun e w' => e = .returned (sv (tellV (.int .i64 n))) ∧ Touch (fun _ => False) w w' := by
  have TA := hid ((Touch.refl (fun _ => False) w).alloc (.cells #[.pointer (some ⟨b, off, none⟩)] 93))
  have c1 : (w.alloc (.cells #[.pointer (some ⟨b, off, none⟩)] 93)).cell? ⟨w.heap.size, 0, none⟩ = some (.pointer (some ⟨b, off, none⟩)) := row_new w [.pointer (some ⟨b, off, none⟩)] 93 0 _ rfl
  have c2 := cell?_alloc_some (.cells #[.pointer (some ⟨b, off, none⟩)] 93) hc
  have HX := hid (hx.new TA.out)
  clear hc hx
  by_cases hn : n = 0
  · subst hn
    go_enter Tryd.func93, Tryd.ntmps93
    go_wp2
    go_ret
    exact ⟨rfl, TA.out⟩
  · have hnB : (n == 0) = false := by simpa using hn
    have HT := hid (show tellV (.int .i64 n) = itoa n by show (if n = 0 then [] else itoa n) = itoa n; rw [if_neg hn])
    have K := hid (itoa_any n h0 h1 _ HX.out)
    obtain ⟨X, hX, _, _⟩ := name_ba (itoa n)
    rw [HT.out, hX]
    rw [hX] at K
    clear HX hX
    go_enter Tryd.func93, Tryd.ntmps93
    go_wp2_with fail
    refine K.out.mono ?_
    rintro e w1 ⟨rfl, t1⟩
    have T1 := hid (TA.out.trans t1 (fun _ _ e => e))
    clear t1 K TA c1 c2
    go_wp2
    go_ret
    exact ⟨rfl, T1.out⟩
set_option maxRecDepth 100000 in
set_option maxHeartbeats 8000000 in
theorem told_bool (b off : Nat) (x : Bool) (w : World) (hc : w.cell? ⟨b, off, none⟩ = some (.bool x)) :
    Calls Tryd.prog 95 #[.agg #[.pointer (some ⟨b, off, none⟩)]] w fun e w' => e = .returned (sv (tellV (.bool x))) ∧ Touch (fun _ => False) w w' := by
  have TA := hid ((Touch.refl (fun _ => False) w).alloc (.cells #[.pointer (some ⟨b, off, none⟩)] 96))
  have c1 : (w.alloc (.cells #[.pointer (some ⟨b, off, none⟩)] 96)).cell? ⟨w.heap.size, 0, none⟩ = some (.pointer (some ⟨b, off, none⟩)) := row_new w [.pointer (some ⟨b, off, none⟩)] 96 0 _ rfl
  have c2 := cell?_alloc_some (.cells #[.pointer (some ⟨b, off, none⟩)] 96) hc
  clear hc
  cases x with
  | true =>
    go_enter Tryd.func95, Tryd.ntmps95
    go_wp2
    go_ret
    exact ⟨rfl, TA.out⟩
  | false =>
    go_enter Tryd.func95, Tryd.ntmps95
    go_wp2
    go_ret
    exact ⟨rfl, TA.out⟩
set_option maxRecDepth 100000 in
set_option maxHeartbeats 8000000 in
theorem told_text (b off : Nat) (x : ByteArray) (w : World) (hc : w.cell? ⟨b, off, none⟩ = some (.string x)) :
    Calls Tryd.prog 97 #[.agg #[.pointer (some ⟨b, off, none⟩)]] w fun e w' => e = .returned (sv (tellV (.string x))) ∧ Touch (fun _ => False) w w' := by
  have TA := hid ((Touch.refl (fun _ => False) w).alloc (.cells #[.pointer (some ⟨b, off, none⟩)] 99))
  have c1 : (w.alloc (.cells #[.pointer (some ⟨b, off, none⟩)] 99)).cell? ⟨w.heap.size, 0, none⟩ = some (.pointer (some ⟨b, off, none⟩)) := row_new w [.pointer (some ⟨b, off, none⟩)] 99 0 _ rfl
  have c2 := cell?_alloc_some (.cells #[.pointer (some ⟨b, off, none⟩)] 99) hc
  clear hc
  go_enter Tryd.func97, Tryd.ntmps97
  go_wp2
  go_ret
  exact ⟨rfl, TA.out⟩
/-- Values of the keys' kinds; numbers are numbers of the language. -/
def Rnv (V : Nat → Value) : Prop := ∀ k, k < 18 → TyK k (V k) ∧ ∀ n, V k = .int .i64 n → -9223372036854775808 ≤ n ∧ n ≤ 9223372036854775807
set_option maxRecDepth 100000 in
set_option maxHeartbeats 8000000 in
theorem texts_any (b : Nat) (cs : Array Value) (V : Nat → Value) (w : World) (hb : Rq w b cs) (hV : ∀ k, k < 18 → cs[offK k]? = some (V k)) (hr : Rnv V) (hx : Sx w) :
    Calls Tryd.prog 25 #[.pointer (some ⟨b, 0, none⟩)] w fun e w' => ∃ v', e = .returned v' ∧ OwS w w' v' (shL V 18) := by
  obtain ⟨i0, hi, hz0, hz1, hz2⟩ := info_parts info9
  have HB := hid hb
  have HV := hid hV
  have HR := hid hr
  have HX := hid hx
  clear hb hV hr hx
  go_enter Tryd.func25, Tryd.ntmps25
  go_wp2_with fail
  refine (keys_any b w).mono ?_
  rintro e w1 ⟨rfl, rfl⟩
  have T1 := hid ((Touch.refl (fun _ => False) w).drew.alloc (.cells (flatK b (List.range 18)).toArray 87))
  have G1 := hid (show (w.drew.alloc (.cells (flatK b (List.range 18)).toArray 87)).heap[w.heap.size]? = some (.cells (flatK b (List.range 18)).toArray 87 (0, 0)) from by show (w.heap.push _)[_]? = _; simp)
  generalize w.drew.alloc (.cells (flatK b (List.range 18)).toArray 87) = w2 at *
  generalize hg : w.heap.size = g at *
  have HW := hid (show w.heap.size ≤ w2.heap.size from T1.out.size)
  have KL1 := hid (show KL w2 g b (List.range 18) from ⟨fun j v hv => by
      rw [Nat.zero_add]
      have := G1.out
      simp [World.cell?, this]
      simpa using hv, fun j hj => by
      have := G1.out
      have hl : (flatK b (List.range 18)).length = 36 := by rw [flatK_len, List.length_range]
      rw [Nat.zero_add]
      refine ⟨?_, ?_⟩
      · simp [World.cell?, this]
        omega
      · simp [World.frozen?, this], lt_of_block G1.out, by simp⟩)
  clear G1 hg
  go_wp2_with fail
  go_loopg [3, 10] 18 (fun gk v3 v10 wr => ∃ j : Nat, j + gk = 18 ∧ v10 = .int .i64 (j : Nat) ∧ OwS w2 wr v3 (shL V j) ∧ Touch (fun _ => False) w wr)
  case atStart => exact ⟨0, by omega, rfl, OwS.nil _, T1.out⟩
  case round =>
    obtain ⟨j, hjg, rfl, hown, htw⟩ := hrel
    have HSU := hid (shL_succ V j)
    have hlen := shL_len V j
    obtain ⟨L, hL⟩ : ∃ L, L = shL V j := ⟨_, rfl⟩
    rw [← hL] at hown HSU hlen
    have HL := hid hL
    have OW := hid hown
    have TW := hid htw
    obtain ⟨a3, c3, hv3⟩ := own_shape hown.own
    subst hv3
    clear hown htw hL
    by_cases hj : j < 18
    · have hjI : (j : Int) < 18 := by omega
      obtain ⟨G, rfl⟩ : ∃ G, gk = G + 1 := ⟨gk - 1, by omega⟩
      obtain ⟨r1, r2⟩ := (KL1.out.new OW.out.touch).at j (by rw [List.length_range]; exact hj)
      rw [List.getElem_range] at r1 r2
      obtain ⟨T, hT, _, hTd⟩ := name_ba (wordB j)
      obtain ⟨TT, hTT, _, hTTd⟩ := name_ba (tellV (V j))
      have HTB := hid hTd
      have HTD := hid (show TT.data.toList = tellV (V j) from hTTd)
      rw [hT] at r1
      unfold kv at r2
      have hcell : ∀ W, Touch (fun _ => False) w W → W.cell? ⟨b, offK j, none⟩ = some (V j) := fun W t => by
        have h1 := (HB.out.new t).1
        have h2 := HV.out j hj
        simp [World.cell?, h1, h2]
      obtain ⟨hty, hrg⟩ := HR.out j hj
      by_cases hk5 : j < 5
      · have e93 : kd j = 93 := by unfold kd; rw [if_pos hk5]
        rw [e93] at r2
        have KT := hid (show ∀ W, Touch (fun _ => False) w W → Calls Tryd.prog 93 #[.agg #[.pointer (some ⟨b, offK j, none⟩)]] W fun e w' => e = .returned (.string TT) ∧ Touch (fun _ => False) W w' from fun W t => by
          unfold TyK at hty
          rw [if_pos hk5] at hty
          obtain ⟨n, hn⟩ := hty
          have hc := hcell W t
          rw [← hTT]
          rw [hn] at hc ⊢
          obtain ⟨h0, h1⟩ := hrg n hn
          exact told_num b (offK j) n W hc h0 h1 (HX.out.new t))
        clear hT hTd hTT hTTd hcell hty hrg hk5 e93
        have HMT : ∀ v W, (method 258 93 v "ferret/args.told").run Tryd.prog W = .ok (93, v) W := m93t
        go_wp2_with fail
        have TA := hid ((Touch.refl (fun _ => False) wr).alloc (.cells #[.string T, .iface 93 (.agg #[.pointer (some ⟨b, offK j, none⟩)])] 87))
        have C0 := hid (cell_two0 (two_new (w := wr) (.string T) (.iface 93 (.agg #[.pointer (some ⟨b, offK j, none⟩)])) 87))
        generalize wr.alloc (.cells #[.string T, .iface 93 (.agg #[.pointer (some ⟨b, offK j, none⟩)])] 87) = wa at *
        generalize hqa : wr.heap.size = qa at *
        have OWA := hid (OW.out.still TA.out)
        refine (KT.out wa (TW.out.trans TA.out (fun _ _ e => e))).mono ?_
        rintro e wb ⟨rfl, tb⟩
        have OWB := hid (OWA.out.still tb)
        have c0 : wb.cell? ⟨qa, 0, none⟩ = some (.string T) := (tb.cell (p := ⟨qa, 0, none⟩) (Lib.lt_of_cell C0.out) id).trans C0.out
        have TWB := hid ((TW.out.trans TA.out (fun _ _ e => e)).trans tb (fun _ _ e => e))
        clear tb C0 TA OW OWA hqa HMT KT TW
        cases hem : TT.toList.isEmpty with
        | true =>
          have hem2 : TT.toList = [] := List.isEmpty_iff.1 hem
          have HS := hid (show shL V (j + 1) = L by rw [HSU.out, ← HTD.out, ← toList_data, hem2]; simp)
          clear HTD HTB
          go_wp2
          go_roundg G
          case measure => omega
          case rel => exact ⟨j + 1, by omega, by go_num, by rw [HS.out]; exact OWB.out, TWB.out⟩
        | false =>
          have hem2 : ¬ TT.toList = [] := fun e => by rw [e] at hem; exact absurd hem (by decide)
          have HS := hid (show shL V (j + 1) = L ++ [wordB j, TT.data.toList] by rw [HSU.out, ← HTD.out, ← toList_data, hem]; simp)
          clear HTD
          go_wp2_with (at_builtin; go_loud (refine wpList_append_own_at _ rfl _ _ 24 rfl 0 9 i0 (.string ⟨#[]⟩) 1 16 Tryd.underlying24 hi hz0 hz1 hz2 rfl (by decide) _ _ _ rfl (OWB.out.own.alloc _) ⟨wb.heap.size, 0, none⟩ 2 2 [.string T, .string TT] rfl rfl (row_new wb [.string T, .string TT] 9) (by intro u hu; simp at hu; rcases hu with rfl | rfl <;> rfl) (by unfold maxLen; omega) (by omega) (Nat.zero_le _) ?_))
          intro v4' w4 hown hgrow _ hat
          have P4 := hid (OWB.out.more (xs := [T.data.toList, TT.data.toList]) hown hgrow hat)
          have TW4 := hid ((TWB.out.alloc (.cells #[.string T, .string TT] 9)).grown hgrow (fun k e hk => by have := OWB.out.new k e; have := HW.out; omega))
          rw [HTB.out] at P4
          clear hown hgrow hat
          go_wp2
          go_roundg G
          case measure => omega
          case rel => exact ⟨j + 1, by omega, by go_num, by rw [HS.out]; exact P4.out, TW4.out⟩
      · by_cases hk15 : j < 15
        · have e93 : kd j = 96 := by unfold kd; rw [if_neg hk5, if_pos hk15]
          rw [e93] at r2
          have KT := hid (show ∀ W, Touch (fun _ => False) w W → Calls Tryd.prog 95 #[.agg #[.pointer (some ⟨b, offK j, none⟩)]] W fun e w' => e = .returned (.string TT) ∧ Touch (fun _ => False) W w' from fun W t => by
            unfold TyK at hty
            rw [if_neg hk5, if_pos hk15] at hty
            obtain ⟨n, hn⟩ := hty
            have hc := hcell W t
            rw [← hTT]
            rw [hn] at hc ⊢
            exact told_bool b (offK j) n W hc)
          clear hT hTd hTT hTTd hcell hty hrg hk5 hk15 e93
          have HMT : ∀ v W, (method 258 96 v "ferret/args.told").run Tryd.prog W = .ok (95, v) W := m96t
          go_wp2_with fail
          have TA := hid ((Touch.refl (fun _ => False) wr).alloc (.cells #[.string T, .iface 96 (.agg #[.pointer (some ⟨b, offK j, none⟩)])] 87))
          have C0 := hid (cell_two0 (two_new (w := wr) (.string T) (.iface 96 (.agg #[.pointer (some ⟨b, offK j, none⟩)])) 87))
          generalize wr.alloc (.cells #[.string T, .iface 96 (.agg #[.pointer (some ⟨b, offK j, none⟩)])] 87) = wa at *
          generalize hqa : wr.heap.size = qa at *
          have OWA := hid (OW.out.still TA.out)
          refine (KT.out wa (TW.out.trans TA.out (fun _ _ e => e))).mono ?_
          rintro e wb ⟨rfl, tb⟩
          have OWB := hid (OWA.out.still tb)
          have c0 : wb.cell? ⟨qa, 0, none⟩ = some (.string T) := (tb.cell (p := ⟨qa, 0, none⟩) (Lib.lt_of_cell C0.out) id).trans C0.out
          have TWB := hid ((TW.out.trans TA.out (fun _ _ e => e)).trans tb (fun _ _ e => e))
          clear tb C0 TA OW OWA hqa HMT KT TW
          cases hem : TT.toList.isEmpty with
          | true =>
            have hem2 : TT.toList = [] := List.isEmpty_iff.1 hem
            have HS := hid (show shL V (j + 1) = L by rw [HSU.out, ← HTD.out, ← toList_data, hem2]; simp)
            clear HTD HTB
            go_wp2
            go_roundg G
            case measure => omega
            case rel => exact ⟨j + 1, by omega, by go_num, by rw [HS.out]; exact OWB.out, TWB.out⟩
          | false =>
            have hem2 : ¬ TT.toList = [] := fun e => by rw [e] at hem; exact absurd hem (by decide)
            have HS := hid (show shL V (j + 1) = L ++ [wordB j, TT.data.toList] by rw [HSU.out, ← HTD.out, ← toList_data, hem]; simp)
            clear HTD
            go_wp2_with (at_builtin; go_loud (refine wpList_append_own_at _ rfl _ _ 24 rfl 0 9 i0 (.string ⟨#[]⟩) 1 16 Tryd.underlying24 hi hz0 hz1 hz2 rfl (by decide) _ _ _ rfl (OWB.out.own.alloc _) ⟨wb.heap.size, 0, none⟩ 2 2 [.string T, .string TT] rfl rfl (row_new wb [.string T, .string TT] 9) (by intro u hu; simp at hu; rcases hu with rfl | rfl <;> rfl) (by unfold maxLen; omega) (by omega) (Nat.zero_le _) ?_))
            intro v4' w4 hown hgrow _ hat
            have P4 := hid (OWB.out.more (xs := [T.data.toList, TT.data.toList]) hown hgrow hat)
            have TW4 := hid ((TWB.out.alloc (.cells #[.string T, .string TT] 9)).grown hgrow (fun k e hk => by have := OWB.out.new k e; have := HW.out; omega))
            rw [HTB.out] at P4
            clear hown hgrow hat
            go_wp2
            go_roundg G
            case measure => omega
            case rel => exact ⟨j + 1, by omega, by go_num, by rw [HS.out]; exact P4.out, TW4.out⟩
        · have e93 : kd j = 99 := by unfold kd; rw [if_neg hk5, if_neg hk15]
          rw [e93] at r2
          have KT := hid (show ∀ W, Touch (fun _ => False) w W → Calls Tryd.prog 97 #[.agg #[.pointer (some ⟨b, offK j, none⟩)]] W fun e w' => e = .returned (.string TT) ∧ Touch (fun _ => False) W w' from fun W t => by
            unfold TyK at hty
            rw [if_neg hk5, if_neg hk15] at hty
            obtain ⟨n, hn⟩ := hty
            have hc := hcell W t
            rw [← hTT]
            rw [hn] at hc ⊢
            exact told_text b (offK j) n W hc)
          clear hT hTd hTT hTTd hcell hty hrg hk5 hk15 e93
          have HMT : ∀ v W, (method 258 99 v "ferret/args.told").run Tryd.prog W = .ok (97, v) W := m99t
          go_wp2_with fail
          have TA := hid ((Touch.refl (fun _ => False) wr).alloc (.cells #[.string T, .iface 99 (.agg #[.pointer (some ⟨b, offK j, none⟩)])] 87))
          have C0 := hid (cell_two0 (two_new (w := wr) (.string T) (.iface 99 (.agg #[.pointer (some ⟨b, offK j, none⟩)])) 87))
          generalize wr.alloc (.cells #[.string T, .iface 99 (.agg #[.pointer (some ⟨b, offK j, none⟩)])] 87) = wa at *
          generalize hqa : wr.heap.size = qa at *
          have OWA := hid (OW.out.still TA.out)
          refine (KT.out wa (TW.out.trans TA.out (fun _ _ e => e))).mono ?_
          rintro e wb ⟨rfl, tb⟩
          have OWB := hid (OWA.out.still tb)
          have c0 : wb.cell? ⟨qa, 0, none⟩ = some (.string T) := (tb.cell (p := ⟨qa, 0, none⟩) (Lib.lt_of_cell C0.out) id).trans C0.out
          have TWB := hid ((TW.out.trans TA.out (fun _ _ e => e)).trans tb (fun _ _ e => e))
          clear tb C0 TA OW OWA hqa HMT KT TW
          cases hem : TT.toList.isEmpty with
          | true =>
            have hem2 : TT.toList = [] := List.isEmpty_iff.1 hem
            have HS := hid (show shL V (j + 1) = L by rw [HSU.out, ← HTD.out, ← toList_data, hem2]; simp)
            clear HTD HTB
            go_wp2
            go_roundg G
            case measure => omega
            case rel => exact ⟨j + 1, by omega, by go_num, by rw [HS.out]; exact OWB.out, TWB.out⟩
          | false =>
            have hem2 : ¬ TT.toList = [] := fun e => by rw [e] at hem; exact absurd hem (by decide)
            have HS := hid (show shL V (j + 1) = L ++ [wordB j, TT.data.toList] by rw [HSU.out, ← HTD.out, ← toList_data, hem]; simp)
            clear HTD
            go_wp2_with (at_builtin; go_loud (refine wpList_append_own_at _ rfl _ _ 24 rfl 0 9 i0 (.string ⟨#[]⟩) 1 16 Tryd.underlying24 hi hz0 hz1 hz2 rfl (by decide) _ _ _ rfl (OWB.out.own.alloc _) ⟨wb.heap.size, 0, none⟩ 2 2 [.string T, .string TT] rfl rfl (row_new wb [.string T, .string TT] 9) (by intro u hu; simp at hu; rcases hu with rfl | rfl <;> rfl) (by unfold maxLen; omega) (by omega) (Nat.zero_le _) ?_))
            intro v4' w4 hown hgrow _ hat
            have P4 := hid (OWB.out.more (xs := [T.data.toList, TT.data.toList]) hown hgrow hat)
            have TW4 := hid ((TWB.out.alloc (.cells #[.string T, .string TT] 9)).grown hgrow (fun k e hk => by have := OWB.out.new k e; have := HW.out; omega))
            rw [HTB.out] at P4
            clear hown hgrow hat
            go_wp2
            go_roundg G
            case measure => omega
            case rel => exact ⟨j + 1, by omega, by go_num, by rw [HS.out]; exact P4.out, TW4.out⟩
    · obtain rfl : j = 18 := by omega
      go_wp2
      go_ret
      have OW := hid (show OwS w2 wr (.slice a3 L.length c3) (shL V 18) from by rw [← HL.out]; exact OW.out)
      have hl : L.length = (shL V 18).length := by rw [HL.out]
      exact ⟨_, rfl, OW.out.own, fun g hg => Nat.le_trans HW.out (OW.out.new g hg), TW.out⟩
end Go.Proofs.YtmeekjfnmdbnpaaDoor
