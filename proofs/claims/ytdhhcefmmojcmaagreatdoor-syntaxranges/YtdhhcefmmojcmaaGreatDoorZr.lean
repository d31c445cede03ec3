/- SyntaxRanges' walk; no condition. -/
import Derived.Test.YtdhhcefmmojcmaaGreatDoorZo
import Derived.Test.YtdhhcefmmojcmaaGreatDoorZg
namespace Go.Proofs.YtdhhcefmmojcmaaGreatDoor
open Go.RowKit
open Go.Lib

theorem hex_size (n : Nat) (h : n ≤ 1114111) : (bytesI (hexL 6 n)).size ≤ 6 := by
  have := (hexL_ok 6 n (by decide) (by omega)).1
  have e : (bytesI (hexL 6 n)).size = (hexL 6 n).length := by simp [bytesI, ByteArray.size]
  omega
theorem range_txt (neg : Bool) (a b : Nat) : bytesI (rangeL neg a b) = ((((if neg then ⟨#[91, 94]⟩ else ⟨#[91]⟩ : ByteArray) ++ ⟨#[92, 120, 123]⟩) ++ bytesI (hexL 6 a)) ++ ⟨#[125, 45, 92, 120, 123]⟩) ++ bytesI (hexL 6 b) ++ ⟨#[125, 93]⟩ := by
  unfold rangeL numL
  rw [bytesI_app, bytesI_app, bytesI_app, bytesI_app, bytesI_app, bytesI_app, bytesI_app, bytesI_app]
  rw [show bytesI (if neg then [91, 94] else [91]) = (if neg then ⟨#[91, 94]⟩ else ⟨#[91]⟩ : ByteArray) from by cases neg <;> rfl]
  rw [show (⟨#[125, 45, 92, 120, 123]⟩ : ByteArray) = bytesI [125] ++ (bytesI [45] ++ bytesI [92, 120, 123]) from rfl, show (⟨#[125, 93]⟩ : ByteArray) = bytesI [125] ++ bytesI [93] from rfl, show (⟨#[92, 120, 123]⟩ : ByteArray) = bytesI [92, 120, 123] from rfl]
  simp only [ByteArray.append_assoc]
/-- The set of a range, and of what isn't in it. -/
def setR (neg : Bool) (a b : Nat) : List R2 := if neg then notR [((a : Int), (b : Int))] else cnR [((a : Int), (b : Int))]
theorem set_canon (neg : Bool) (a b : Nat) : Canon (setR neg a b) := by
  cases neg
  · exact (cn_good _).1
  · exact (not_good2 _).1
theorem cn_two {a b : Nat} (h : a ≤ b) (hb : b ≤ 1114111) : cnR [((a : Int), (b : Int))] = [((a : Int), (b : Int))] := by
  symm
  refine cn_of ⟨fun r hr => by simp at hr; subst hr; exact ⟨by simp only; omega, by simp only; omega, by simp only; omega⟩, List.pairwise_singleton _ _⟩ (fun x => ?_)
  simp only [In, List.mem_singleton, exists_eq_left]
  omega
theorem two_canon {a b : Nat} (h : a ≤ b) (hb : b ≤ 1114111) : Canon [((a : Int), (b : Int))] := ⟨fun r hr => by simp at hr; subst hr; exact ⟨by simp only; omega, by simp only; omega, by simp only; omega⟩, List.pairwise_singleton _ _⟩
theorem set_size_f (a b : Nat) (h : a ≤ b) (hb : b ≤ 1114111) : sizeL (setR false a b) = (b : Int) - (a : Int) + 1 := by
  show sizeL (cnR _) = _
  rw [cn_two h hb]
  simp [sizeL]
theorem set_size_t (a b : Nat) (h : a ≤ b) (hb : b ≤ 1114111) : sizeL (setR true a b) = 1114112 - ((b : Int) - (a : Int) + 1) := by
  have h1 : sizeL [((a : Int), (b : Int))] = (b : Int) - (a : Int) + 1 := by simp [sizeL]
  have h3 := size_not (two_canon h hb) (not_good2 [((a : Int), (b : Int))]).1 (not_good2 _).2
  rw [h1] at h3
  show sizeL (notR _) = _
  omega
theorem set_has (neg : Bool) (a b c : Nat) (hc : c = a ∨ c = b) (h : a ≤ b) (hb : b ≤ 1114111) : hasB (c : Int) (setR neg a b) = !neg := by
  have hin : In (c : Int) [((a : Int), (b : Int))] := ⟨((a : Int), (b : Int)), by simp, by simp only; omega, by simp only; omega⟩
  cases neg
  · refine hasB_iff.2 ?_
    exact ((cn_good _).2 _).2 ⟨⟨by omega, by omega⟩, hin⟩
  · cases e : hasB (c : Int) (setR true a b) with
    | false => rfl
    | true =>
      have := (((not_good2 _).2 _).1 (hasB_iff.1 e)).2
      exact absurd hin this
set_option maxRecDepth 100000 in
set_option maxHeartbeats 8000000 in
theorem ranges_tbad (a b : Nat) (ha : a ≤ 1114111) (hb : b ≤ 1114111) (hg : b < a) (w : World) (ht : TabsK w) (hx : Sx w) (h7 : 7 ≤ w.heap.size) :
    Calls Tryz.prog 9 #[.int .i64 (a : Int), .int .i64 (b : Int), .bool true] w fun e w' => e = .returned (.bool true) ∧ Touch (fun _ => False) w w' := by
  have KS := hid (speaks_yes w ht hx h7)
  have KP := hid (fun (wq : World) (t : Touch (fun _ => False) w wq) => parse_any (bytesI (rangeL true a b)) fl0 wq (ht.new t) (hx.new t) (Nat.le_trans h7 t.size))
  rw [range_prs true a b ha hb rfl, if_pos hg, range_txt] at KP
  rw [if_pos rfl] at KP
  unfold fl0 PrsP at KP
  simp only at KP
  have KA := hid (fun wq => sixteen_says a ha wq)
  have KB := hid (fun wq => sixteen_says b hb wq)
  have hA := hex_size a ha
  have hB := hex_size b hb
  have haI : (a : Int) ≤ 1114111 := by omega
  have hbI : (b : Int) ≤ 1114111 := by omega
  clear ht hx h7 ha hb
  generalize bytesI (hexL 6 a) = A at *
  generalize bytesI (hexL 6 b) = B at *
  have HG := hid hg
  clear hg
  go_enter Tryz.func9, Tryz.ntmps9
  go_wp2_with fail
  refine KS.out.mono ?_
  rintro e w1 ⟨rfl, t1⟩
  have T1 := hid t1
  clear t1 KS
  go_upto_region 3 with fail
  go_cut [27] (fun v wd => v = .bool false ∧ w1 = wd)
  case first =>
    have g1 : ¬ (a : Int) < 0 := by omega
    have g2 : ¬ (1114111 : Int) < (a : Int) := by omega
    have g3 : ¬ (b : Int) < 0 := by omega
    have g4 : ¬ (1114111 : Int) < (b : Int) := by omega
    go_wp2
    go_meet
    case rel => exact ⟨rfl, rfl⟩
  obtain ⟨rfl, rfl⟩ := hcut
  have KA1 := hid (KA.out w1)
  go_wp2_with fail
  refine KA1.out.mono ?_
  rintro e w2 ⟨rfl, t2⟩
  have T2 := hid (T1.out.trans t2 (fun _ _ e => e))
  clear t2 KA KA1 T1
  have KB1 := hid (KB.out w2)
  go_wp2_with fail
  refine KB1.out.mono ?_
  rintro e w3 ⟨rfl, t3⟩
  have T3 := hid (T2.out.trans t3 (fun _ _ e => e))
  clear t3 KB KB1 T2
  have KP2 := hid (KP.out _ T3.out)
  clear KP
  go_wp2_with fail
  refine KP2.out.mono ?_
  rintro e w4 ⟨rfl, t4⟩
  have T4 := hid (T3.out.trans t4 (fun _ _ e => e))
  unfold zPat
  clear t4 T3 KP2
  go_upto_region 9 with fail
  have HK := kept2 w4 #[.int .i64 0, .slice none 0 0, .bool false, .int .i64 0, .int .i64 0, .bool false, .int .i64 0, .string ⟨#[]⟩, .slice none 0 0, .slice none 0 0] #[.int .i64 22, .int .i64 2]
  generalize (w4.alloc (.cells #[.int .i64 0, .slice none 0 0, .bool false, .int .i64 0, .int .i64 0, .bool false, .int .i64 0, .string ⟨#[]⟩, .slice none 0 0, .slice none 0 0] 31)).alloc (.cells #[.int .i64 22, .int .i64 2] 34) = w5 at *
  obtain ⟨hp5, hq5, t5⟩ := HK
  have T5 := hid (T4.out.trans t5 (fun _ _ e => e))
  obtain ⟨p, hpe⟩ : ∃ p, p = w4.heap.size := ⟨_, rfl⟩
  rw [← hpe] at hp5 hq5 ⊢
  clear hpe T4 t5
  have P5 := hid hp5
  have Q5 := hid hq5
  clear hp5 hq5
  have g9 : (b : Int) < (a : Int) := by have := HG.out; omega
  go_wp2_with (first | refine wpList_load_row rfl 34 _ rfl (p + 1) rfl 34 _ (0, 0) _ Q5.out Tryz.underlying34 rfl info34 ?_ | fail)
  go_ret
  exact ⟨rfl, T5.out⟩
set_option maxRecDepth 100000 in
set_option maxHeartbeats 8000000 in
theorem ranges_tgood (a b : Nat) (ha : a ≤ 1114111) (hb : b ≤ 1114111) (hg : ¬ b < a) (w : World) (ht : TabsK w) (hx : Sx w) (h7 : 7 ≤ w.heap.size) :
    Calls Tryz.prog 9 #[.int .i64 (a : Int), .int .i64 (b : Int), .bool true] w fun e w' => e = .returned (.bool true) ∧ Touch (fun _ => False) w w' := by
  have KS := hid (speaks_yes w ht hx h7)
  have KP := hid (fun (wq : World) (t : Touch (fun _ => False) w wq) => parse_any (bytesI (rangeL true a b)) fl0 wq (ht.new t) (hx.new t) (Nat.le_trans h7 t.size))
  rw [range_prs true a b ha hb rfl, if_neg hg, range_txt] at KP
  rw [show (if true = true then notR [((a : Int), (b : Int))] else cnR [((a : Int), (b : Int))]) = setR true a b from rfl] at KP
  have HZ := hid (set_size_t a b (by omega) hb)
  have HA := hid (set_has true a b a (.inl rfl) (by omega) hb)
  have HB := hid (set_has true a b b (.inr rfl) (by omega) hb)
  have HCN := hid (set_canon true a b)
  generalize setR true a b = S at *
  rw [if_pos rfl] at KP
  unfold fl0 PrsP at KP
  simp only at KP
  have KA := hid (fun wq => sixteen_says a ha wq)
  have KB := hid (fun wq => sixteen_says b hb wq)
  have hA := hex_size a ha
  have hB := hex_size b hb
  have haI : (a : Int) ≤ 1114111 := by omega
  have hbI : (b : Int) ≤ 1114111 := by omega
  clear ht hx h7 ha hb
  generalize bytesI (hexL 6 a) = A at *
  generalize bytesI (hexL 6 b) = B at *
  have HG := hid hg
  clear hg
  go_enter Tryz.func9, Tryz.ntmps9
  go_wp2_with fail
  refine KS.out.mono ?_
  rintro e w1 ⟨rfl, t1⟩
  have T1 := hid t1
  clear t1 KS
  go_upto_region 3 with fail
  go_cut [27] (fun v wd => v = .bool false ∧ w1 = wd)
  case first =>
    have g1 : ¬ (a : Int) < 0 := by omega
    have g2 : ¬ (1114111 : Int) < (a : Int) := by omega
    have g3 : ¬ (b : Int) < 0 := by omega
    have g4 : ¬ (1114111 : Int) < (b : Int) := by omega
    go_wp2
    go_meet
    case rel => exact ⟨rfl, rfl⟩
  obtain ⟨rfl, rfl⟩ := hcut
  have KA1 := hid (KA.out w1)
  go_wp2_with fail
  refine KA1.out.mono ?_
  rintro e w2 ⟨rfl, t2⟩
  have T2 := hid (T1.out.trans t2 (fun _ _ e => e))
  clear t2 KA KA1 T1
  have KB1 := hid (KB.out w2)
  go_wp2_with fail
  refine KB1.out.mono ?_
  rintro e w3 ⟨rfl, t3⟩
  have T3 := hid (T2.out.trans t3 (fun _ _ e => e))
  clear t3 KB KB1 T2
  have KP2 := hid (KP.out _ T3.out)
  clear KP
  go_wp2_with fail
  refine KP2.out.mono ?_
  rintro e w4 ⟨c, an, nn, cn, rfl, ht4, hs4, hn4, t4⟩
  have T4 := hid (T3.out.trans t4 (fun _ _ e => e))
  have e1 := ht4.inv.1
  have sr := ht4.inv.2.1
  obtain ⟨ck, sa, sn, sc, fo, mi, ma, la, ca, nm, ka, kn, kc⟩ := c
  simp only at e1 sr
  obtain ⟨rfl, rfl, rfl, rfl, rfl, rfl, rfl⟩ := e1
  have RG4 := hid sr.rg.1
  have HSN := hid sr.rg.2
  unfold Cel.arr
  clear t4 T3 KP2 ht4 hs4 hn4 sr
  go_upto_region 9 with fail
  have HK := kept2 w4 #[.int .i64 1, .slice sa sn sc, .bool false, .int .i64 0, .int .i64 0, .bool false, .int .i64 0, .string ⟨#[]⟩, .slice ka kn kc, .slice an nn cn] #[.int .i64 0, .int .i64 0]
  generalize (w4.alloc (.cells #[.int .i64 1, .slice sa sn sc, .bool false, .int .i64 0, .int .i64 0, .bool false, .int .i64 0, .string ⟨#[]⟩, .slice ka kn kc, .slice an nn cn] 31)).alloc (.cells #[.int .i64 0, .int .i64 0] 34) = w5 at *
  obtain ⟨hp5, hq5, t5⟩ := HK
  have T5 := hid (T4.out.trans t5 (fun _ _ e => e))
  have RG5 := hid (RG4.out.kept t5 (fun _ _ _ _ e => e))
  clear RG4
  obtain ⟨p, hpe⟩ : ∃ p, p = w4.heap.size := ⟨_, rfl⟩
  rw [← hpe] at hp5 hq5 ⊢
  clear hpe T4 t5
  have P5 := hid hp5
  have Q5 := hid hq5
  clear hp5 hq5
  have g9 : ¬ (b : Int) < (a : Int) := by have := HG.out; omega
  have KZ := hid (fun (wq : World) (t : Touch (fun _ => False) w5 wq) => size_says sa sc S wq (RG5.out.kept t (fun _ _ _ _ e => e)) HCN.out)
  have KHA := hid (fun (wq : World) (t : Touch (fun _ => False) w5 wq) => has_says sa sc S (a : Int) wq (RG5.out.kept t (fun _ _ _ _ e => e)) HCN.out)
  have KHB := hid (fun (wq : World) (t : Touch (fun _ => False) w5 wq) => has_says sa sc S (b : Int) wq (RG5.out.kept t (fun _ _ _ _ e => e)) HCN.out)
  rw [← HSN.out, HZ.out] at KZ
  rw [← HSN.out, HA.out] at KHA
  rw [← HSN.out, HB.out] at KHB
  rw [show (!true) = false from rfl] at KHA KHB
  have c0 : w5.cell? ⟨p, 0, none⟩ = some (.int .i64 1) := cell_of P5.out 0 _ rfl
  have c1 : w5.cell? ⟨p, 1, none⟩ = some (.slice sa sn sc) := cell_of P5.out 1 _ rfl
  have K1 := hid (KZ.out w5 (Touch.refl _ _))
  go_wp2_with (first | refine wpList_load_row rfl 34 _ rfl (p + 1) rfl 34 _ (0, 0) _ Q5.out Tryz.underlying34 rfl info34 ?_ | fail)
  refine K1.out.mono ?_
  rintro e w6 ⟨rfl, t6⟩
  have T6 := hid (T5.out.trans t6 (fun _ _ e => e))
  have K2 := hid (KHA.out w6 t6)
  have U6 := hid t6
  have d1 : w6.cell? ⟨p, 1, none⟩ = some (.slice sa sn sc) := (t6.cell (p := ⟨p, 1, none⟩) (lt_of_block P5.out) id).trans c1
  clear c0 t6 K1 KZ KHA T5
  go_wp2_with fail
  refine K2.out.mono ?_
  rintro e w7 ⟨rfl, t7⟩
  have T7 := hid (T6.out.trans t7 (fun _ _ e => e))
  have K3 := hid (KHB.out w7 (U6.out.trans t7 (fun _ _ e => e)))
  have f1 : w7.cell? ⟨p, 1, none⟩ = some (.slice sa sn sc) := ((U6.out.trans t7 (fun _ _ e => e)).cell (p := ⟨p, 1, none⟩) (lt_of_block P5.out) id).trans c1
  clear c1 d1 t7 K2 KHB T6 U6
  go_wp2_with fail
  refine K3.out.mono ?_
  rintro e w8 ⟨rfl, t8⟩
  have T8 := hid (T7.out.trans t8 (fun _ _ e => e))
  clear f1 t8 K3 T7
  go_wp2
  go_ret
  exact ⟨rfl, T8.out⟩
set_option maxRecDepth 100000 in
set_option maxHeartbeats 8000000 in
theorem ranges_tout (x y : Int) (ho : ¬ (0 ≤ x ∧ x ≤ 1114111 ∧ 0 ≤ y ∧ y ≤ 1114111)) (w : World) (ht : TabsK w) (hx : Sx w) (h7 : 7 ≤ w.heap.size) :
    Calls Tryz.prog 9 #[.int .i64 x, .int .i64 y, .bool true] w fun e w' => e = .returned (.bool true) ∧ Touch (fun _ => False) w w' := by
  obtain ⟨a, ea⟩ : ∃ a : Nat, a = 5 := ⟨_, rfl⟩
  obtain ⟨b, eb⟩ : ∃ b : Nat, b = 9 := ⟨_, rfl⟩
  have ha : a ≤ 1114111 := by omega
  have hb : b ≤ 1114111 := by omega
  have hg : ¬ b < a := by omega
  have EA := hid (show ((5 : Int)) = (a : Int) from by rw [ea]; rfl)
  have EB := hid (show ((9 : Int)) = (b : Int) from by rw [eb]; rfl)
  clear ea eb
  have KS := hid (speaks_yes w ht hx h7)
  have KP := hid (fun (wq : World) (t : Touch (fun _ => False) w wq) => parse_any (bytesI (rangeL true a b)) fl0 wq (ht.new t) (hx.new t) (Nat.le_trans h7 t.size))
  rw [range_prs true a b ha hb rfl, if_neg hg, range_txt] at KP
  rw [show (if true = true then notR [((a : Int), (b : Int))] else cnR [((a : Int), (b : Int))]) = setR true a b from rfl] at KP
  have HZ := hid (set_size_t a b (by omega) hb)
  have HA := hid (set_has true a b a (.inl rfl) (by omega) hb)
  have HB := hid (set_has true a b b (.inr rfl) (by omega) hb)
  have HCN := hid (set_canon true a b)
  generalize setR true a b = S at *
  rw [if_pos rfl] at KP
  unfold fl0 PrsP at KP
  simp only at KP
  have KA := hid (fun wq => sixteen_says a ha wq)
  have KB := hid (fun wq => sixteen_says b hb wq)
  have hA := hex_size a ha
  have hB := hex_size b hb
  have haI : (a : Int) ≤ 1114111 := by omega
  have hbI : (b : Int) ≤ 1114111 := by omega
  clear ht hx h7 ha hb
  generalize bytesI (hexL 6 a) = A at *
  generalize bytesI (hexL 6 b) = B at *
  have HG := hid hg
  clear hg
  go_enter Tryz.func9, Tryz.ntmps9
  go_wp2_with fail
  refine KS.out.mono ?_
  rintro e w1 ⟨rfl, t1⟩
  have T1 := hid t1
  clear t1 KS
  go_upto_region 3 with fail
  go_cut [27] (fun v wd => v = .bool true ∧ w1 = wd)
  case first =>
    by_cases h1 : x < 0
    · go_wp2
      go_meet
      case rel => exact ⟨rfl, rfl⟩
    · by_cases h2 : 1114111 < x
      · go_wp2
        go_meet
        case rel => exact ⟨rfl, rfl⟩
      · by_cases h3 : y < 0
        · go_wp2
          go_meet
          case rel => exact ⟨rfl, rfl⟩
        · have h4 : 1114111 < y := by omega
          go_wp2
          go_meet
          case rel => exact ⟨rfl, rfl⟩
  obtain ⟨rfl, rfl⟩ := hcut
  go_upto_region 5 with fail
  rw [EA.out, EB.out]
  clear EA EB
  have KA1 := hid (KA.out w1)
  go_wp2_with fail
  refine KA1.out.mono ?_
  rintro e w2 ⟨rfl, t2⟩
  have T2 := hid (T1.out.trans t2 (fun _ _ e => e))
  clear t2 KA KA1 T1
  have KB1 := hid (KB.out w2)
  go_wp2_with fail
  refine KB1.out.mono ?_
  rintro e w3 ⟨rfl, t3⟩
  have T3 := hid (T2.out.trans t3 (fun _ _ e => e))
  clear t3 KB KB1 T2
  have KP2 := hid (KP.out _ T3.out)
  clear KP
  go_wp2_with fail
  refine KP2.out.mono ?_
  rintro e w4 ⟨c, an, nn, cn, rfl, ht4, hs4, hn4, t4⟩
  have T4 := hid (T3.out.trans t4 (fun _ _ e => e))
  have e1 := ht4.inv.1
  have sr := ht4.inv.2.1
  obtain ⟨ck, sa, sn, sc, fo, mi, ma, la, ca, nm, ka, kn, kc⟩ := c
  simp only at e1 sr
  obtain ⟨rfl, rfl, rfl, rfl, rfl, rfl, rfl⟩ := e1
  have RG4 := hid sr.rg.1
  have HSN := hid sr.rg.2
  unfold Cel.arr
  clear t4 T3 KP2 ht4 hs4 hn4 sr
  go_upto_region 9 with fail
  have HK := kept2 w4 #[.int .i64 1, .slice sa sn sc, .bool false, .int .i64 0, .int .i64 0, .bool false, .int .i64 0, .string ⟨#[]⟩, .slice ka kn kc, .slice an nn cn] #[.int .i64 0, .int .i64 0]
  generalize (w4.alloc (.cells #[.int .i64 1, .slice sa sn sc, .bool false, .int .i64 0, .int .i64 0, .bool false, .int .i64 0, .string ⟨#[]⟩, .slice ka kn kc, .slice an nn cn] 31)).alloc (.cells #[.int .i64 0, .int .i64 0] 34) = w5 at *
  obtain ⟨hp5, hq5, t5⟩ := HK
  have T5 := hid (T4.out.trans t5 (fun _ _ e => e))
  have RG5 := hid (RG4.out.kept t5 (fun _ _ _ _ e => e))
  clear RG4
  obtain ⟨p, hpe⟩ : ∃ p, p = w4.heap.size := ⟨_, rfl⟩
  rw [← hpe] at hp5 hq5 ⊢
  clear hpe T4 t5
  have P5 := hid hp5
  have Q5 := hid hq5
  clear hp5 hq5
  have g9 : ¬ (b : Int) < (a : Int) := by have := HG.out; omega
  have KZ := hid (fun (wq : World) (t : Touch (fun _ => False) w5 wq) => size_says sa sc S wq (RG5.out.kept t (fun _ _ _ _ e => e)) HCN.out)
  have KHA := hid (fun (wq : World) (t : Touch (fun _ => False) w5 wq) => has_says sa sc S (a : Int) wq (RG5.out.kept t (fun _ _ _ _ e => e)) HCN.out)
  have KHB := hid (fun (wq : World) (t : Touch (fun _ => False) w5 wq) => has_says sa sc S (b : Int) wq (RG5.out.kept t (fun _ _ _ _ e => e)) HCN.out)
  rw [← HSN.out, HZ.out] at KZ
  rw [← HSN.out, HA.out] at KHA
  rw [← HSN.out, HB.out] at KHB
  rw [show (!true) = false from rfl] at KHA KHB
  have c0 : w5.cell? ⟨p, 0, none⟩ = some (.int .i64 1) := cell_of P5.out 0 _ rfl
  have c1 : w5.cell? ⟨p, 1, none⟩ = some (.slice sa sn sc) := cell_of P5.out 1 _ rfl
  have K1 := hid (KZ.out w5 (Touch.refl _ _))
  go_wp2_with (first | refine wpList_load_row rfl 34 _ rfl (p + 1) rfl 34 _ (0, 0) _ Q5.out Tryz.underlying34 rfl info34 ?_ | fail)
  refine K1.out.mono ?_
  rintro e w6 ⟨rfl, t6⟩
  have T6 := hid (T5.out.trans t6 (fun _ _ e => e))
  have K2 := hid (KHA.out w6 t6)
  have U6 := hid t6
  have d1 : w6.cell? ⟨p, 1, none⟩ = some (.slice sa sn sc) := (t6.cell (p := ⟨p, 1, none⟩) (lt_of_block P5.out) id).trans c1
  clear c0 t6 K1 KZ KHA T5
  go_wp2_with fail
  refine K2.out.mono ?_
  rintro e w7 ⟨rfl, t7⟩
  have T7 := hid (T6.out.trans t7 (fun _ _ e => e))
  have K3 := hid (KHB.out w7 (U6.out.trans t7 (fun _ _ e => e)))
  have f1 : w7.cell? ⟨p, 1, none⟩ = some (.slice sa sn sc) := ((U6.out.trans t7 (fun _ _ e => e)).cell (p := ⟨p, 1, none⟩) (lt_of_block P5.out) id).trans c1
  clear c1 d1 t7 K2 KHB T6 U6
  go_wp2_with fail
  refine K3.out.mono ?_
  rintro e w8 ⟨rfl, t8⟩
  have T8 := hid (T7.out.trans t8 (fun _ _ e => e))
  clear f1 t8 K3 T7
  go_wp2
  go_ret
  exact ⟨rfl, T8.out⟩
set_option maxRecDepth 100000 in
set_option maxHeartbeats 8000000 in
theorem ranges_fbad (a b : Nat) (ha : a ≤ 1114111) (hb : b ≤ 1114111) (hg : b < a) (w : World) (ht : TabsK w) (hx : Sx w) (h7 : 7 ≤ w.heap.size) :
    Calls Tryz.prog 9 #[.int .i64 (a : Int), .int .i64 (b : Int), .bool false] w fun e w' => e = .returned (.bool true) ∧ Touch (fun _ => False) w w' := by
  have KS := hid (speaks_yes w ht hx h7)
  have KP := hid (fun (wq : World) (t : Touch (fun _ => False) w wq) => parse_any (bytesI (rangeL false a b)) fl0 wq (ht.new t) (hx.new t) (Nat.le_trans h7 t.size))
  rw [range_prs false a b ha hb rfl, if_pos hg, range_txt] at KP
  rw [if_neg (by decide)] at KP
  unfold fl0 PrsP at KP
  simp only at KP
  have KA := hid (fun wq => sixteen_says a ha wq)
  have KB := hid (fun wq => sixteen_says b hb wq)
  have hA := hex_size a ha
  have hB := hex_size b hb
  have haI : (a : Int) ≤ 1114111 := by omega
  have hbI : (b : Int) ≤ 1114111 := by omega
  clear ht hx h7 ha hb
  generalize bytesI (hexL 6 a) = A at *
  generalize bytesI (hexL 6 b) = B at *
  have HG := hid hg
  clear hg
  go_enter Tryz.func9, Tryz.ntmps9
  go_wp2_with fail
  refine KS.out.mono ?_
  rintro e w1 ⟨rfl, t1⟩
  have T1 := hid t1
  clear t1 KS
  go_upto_region 3 with fail
  go_cut [27] (fun v wd => v = .bool false ∧ w1 = wd)
  case first =>
    have g1 : ¬ (a : Int) < 0 := by omega
    have g2 : ¬ (1114111 : Int) < (a : Int) := by omega
    have g3 : ¬ (b : Int) < 0 := by omega
    have g4 : ¬ (1114111 : Int) < (b : Int) := by omega
    go_wp2
    go_meet
    case rel => exact ⟨rfl, rfl⟩
  obtain ⟨rfl, rfl⟩ := hcut
  have KA1 := hid (KA.out w1)
  go_wp2_with fail
  refine KA1.out.mono ?_
  rintro e w2 ⟨rfl, t2⟩
  have T2 := hid (T1.out.trans t2 (fun _ _ e => e))
  clear t2 KA KA1 T1
  have KB1 := hid (KB.out w2)
  go_wp2_with fail
  refine KB1.out.mono ?_
  rintro e w3 ⟨rfl, t3⟩
  have T3 := hid (T2.out.trans t3 (fun _ _ e => e))
  clear t3 KB KB1 T2
  have KP2 := hid (KP.out _ T3.out)
  clear KP
  go_wp2_with fail
  refine KP2.out.mono ?_
  rintro e w4 ⟨rfl, t4⟩
  have T4 := hid (T3.out.trans t4 (fun _ _ e => e))
  unfold zPat
  clear t4 T3 KP2
  go_upto_region 9 with fail
  have HK := kept2 w4 #[.int .i64 0, .slice none 0 0, .bool false, .int .i64 0, .int .i64 0, .bool false, .int .i64 0, .string ⟨#[]⟩, .slice none 0 0, .slice none 0 0] #[.int .i64 22, .int .i64 1]
  generalize (w4.alloc (.cells #[.int .i64 0, .slice none 0 0, .bool false, .int .i64 0, .int .i64 0, .bool false, .int .i64 0, .string ⟨#[]⟩, .slice none 0 0, .slice none 0 0] 31)).alloc (.cells #[.int .i64 22, .int .i64 1] 34) = w5 at *
  obtain ⟨hp5, hq5, t5⟩ := HK
  have T5 := hid (T4.out.trans t5 (fun _ _ e => e))
  obtain ⟨p, hpe⟩ : ∃ p, p = w4.heap.size := ⟨_, rfl⟩
  rw [← hpe] at hp5 hq5 ⊢
  clear hpe T4 t5
  have P5 := hid hp5
  have Q5 := hid hq5
  clear hp5 hq5
  have g9 : (b : Int) < (a : Int) := by have := HG.out; omega
  go_wp2_with (first | refine wpList_load_row rfl 34 _ rfl (p + 1) rfl 34 _ (0, 0) _ Q5.out Tryz.underlying34 rfl info34 ?_ | fail)
  go_ret
  exact ⟨rfl, T5.out⟩
set_option maxRecDepth 100000 in
set_option maxHeartbeats 8000000 in
theorem ranges_fgood (a b : Nat) (ha : a ≤ 1114111) (hb : b ≤ 1114111) (hg : ¬ b < a) (w : World) (ht : TabsK w) (hx : Sx w) (h7 : 7 ≤ w.heap.size) :
    Calls Tryz.prog 9 #[.int .i64 (a : Int), .int .i64 (b : Int), .bool false] w fun e w' => e = .returned (.bool true) ∧ Touch (fun _ => False) w w' := by
  have KS := hid (speaks_yes w ht hx h7)
  have KP := hid (fun (wq : World) (t : Touch (fun _ => False) w wq) => parse_any (bytesI (rangeL false a b)) fl0 wq (ht.new t) (hx.new t) (Nat.le_trans h7 t.size))
  rw [range_prs false a b ha hb rfl, if_neg hg, range_txt] at KP
  rw [show (if false = true then notR [((a : Int), (b : Int))] else cnR [((a : Int), (b : Int))]) = setR false a b from rfl] at KP
  have HZ := hid (set_size_f a b (by omega) hb)
  have HA := hid (set_has false a b a (.inl rfl) (by omega) hb)
  have HB := hid (set_has false a b b (.inr rfl) (by omega) hb)
  have HCN := hid (set_canon false a b)
  generalize setR false a b = S at *
  rw [if_neg (by decide)] at KP
  unfold fl0 PrsP at KP
  simp only at KP
  have KA := hid (fun wq => sixteen_says a ha wq)
  have KB := hid (fun wq => sixteen_says b hb wq)
  have hA := hex_size a ha
  have hB := hex_size b hb
  have haI : (a : Int) ≤ 1114111 := by omega
  have hbI : (b : Int) ≤ 1114111 := by omega
  clear ht hx h7 ha hb
  generalize bytesI (hexL 6 a) = A at *
  generalize bytesI (hexL 6 b) = B at *
  have HG := hid hg
  clear hg
  go_enter Tryz.func9, Tryz.ntmps9
  go_wp2_with fail
  refine KS.out.mono ?_
  rintro e w1 ⟨rfl, t1⟩
  have T1 := hid t1
  clear t1 KS
  go_upto_region 3 with fail
  go_cut [27] (fun v wd => v = .bool false ∧ w1 = wd)
  case first =>
    have g1 : ¬ (a : Int) < 0 := by omega
    have g2 : ¬ (1114111 : Int) < (a : Int) := by omega
    have g3 : ¬ (b : Int) < 0 := by omega
    have g4 : ¬ (1114111 : Int) < (b : Int) := by omega
    go_wp2
    go_meet
    case rel => exact ⟨rfl, rfl⟩
  obtain ⟨rfl, rfl⟩ := hcut
  have KA1 := hid (KA.out w1)
  go_wp2_with fail
  refine KA1.out.mono ?_
  rintro e w2 ⟨rfl, t2⟩
  have T2 := hid (T1.out.trans t2 (fun _ _ e => e))
  clear t2 KA KA1 T1
  have KB1 := hid (KB.out w2)
  go_wp2_with fail
  refine KB1.out.mono ?_
  rintro e w3 ⟨rfl, t3⟩
  have T3 := hid (T2.out.trans t3 (fun _ _ e => e))
  clear t3 KB KB1 T2
  have KP2 := hid (KP.out _ T3.out)
  clear KP
  go_wp2_with fail
  refine KP2.out.mono ?_
  rintro e w4 ⟨c, an, nn, cn, rfl, ht4, hs4, hn4, t4⟩
  have T4 := hid (T3.out.trans t4 (fun _ _ e => e))
  have e1 := ht4.inv.1
  have sr := ht4.inv.2.1
  obtain ⟨ck, sa, sn, sc, fo, mi, ma, la, ca, nm, ka, kn, kc⟩ := c
  simp only at e1 sr
  obtain ⟨rfl, rfl, rfl, rfl, rfl, rfl, rfl⟩ := e1
  have RG4 := hid sr.rg.1
  have HSN := hid sr.rg.2
  unfold Cel.arr
  clear t4 T3 KP2 ht4 hs4 hn4 sr
  go_upto_region 9 with fail
  have HK := kept2 w4 #[.int .i64 1, .slice sa sn sc, .bool false, .int .i64 0, .int .i64 0, .bool false, .int .i64 0, .string ⟨#[]⟩, .slice ka kn kc, .slice an nn cn] #[.int .i64 0, .int .i64 0]
  generalize (w4.alloc (.cells #[.int .i64 1, .slice sa sn sc, .bool false, .int .i64 0, .int .i64 0, .bool false, .int .i64 0, .string ⟨#[]⟩, .slice ka kn kc, .slice an nn cn] 31)).alloc (.cells #[.int .i64 0, .int .i64 0] 34) = w5 at *
  obtain ⟨hp5, hq5, t5⟩ := HK
  have T5 := hid (T4.out.trans t5 (fun _ _ e => e))
  have RG5 := hid (RG4.out.kept t5 (fun _ _ _ _ e => e))
  clear RG4
  obtain ⟨p, hpe⟩ : ∃ p, p = w4.heap.size := ⟨_, rfl⟩
  rw [← hpe] at hp5 hq5 ⊢
  clear hpe T4 t5
  have P5 := hid hp5
  have Q5 := hid hq5
  clear hp5 hq5
  have g9 : ¬ (b : Int) < (a : Int) := by have := HG.out; omega
  have KZ := hid (fun (wq : World) (t : Touch (fun _ => False) w5 wq) => size_says sa sc S wq (RG5.out.kept t (fun _ _ _ _ e => e)) HCN.out)
  have KHA := hid (fun (wq : World) (t : Touch (fun _ => False) w5 wq) => has_says sa sc S (a : Int) wq (RG5.out.kept t (fun _ _ _ _ e => e)) HCN.out)
  have KHB := hid (fun (wq : World) (t : Touch (fun _ => False) w5 wq) => has_says sa sc S (b : Int) wq (RG5.out.kept t (fun _ _ _ _ e => e)) HCN.out)
  rw [← HSN.out, HZ.out] at KZ
  rw [← HSN.out, HA.out] at KHA
  rw [← HSN.out, HB.out] at KHB
  rw [show (!false) = true from rfl] at KHA KHB
  have c0 : w5.cell? ⟨p, 0, none⟩ = some (.int .i64 1) := cell_of P5.out 0 _ rfl
  have c1 : w5.cell? ⟨p, 1, none⟩ = some (.slice sa sn sc) := cell_of P5.out 1 _ rfl
  have K1 := hid (KZ.out w5 (Touch.refl _ _))
  go_wp2_with (first | refine wpList_load_row rfl 34 _ rfl (p + 1) rfl 34 _ (0, 0) _ Q5.out Tryz.underlying34 rfl info34 ?_ | fail)
  refine K1.out.mono ?_
  rintro e w6 ⟨rfl, t6⟩
  have T6 := hid (T5.out.trans t6 (fun _ _ e => e))
  have K2 := hid (KHA.out w6 t6)
  have U6 := hid t6
  have d1 : w6.cell? ⟨p, 1, none⟩ = some (.slice sa sn sc) := (t6.cell (p := ⟨p, 1, none⟩) (lt_of_block P5.out) id).trans c1
  clear c0 t6 K1 KZ KHA T5
  go_wp2_with fail
  refine K2.out.mono ?_
  rintro e w7 ⟨rfl, t7⟩
  have T7 := hid (T6.out.trans t7 (fun _ _ e => e))
  have K3 := hid (KHB.out w7 (U6.out.trans t7 (fun _ _ e => e)))
  have f1 : w7.cell? ⟨p, 1, none⟩ = some (.slice sa sn sc) := ((U6.out.trans t7 (fun _ _ e => e)).cell (p := ⟨p, 1, none⟩) (lt_of_block P5.out) id).trans c1
  clear c1 d1 t7 K2 KHB T6 U6
  go_wp2_with fail
  refine K3.out.mono ?_
  rintro e w8 ⟨rfl, t8⟩
  have T8 := hid (T7.out.trans t8 (fun _ _ e => e))
  clear f1 t8 K3 T7
  go_wp2
  go_ret
  exact ⟨rfl, T8.out⟩
set_option maxRecDepth 100000 in
set_option maxHeartbeats 8000000 in
theorem ranges_fout (x y : Int) (ho : ¬ (0 ≤ x ∧ x ≤ 1114111 ∧ 0 ≤ y ∧ y ≤ 1114111)) (w : World) (ht : TabsK w) (hx : Sx w) (h7 : 7 ≤ w.heap.size) :
    Calls Tryz.prog 9 #[.int .i64 x, .int .i64 y, .bool false] w fun e w' => e = .returned (.bool true) ∧ Touch (fun _ => False) w w' := by
  obtain ⟨a, ea⟩ : ∃ a : Nat, a = 5 := ⟨_, rfl⟩
  obtain ⟨b, eb⟩ : ∃ b : Nat, b = 9 := ⟨_, rfl⟩
  have ha : a ≤ 1114111 := by omega
  have hb : b ≤ 1114111 := by omega
  have hg : ¬ b < a := by omega
  have EA := hid (show ((5 : Int)) = (a : Int) from by rw [ea]; rfl)
  have EB := hid (show ((9 : Int)) = (b : Int) from by rw [eb]; rfl)
  clear ea eb
  have KS := hid (speaks_yes w ht hx h7)
  have KP := hid (fun (wq : World) (t : Touch (fun _ => False) w wq) => parse_any (bytesI (rangeL false a b)) fl0 wq (ht.new t) (hx.new t) (Nat.le_trans h7 t.size))
  rw [range_prs false a b ha hb rfl, if_neg hg, range_txt] at KP
  rw [show (if false = true then notR [((a : Int), (b : Int))] else cnR [((a : Int), (b : Int))]) = setR false a b from rfl] at KP
  have HZ := hid (set_size_f a b (by omega) hb)
  have HA := hid (set_has false a b a (.inl rfl) (by omega) hb)
  have HB := hid (set_has false a b b (.inr rfl) (by omega) hb)
  have HCN := hid (set_canon false a b)
  generalize setR false a b = S at *
  rw [if_neg (by decide)] at KP
  unfold fl0 PrsP at KP
  simp only at KP
  have KA := hid (fun wq => sixteen_says a ha wq)
  have KB := hid (fun wq => sixteen_says b hb wq)
  have hA := hex_size a ha
  have hB := hex_size b hb
  have haI : (a : Int) ≤ 1114111 := by omega
  have hbI : (b : Int) ≤ 1114111 := by omega
  clear ht hx h7 ha hb
  generalize bytesI (hexL 6 a) = A at *
  generalize bytesI (hexL 6 b) = B at *
  have HG := hid hg
  clear hg
  go_enter Tryz.func9, Tryz.ntmps9
  go_wp2_with fail
  refine KS.out.mono ?_
  rintro e w1 ⟨rfl, t1⟩
  have T1 := hid t1
  clear t1 KS
  go_upto_region 3 with fail
  go_cut [27] (fun v wd => v = .bool true ∧ w1 = wd)
  case first =>
    by_cases h1 : x < 0
    · go_wp2
      go_meet
      case rel => exact ⟨rfl, rfl⟩
    · by_cases h2 : 1114111 < x
      · go_wp2
        go_meet
        case rel => exact ⟨rfl, rfl⟩
      · by_cases h3 : y < 0
        · go_wp2
          go_meet
          case rel => exact ⟨rfl, rfl⟩
        · have h4 : 1114111 < y := by omega
          go_wp2
          go_meet
          case rel => exact ⟨rfl, rfl⟩
  obtain ⟨rfl, rfl⟩ := hcut
  go_upto_region 5 with fail
  rw [EA.out, EB.out]
  clear EA EB
  have KA1 := hid (KA.out w1)
  go_wp2_with fail
  refine KA1.out.mono ?_
  rintro e w2 ⟨rfl, t2⟩
  have T2 := hid (T1.out.trans t2 (fun _ _ e => e))
  clear t2 KA KA1 T1
  have KB1 := hid (KB.out w2)
  go_wp2_with fail
  refine KB1.out.mono ?_
  rintro e w3 ⟨rfl, t3⟩
  have T3 := hid (T2.out.trans t3 (fun _ _ e => e))
  clear t3 KB KB1 T2
  have KP2 := hid (KP.out _ T3.out)
  clear KP
  go_wp2_with fail
  refine KP2.out.mono ?_
  rintro e w4 ⟨c, an, nn, cn, rfl, ht4, hs4, hn4, t4⟩
  have T4 := hid (T3.out.trans t4 (fun _ _ e => e))
  have e1 := ht4.inv.1
  have sr := ht4.inv.2.1
  obtain ⟨ck, sa, sn, sc, fo, mi, ma, la, ca, nm, ka, kn, kc⟩ := c
  simp only at e1 sr
  obtain ⟨rfl, rfl, rfl, rfl, rfl, rfl, rfl⟩ := e1
  have RG4 := hid sr.rg.1
  have HSN := hid sr.rg.2
  unfold Cel.arr
  clear t4 T3 KP2 ht4 hs4 hn4 sr
  go_upto_region 9 with fail
  have HK := kept2 w4 #[.int .i64 1, .slice sa sn sc, .bool false, .int .i64 0, .int .i64 0, .bool false, .int .i64 0, .string ⟨#[]⟩, .slice ka kn kc, .slice an nn cn] #[.int .i64 0, .int .i64 0]
  generalize (w4.alloc (.cells #[.int .i64 1, .slice sa sn sc, .bool false, .int .i64 0, .int .i64 0, .bool false, .int .i64 0, .string ⟨#[]⟩, .slice ka kn kc, .slice an nn cn] 31)).alloc (.cells #[.int .i64 0, .int .i64 0] 34) = w5 at *
  obtain ⟨hp5, hq5, t5⟩ := HK
  have T5 := hid (T4.out.trans t5 (fun _ _ e => e))
  have RG5 := hid (RG4.out.kept t5 (fun _ _ _ _ e => e))
  clear RG4
  obtain ⟨p, hpe⟩ : ∃ p, p = w4.heap.size := ⟨_, rfl⟩
  rw [← hpe] at hp5 hq5 ⊢
  clear hpe T4 t5
  have P5 := hid hp5
  have Q5 := hid hq5
  clear hp5 hq5
  have g9 : ¬ (b : Int) < (a : Int) := by have := HG.out; omega
  have KZ := hid (fun (wq : World) (t : Touch (fun _ => False) w5 wq) => size_says sa sc S wq (RG5.out.kept t (fun _ _ _ _ e => e)) HCN.out)
  have KHA := hid (fun (wq : World) (t : Touch (fun _ => False) w5 wq) => has_says sa sc S (a : Int) wq (RG5.out.kept t (fun _ _ _ _ e => e)) HCN.out)
  have KHB := hid (fun (wq : World) (t : Touch (fun _ => False) w5 wq) => has_says sa sc S (b : Int) wq (RG5.out.kept t (fun _ _ _ _ e => e)) HCN.out)
  rw [← HSN.out, HZ.out] at KZ
  rw [← HSN.out, HA.out] at KHA
  rw [← HSN.out, HB.out] at KHB
  rw [show (!false) = true from rfl] at KHA KHB
  have c0 : w5.cell? ⟨p, 0, none⟩ = some (.int .i64 1) := cell_of P5.out 0 _ rfl
  have c1 : w5.cell? ⟨p, 1, none⟩ = some (.slice sa sn sc) := cell_of P5.out 1 _ rfl
  have K1 := hid (KZ.out w5 (Touch.refl _ _))
  go_wp2_with (first | refine wpList_load_row rfl 34 _ rfl (p + 1) rfl 34 _ (0, 0) _ Q5.out Tryz.underlying34 rfl info34 ?_ | fail)
  refine K1.out.mono ?_
  rintro e w6 ⟨rfl, t6⟩
  have T6 := hid (T5.out.trans t6 (fun _ _ e => e))
  have K2 := hid (KHA.out w6 t6)
  have U6 := hid t6
  have d1 : w6.cell? ⟨p, 1, none⟩ = some (.slice sa sn sc) := (t6.cell (p := ⟨p, 1, none⟩) (lt_of_block P5.out) id).trans c1
  clear c0 t6 K1 KZ KHA T5
  go_wp2_with fail
  refine K2.out.mono ?_
  rintro e w7 ⟨rfl, t7⟩
  have T7 := hid (T6.out.trans t7 (fun _ _ e => e))
  have K3 := hid (KHB.out w7 (U6.out.trans t7 (fun _ _ e => e)))
  have f1 : w7.cell? ⟨p, 1, none⟩ = some (.slice sa sn sc) := ((U6.out.trans t7 (fun _ _ e => e)).cell (p := ⟨p, 1, none⟩) (lt_of_block P5.out) id).trans c1
  clear c1 d1 t7 K2 KHB T6 U6
  go_wp2_with fail
  refine K3.out.mono ?_
  rintro e w8 ⟨rfl, t8⟩
  have T8 := hid (T7.out.trans t8 (fun _ _ e => e))
  clear f1 t8 K3 T7
  go_wp2
  go_ret
  exact ⟨rfl, T8.out⟩
theorem ranges_walk (x y : Int) (z : Bool) (w : World) (ht : TabsK w) (hx : Sx w) (h7 : 7 ≤ w.heap.size) :
    Calls Tryz.prog 9 #[.int .i64 x, .int .i64 y, .bool z] w fun e w' => e = .returned (.bool true) ∧ Touch (fun _ => False) w w' := by
  by_cases ho : 0 ≤ x ∧ x ≤ 1114111 ∧ 0 ≤ y ∧ y ≤ 1114111
  · obtain ⟨a, rfl⟩ := Int.eq_ofNat_of_zero_le ho.1
    obtain ⟨b, rfl⟩ := Int.eq_ofNat_of_zero_le ho.2.2.1
    by_cases hg : b < a
    · cases z
      · exact ranges_fbad a b (by omega) (by omega) hg w ht hx h7
      · exact ranges_tbad a b (by omega) (by omega) hg w ht hx h7
    · cases z
      · exact ranges_fgood a b (by omega) (by omega) hg w ht hx h7
      · exact ranges_tgood a b (by omega) (by omega) hg w ht hx h7
  · cases z
    · exact ranges_fout x y ho w ht hx h7
    · exact ranges_tout x y ho w ht hx h7
end Go.Proofs.YtdhhcefmmojcmaaGreatDoor
