/- SyntaxTimes' walk; no condition. -/
import Derived.Test.YtdhhcefmmojcmaaGreatDoorZl
import Derived.Laws.Bits128
namespace Go.Proofs.YtdhhcefmmojcmaaGreatDoor
open Go.RowKit
open Go.Lib

theorem bytesI_app (l m : List Int) : bytesI (l ++ m) = bytesI l ++ bytesI m := by
  apply ByteArray.ext
  rw [ByteArray.data_append]
  simp [bytesI]
theorem times_txt (a b : Nat) (z : Bool) : bytesI (timesL a b z) = ((((⟨#[120, 123]⟩ : ByteArray) ++ bytesI (decL a)) ++ ⟨#[44]⟩) ++ bytesI (decL b)) ++ ⟨#[125]⟩ ++ (if z then ⟨#[63]⟩ else ⟨#[]⟩) := by
  unfold timesL
  rw [bytesI_app, bytesI_app, bytesI_app, bytesI_app, bytesI_app]
  rw [show bytesI [120, 123] = ⟨#[120, 123]⟩ from rfl, show bytesI [44] = ⟨#[44]⟩ from rfl, show bytesI [125] = ⟨#[125]⟩ from rfl, show bytesI (if z then [63] else []) = (if z then ⟨#[63]⟩ else ⟨#[]⟩) from by cases z <;> rfl]
  simp only [ByteArray.append_assoc]
theorem ba_nil (x : ByteArray) : x ++ (⟨#[]⟩ : ByteArray) = x := by
  apply ByteArray.ext
  rw [ByteArray.data_append]
  simp
theorem dec_size (n : Nat) (h : n < 128) : (bytesI (decL n)).size ≤ 3 := by
  have := (dec_ok n h).1
  have e : (bytesI (decL n)).size = (decL n).length := by simp [bytesI, ByteArray.size]
  omega
set_option maxRecDepth 100000 in
set_option maxHeartbeats 8000000 in
theorem times_tg (x y : Int) (a b : Nat) (ha : a < 128) (hb : b < 128) (hxa : bits .and .i64 x 127 = (a : Int)) (hyb : bits .and .i64 y 127 = (b : Int)) (hg : ¬ (64 < a ∨ 64 < b ∨ b < a)) (w : World) (ht : TabsK w) (hx : Sx w) (h7 : 7 ≤ w.heap.size) :
    Calls Tryz.prog 6 #[.int .i64 x, .int .i64 y, .bool true] w fun e w' => e = .returned (.bool true) ∧ Touch (fun _ => False) w w' := by
  have KS := hid (speaks_yes w ht hx h7)
  have KP := hid (fun (wq : World) (t : Touch (fun _ => False) w wq) => parse_any (bytesI (timesL a b true)) fl0 wq (ht.new t) (hx.new t) (Nat.le_trans h7 t.size))
  rw [times_prs a b ha hb true rfl, if_neg hg, times_txt] at KP
  rw [if_pos rfl] at KP
  unfold fl0 PrsP at KP
  simp only at KP
  have KA := hid (fun wq => number_says a ha wq)
  have KB := hid (fun wq => number_says b hb wq)
  have hA := dec_size a ha
  have hB := dec_size b hb
  clear ht hx h7
  generalize bytesI (decL a) = A at *
  generalize bytesI (decL b) = B at *
  have HG := hid hg
  clear hg
  go_enter Tryz.func6, Tryz.ntmps6
  go_wp2_with fail
  refine KS.out.mono ?_
  rintro e w1 ⟨rfl, t1⟩
  have T1 := hid t1
  clear t1 KS
  have KA1 := hid (KA.out w1)
  go_wp2_with fail
  refine KA1.out.mono ?_
  rintro e w2 ⟨rfl, t2⟩
  have T2 := hid (T1.out.trans t2 (fun _ _ e => e))
  clear t2 KA KA1 T1
  have KB1 := hid (KB.out w2)
  go_wp2_with fail
  refine KB1.out.mono ?_
  rintro e w3 ⟨rfl, t3⟩
  have T3 := hid (T2.out.trans t3 (fun _ _ e => e))
  clear t3 KB KB1 T2
  have KP2 := hid (KP.out _ T3.out)
  clear KP
  go_wp2_with fail
  refine KP2.out.mono ?_
  rintro e w4 ⟨c, an, nn, cn, rfl, ht4, hs4, hn4, t4⟩
  have T4 := hid (T3.out.trans t4 (fun _ _ e => e))
  have e1 := ht4.inv.1
  obtain ⟨ck, sa, sn, sc, fo, mi, ma, la, ca, nm, ka, kn, kc⟩ := c
  simp only at e1
  obtain ⟨rfl, rfl, rfl, rfl, rfl, rfl, rfl⟩ := e1
  unfold Cel.arr
  clear t4 T3 KP2 ht4 hs4 hn4
  go_upto_region 8 with fail
  have HK := kept2 w4 #[.int .i64 10, .slice sa sn sc, .bool false, .int .i64 (a : Nat), .int .i64 (b : Nat), .bool true, .int .i64 0, .string ⟨#[]⟩, .slice ka kn kc, .slice an nn cn] #[.int .i64 0, .int .i64 0]
  generalize (w4.alloc (.cells #[.int .i64 10, .slice sa sn sc, .bool false, .int .i64 (a : Nat), .int .i64 (b : Nat), .bool true, .int .i64 0, .string ⟨#[]⟩, .slice ka kn kc, .slice an nn cn] 31)).alloc (.cells #[.int .i64 0, .int .i64 0] 34) = w5 at *
  obtain ⟨hp5, hq5, t5⟩ := HK
  have T5 := hid (T4.out.trans t5 (fun _ _ e => e))
  obtain ⟨p, hpe⟩ : ∃ p, p = w4.heap.size := ⟨_, rfl⟩
  rw [← hpe] at hp5 hq5 ⊢
  clear hpe T4 t5
  have P5 := hid hp5
  have Q5 := hid hq5
  clear hp5 hq5
  go_cut [43] (fun v wd => v = .bool false ∧ w5 = wd)
  case first =>
    have g1 : ¬ (64 : Int) < (a : Int) := by have := HG.out; omega
    have g2 : ¬ (64 : Int) < (b : Int) := by have := HG.out; omega
    have g3 : ¬ (b : Int) < (a : Int) := by have := HG.out; omega
    go_wp2
    go_meet
    case rel => exact ⟨rfl, rfl⟩
  obtain ⟨rfl, rfl⟩ := hcut
  have c0 : w5.cell? ⟨p, 0, none⟩ = some (.int .i64 10) := cell_of P5.out 0 _ rfl
  have c3 : w5.cell? ⟨p, 3, none⟩ = some (.int .i64 (a : Nat)) := cell_of P5.out 3 _ rfl
  have c4 : w5.cell? ⟨p, 4, none⟩ = some (.int .i64 (b : Nat)) := cell_of P5.out 4 _ rfl
  have c5 : w5.cell? ⟨p, 5, none⟩ = some (.bool true) := cell_of P5.out 5 _ rfl
  go_wp2_with (first | refine wpList_load_row rfl 34 _ rfl (p + 1) rfl 34 _ (0, 0) _ Q5.out Tryz.underlying34 rfl info34 ?_ | fail)
  go_ret
  exact ⟨rfl, T5.out⟩
set_option maxRecDepth 100000 in
set_option maxHeartbeats 8000000 in
theorem times_tb (x y : Int) (a b : Nat) (ha : a < 128) (hb : b < 128) (hxa : bits .and .i64 x 127 = (a : Int)) (hyb : bits .and .i64 y 127 = (b : Int)) (hg : 64 < a ∨ 64 < b ∨ b < a) (w : World) (ht : TabsK w) (hx : Sx w) (h7 : 7 ≤ w.heap.size) :
    Calls Tryz.prog 6 #[.int .i64 x, .int .i64 y, .bool true] w fun e w' => e = .returned (.bool true) ∧ Touch (fun _ => False) w w' := by
  have KS := hid (speaks_yes w ht hx h7)
  have KP := hid (fun (wq : World) (t : Touch (fun _ => False) w wq) => parse_any (bytesI (timesL a b true)) fl0 wq (ht.new t) (hx.new t) (Nat.le_trans h7 t.size))
  rw [times_prs a b ha hb true rfl, if_pos hg, times_txt] at KP
  rw [if_pos rfl] at KP
  unfold fl0 PrsP at KP
  simp only at KP
  have KA := hid (fun wq => number_says a ha wq)
  have KB := hid (fun wq => number_says b hb wq)
  have hA := dec_size a ha
  have hB := dec_size b hb
  clear ht hx h7
  generalize bytesI (decL a) = A at *
  generalize bytesI (decL b) = B at *
  have HG := hid hg
  clear hg
  go_enter Tryz.func6, Tryz.ntmps6
  go_wp2_with fail
  refine KS.out.mono ?_
  rintro e w1 ⟨rfl, t1⟩
  have T1 := hid t1
  clear t1 KS
  have KA1 := hid (KA.out w1)
  go_wp2_with fail
  refine KA1.out.mono ?_
  rintro e w2 ⟨rfl, t2⟩
  have T2 := hid (T1.out.trans t2 (fun _ _ e => e))
  clear t2 KA KA1 T1
  have KB1 := hid (KB.out w2)
  go_wp2_with fail
  refine KB1.out.mono ?_
  rintro e w3 ⟨rfl, t3⟩
  have T3 := hid (T2.out.trans t3 (fun _ _ e => e))
  clear t3 KB KB1 T2
  have KP2 := hid (KP.out _ T3.out)
  clear KP
  go_wp2_with fail
  refine KP2.out.mono ?_
  rintro e w4 ⟨rfl, t4⟩
  have T4 := hid (T3.out.trans t4 (fun _ _ e => e))
  unfold zPat
  clear t4 T3 KP2
  go_upto_region 8 with fail
  have HK := kept2 w4 #[.int .i64 0, .slice none 0 0, .bool false, .int .i64 0, .int .i64 0, .bool false, .int .i64 0, .string ⟨#[]⟩, .slice none 0 0, .slice none 0 0] #[.int .i64 23, .int .i64 1]
  generalize (w4.alloc (.cells #[.int .i64 0, .slice none 0 0, .bool false, .int .i64 0, .int .i64 0, .bool false, .int .i64 0, .string ⟨#[]⟩, .slice none 0 0, .slice none 0 0] 31)).alloc (.cells #[.int .i64 23, .int .i64 1] 34) = w5 at *
  obtain ⟨hp5, hq5, t5⟩ := HK
  have T5 := hid (T4.out.trans t5 (fun _ _ e => e))
  obtain ⟨p, hpe⟩ : ∃ p, p = w4.heap.size := ⟨_, rfl⟩
  rw [← hpe] at hp5 hq5 ⊢
  clear hpe T4 t5
  have P5 := hid hp5
  have Q5 := hid hq5
  clear hp5 hq5
  go_cut [43] (fun v wd => v = .bool true ∧ w5 = wd)
  case first =>
    by_cases h1 : 64 < a
    · have g1 : (64 : Int) < (a : Int) := by omega
      go_wp2
      go_meet
      case rel => exact ⟨rfl, rfl⟩
    · have g1 : ¬ (64 : Int) < (a : Int) := by omega
      by_cases h2 : 64 < b
      · have g2 : (64 : Int) < (b : Int) := by omega
        go_wp2
        go_meet
        case rel => exact ⟨rfl, rfl⟩
      · have g2 : ¬ (64 : Int) < (b : Int) := by omega
        have g3 : (b : Int) < (a : Int) := by have := HG.out; omega
        go_wp2
        go_meet
        case rel => exact ⟨rfl, rfl⟩
  obtain ⟨rfl, rfl⟩ := hcut
  go_wp2_with (first | refine wpList_load_row rfl 34 _ rfl (p + 1) rfl 34 _ (0, 0) _ Q5.out Tryz.underlying34 rfl info34 ?_ | fail)
  go_ret
  exact ⟨rfl, T5.out⟩
set_option maxRecDepth 100000 in
set_option maxHeartbeats 8000000 in
theorem times_fg (x y : Int) (a b : Nat) (ha : a < 128) (hb : b < 128) (hxa : bits .and .i64 x 127 = (a : Int)) (hyb : bits .and .i64 y 127 = (b : Int)) (hg : ¬ (64 < a ∨ 64 < b ∨ b < a)) (w : World) (ht : TabsK w) (hx : Sx w) (h7 : 7 ≤ w.heap.size) :
    Calls Tryz.prog 6 #[.int .i64 x, .int .i64 y, .bool false] w fun e w' => e = .returned (.bool true) ∧ Touch (fun _ => False) w w' := by
  have KS := hid (speaks_yes w ht hx h7)
  have KP := hid (fun (wq : World) (t : Touch (fun _ => False) w wq) => parse_any (bytesI (timesL a b false)) fl0 wq (ht.new t) (hx.new t) (Nat.le_trans h7 t.size))
  rw [times_prs a b ha hb false rfl, if_neg hg, times_txt] at KP
  rw [if_neg (by decide), ba_nil] at KP
  unfold fl0 PrsP at KP
  simp only at KP
  have KA := hid (fun wq => number_says a ha wq)
  have KB := hid (fun wq => number_says b hb wq)
  have hA := dec_size a ha
  have hB := dec_size b hb
  clear ht hx h7
  generalize bytesI (decL a) = A at *
  generalize bytesI (decL b) = B at *
  have HG := hid hg
  clear hg
  go_enter Tryz.func6, Tryz.ntmps6
  go_wp2_with fail
  refine KS.out.mono ?_
  rintro e w1 ⟨rfl, t1⟩
  have T1 := hid t1
  clear t1 KS
  have KA1 := hid (KA.out w1)
  go_wp2_with fail
  refine KA1.out.mono ?_
  rintro e w2 ⟨rfl, t2⟩
  have T2 := hid (T1.out.trans t2 (fun _ _ e => e))
  clear t2 KA KA1 T1
  have KB1 := hid (KB.out w2)
  go_wp2_with fail
  refine KB1.out.mono ?_
  rintro e w3 ⟨rfl, t3⟩
  have T3 := hid (T2.out.trans t3 (fun _ _ e => e))
  clear t3 KB KB1 T2
  have KP2 := hid (KP.out _ T3.out)
  clear KP
  go_wp2_with fail
  refine KP2.out.mono ?_
  rintro e w4 ⟨c, an, nn, cn, rfl, ht4, hs4, hn4, t4⟩
  have T4 := hid (T3.out.trans t4 (fun _ _ e => e))
  have e1 := ht4.inv.1
  obtain ⟨ck, sa, sn, sc, fo, mi, ma, la, ca, nm, ka, kn, kc⟩ := c
  simp only at e1
  obtain ⟨rfl, rfl, rfl, rfl, rfl, rfl, rfl⟩ := e1
  unfold Cel.arr
  clear t4 T3 KP2 ht4 hs4 hn4
  go_upto_region 8 with fail
  have HK := kept2 w4 #[.int .i64 10, .slice sa sn sc, .bool false, .int .i64 (a : Nat), .int .i64 (b : Nat), .bool false, .int .i64 0, .string ⟨#[]⟩, .slice ka kn kc, .slice an nn cn] #[.int .i64 0, .int .i64 0]
  generalize (w4.alloc (.cells #[.int .i64 10, .slice sa sn sc, .bool false, .int .i64 (a : Nat), .int .i64 (b : Nat), .bool false, .int .i64 0, .string ⟨#[]⟩, .slice ka kn kc, .slice an nn cn] 31)).alloc (.cells #[.int .i64 0, .int .i64 0] 34) = w5 at *
  obtain ⟨hp5, hq5, t5⟩ := HK
  have T5 := hid (T4.out.trans t5 (fun _ _ e => e))
  obtain ⟨p, hpe⟩ : ∃ p, p = w4.heap.size := ⟨_, rfl⟩
  rw [← hpe] at hp5 hq5 ⊢
  clear hpe T4 t5
  have P5 := hid hp5
  have Q5 := hid hq5
  clear hp5 hq5
  go_cut [43] (fun v wd => v = .bool false ∧ w5 = wd)
  case first =>
    have g1 : ¬ (64 : Int) < (a : Int) := by have := HG.out; omega
    have g2 : ¬ (64 : Int) < (b : Int) := by have := HG.out; omega
    have g3 : ¬ (b : Int) < (a : Int) := by have := HG.out; omega
    go_wp2
    go_meet
    case rel => exact ⟨rfl, rfl⟩
  obtain ⟨rfl, rfl⟩ := hcut
  have c0 : w5.cell? ⟨p, 0, none⟩ = some (.int .i64 10) := cell_of P5.out 0 _ rfl
  have c3 : w5.cell? ⟨p, 3, none⟩ = some (.int .i64 (a : Nat)) := cell_of P5.out 3 _ rfl
  have c4 : w5.cell? ⟨p, 4, none⟩ = some (.int .i64 (b : Nat)) := cell_of P5.out 4 _ rfl
  have c5 : w5.cell? ⟨p, 5, none⟩ = some (.bool false) := cell_of P5.out 5 _ rfl
  go_wp2_with (first | refine wpList_load_row rfl 34 _ rfl (p + 1) rfl 34 _ (0, 0) _ Q5.out Tryz.underlying34 rfl info34 ?_ | fail)
  go_ret
  exact ⟨rfl, T5.out⟩
set_option maxRecDepth 100000 in
set_option maxHeartbeats 8000000 in
theorem times_fb (x y : Int) (a b : Nat) (ha : a < 128) (hb : b < 128) (hxa : bits .and .i64 x 127 = (a : Int)) (hyb : bits .and .i64 y 127 = (b : Int)) (hg : 64 < a ∨ 64 < b ∨ b < a) (w : World) (ht : TabsK w) (hx : Sx w) (h7 : 7 ≤ w.heap.size) :
    Calls Tryz.prog 6 #[.int .i64 x, .int .i64 y, .bool false] w fun e w' => e = .returned (.bool true) ∧ Touch (fun _ => False) w w' := by
  have KS := hid (speaks_yes w ht hx h7)
  have KP := hid (fun (wq : World) (t : Touch (fun _ => False) w wq) => parse_any (bytesI (timesL a b false)) fl0 wq (ht.new t) (hx.new t) (Nat.le_trans h7 t.size))
  rw [times_prs a b ha hb false rfl, if_pos hg, times_txt] at KP
  rw [if_neg (by decide), ba_nil] at KP
  unfold fl0 PrsP at KP
  simp only at KP
  have KA := hid (fun wq => number_says a ha wq)
  have KB := hid (fun wq => number_says b hb wq)
  have hA := dec_size a ha
  have hB := dec_size b hb
  clear ht hx h7
  generalize bytesI (decL a) = A at *
  generalize bytesI (decL b) = B at *
  have HG := hid hg
  clear hg
  go_enter Tryz.func6, Tryz.ntmps6
  go_wp2_with fail
  refine KS.out.mono ?_
  rintro e w1 ⟨rfl, t1⟩
  have T1 := hid t1
  clear t1 KS
  have KA1 := hid (KA.out w1)
  go_wp2_with fail
  refine KA1.out.mono ?_
  rintro e w2 ⟨rfl, t2⟩
  have T2 := hid (T1.out.trans t2 (fun _ _ e => e))
  clear t2 KA KA1 T1
  have KB1 := hid (KB.out w2)
  go_wp2_with fail
  refine KB1.out.mono ?_
  rintro e w3 ⟨rfl, t3⟩
  have T3 := hid (T2.out.trans t3 (fun _ _ e => e))
  clear t3 KB KB1 T2
  have KP2 := hid (KP.out _ T3.out)
  clear KP
  go_wp2_with fail
  refine KP2.out.mono ?_
  rintro e w4 ⟨rfl, t4⟩
  have T4 := hid (T3.out.trans t4 (fun _ _ e => e))
  unfold zPat
  clear t4 T3 KP2
  go_upto_region 8 with fail
  have HK := kept2 w4 #[.int .i64 0, .slice none 0 0, .bool false, .int .i64 0, .int .i64 0, .bool false, .int .i64 0, .string ⟨#[]⟩, .slice none 0 0, .slice none 0 0] #[.int .i64 23, .int .i64 1]
  generalize (w4.alloc (.cells #[.int .i64 0, .slice none 0 0, .bool false, .int .i64 0, .int .i64 0, .bool false, .int .i64 0, .string ⟨#[]⟩, .slice none 0 0, .slice none 0 0] 31)).alloc (.cells #[.int .i64 23, .int .i64 1] 34) = w5 at *
  obtain ⟨hp5, hq5, t5⟩ := HK
  have T5 := hid (T4.out.trans t5 (fun _ _ e => e))
  obtain ⟨p, hpe⟩ : ∃ p, p = w4.heap.size := ⟨_, rfl⟩
  rw [← hpe] at hp5 hq5 ⊢
  clear hpe T4 t5
  have P5 := hid hp5
  have Q5 := hid hq5
  clear hp5 hq5
  go_cut [43] (fun v wd => v = .bool true ∧ w5 = wd)
  case first =>
    by_cases h1 : 64 < a
    · have g1 : (64 : Int) < (a : Int) := by omega
      go_wp2
      go_meet
      case rel => exact ⟨rfl, rfl⟩
    · have g1 : ¬ (64 : Int) < (a : Int) := by omega
      by_cases h2 : 64 < b
      · have g2 : (64 : Int) < (b : Int) := by omega
        go_wp2
        go_meet
        case rel => exact ⟨rfl, rfl⟩
      · have g2 : ¬ (64 : Int) < (b : Int) := by omega
        have g3 : (b : Int) < (a : Int) := by have := HG.out; omega
        go_wp2
        go_meet
        case rel => exact ⟨rfl, rfl⟩
  obtain ⟨rfl, rfl⟩ := hcut
  go_wp2_with (first | refine wpList_load_row rfl 34 _ rfl (p + 1) rfl 34 _ (0, 0) _ Q5.out Tryz.underlying34 rfl info34 ?_ | fail)
  go_ret
  exact ⟨rfl, T5.out⟩
theorem times_walk (x y : Int) (z : Bool) (w : World) (ht : TabsK w) (hx : Sx w) (h7 : 7 ≤ w.heap.size) :
    Calls Tryz.prog 6 #[.int .i64 x, .int .i64 y, .bool z] w fun e w' => e = .returned (.bool true) ∧ Touch (fun _ => False) w w' := by
  have hxa : bits .and .i64 x 127 = ((x % 128).toNat : Int) := by rw [i64_and127]; omega
  have hyb : bits .and .i64 y 127 = ((y % 128).toNat : Int) := by rw [i64_and127]; omega
  have ha : (x % 128).toNat < 128 := by omega
  have hb : (y % 128).toNat < 128 := by omega
  by_cases hg : 64 < (x % 128).toNat ∨ 64 < (y % 128).toNat ∨ (y % 128).toNat < (x % 128).toNat
  · cases z
    · exact times_fb x y _ _ ha hb hxa hyb hg w ht hx h7
    · exact times_tb x y _ _ ha hb hxa hyb hg w ht hx h7
  · cases z
    · exact times_fg x y _ _ ha hb hxa hyb hg w ht hx h7
    · exact times_tg x y _ _ ha hb hxa hyb hg w ht hx h7
end Go.Proofs.YtdhhcefmmojcmaaGreatDoor
