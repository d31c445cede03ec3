/- Texts of this proof, one behind the other: what each says stands ahead of it. -/
import Derived.Test.YtdhhcefmmojcmaaGreatDoorNZk
import Derived.Test.YtdhhcefmmojcmaaGreatDoorM42
import Derived.Test.YtdhhcefmmojcmaaGreatDoorKRk
import Derived.Deep.RegionHeld3
import Derived.Laws.Bits128
import Derived.Laws.DeepStrings4
/- The decimal digits of a number, as the Syntax laws write them; condition: the number is below 128. -/
namespace Go.Proofs.YtdhhcefmmojcmaaGreatDoor
open Go.RowKit
open Go.Lib

def dBn (n : Nat) : UInt8 := UInt8.ofNat (48 + n)
def decF : Nat → Nat → List UInt8
  | 0, _ => []
  | f + 1, n => if n < 10 then [dBn n] else decF f (n / 10) ++ [dBn (n % 10)]
theorem digit_nat (n : Nat) (h : n < 10) : (dBn n).toNat = 48 + n := by
  unfold dBn
  rw [UInt8.toNat_ofNat']
  omega
theorem decF_len : ∀ k n, (decF k n).length ≤ k
  | 0, _ => by simp [decF]
  | k + 1, n => by
    rw [decF]
    split
    · simp
    · have := decF_len k (n / 10)
      simp
      omega
theorem dec_txt : ∀ n < 128, decF 3 n = (bytesI (decL n)).data.toList := by decide +kernel
theorem conv1n (w : World) (q x : Nat) (hx : x < 10) (h : w.cell? ⟨q, 0, none⟩ = some (.int .u8 (48 + (x : Int)))) : (convert 49 9 (.slice (some ⟨q, 0, none⟩) 1 1)).run Tryz.prog w = .ok (.string ⟨#[dBn x]⟩) w := by
  refine run_convert_bytes_back w 49 9 5 ⟨q, 0, none⟩ 1 [dBn x] Tryz.underlying49 Tryz.underlying5 Tryz.underlying9 (fun j hj => ?_)
  have hj' : j < 1 := hj
  obtain rfl : j = 0 := by omega
  show w.cell? ⟨q, 0, none⟩ = some (.int .u8 ((dBn x).toNat : Int))
  rw [h, digit_nat x hx]
  congr 1
theorem cell_one5 (w : World) (u : Value) : (w.alloc (.cells #[u] 5)).cell? ⟨w.heap.size, 0, none⟩ = some u := cell_of (block_new w #[u] 5) 0 u rfl
set_option maxRecDepth 100000 in
set_option maxHeartbeats 4000000 in
theorem number_any : ∀ (k n : Nat), k ≤ 4 → 1 ≤ k → n < 10 ^ k → ∀ w : World, Calls Tryz.prog 15 #[.int .i64 (n : Nat)] w fun e w' => e = .returned (.string ⟨(decF k n).toArray⟩) ∧ Touch (fun _ => False) w w'
  | 0, _, _, h, _ => by omega
  | k + 1, n, hk4, _, hn => by
    intro w
    have hn4 : n < 10000 := Nat.lt_of_lt_of_le hn (Nat.pow_le_pow_right (by decide) hk4)
    rw [decF]
    by_cases h : n < 10
    · rw [if_pos h]
      have hI : (n : Int) < 10 := by omega
      have hcv := conv1n (w.alloc (.cells #[.int .u8 (48 + (n : Int))] 5)) w.heap.size n h (cell_one5 _ _)
      have TA := hid ((Touch.refl (fun _ => False) w).alloc (.cells #[.int .u8 (48 + (n : Int))] 5))
      clear hn
      go_enter Tryz.func15, Tryz.ntmps15
      go_wp2
      go_ret
      exact ⟨rfl, TA.out⟩
    · rw [if_neg h]
      have hI : ¬ (n : Int) < 10 := by omega
      have hk : 1 ≤ k := by
        rcases Nat.eq_zero_or_pos k with e | e
        · rw [e] at hn; omega
        · exact e
      have KR := hid (number_any k (n / 10) (by omega) hk (by rw [Nat.pow_succ] at hn; omega))
      have hdI : (n : Int) / 10 = ((n / 10 : Nat) : Int) := by omega
      have hd4 : n / 10 ≤ 1000 := by omega
      have hmI : (n : Int) % 10 = ((n % 10 : Nat) : Int) := by omega
      obtain ⟨m, hm⟩ : ∃ m, m = n % 10 := ⟨_, rfl⟩
      rw [← hm] at hmI ⊢
      have hm10 : m < 10 := by omega
      clear hm
      clear hn
      have hDl : (decF k (n / 10)).length ≤ 4 := by have := decF_len k (n / 10); omega
      generalize decF k (n / 10) = D at *
      have hadd : (⟨D.toArray⟩ : ByteArray) ++ ⟨#[dBn m]⟩ = ⟨(D ++ [dBn m]).toArray⟩ := by
        apply ByteArray.ext
        rw [ByteArray.data_append]
        simp
      generalize n / 10 = d at *
      have hmt : (n : Int).tmod 10 = (m : Int) := by rw [Int.tmod_eq_emod_of_nonneg (Int.natCast_nonneg n)]; exact hmI
      have hwd : IntKind.i64.wrap (d : Int) = (d : Int) := by rw [IntKind.wrap_i64]; omega
      have hwm : IntKind.i64.wrap (m : Int) = (m : Int) := by rw [IntKind.wrap_i64]; omega
      have hw48 : IntKind.i64.wrap (48 + (m : Int)) = 48 + (m : Int) := by rw [IntKind.wrap_i64]; omega
      have hwu : IntKind.u8.wrap (48 + (m : Int)) = 48 + (m : Int) := by rw [IntKind.wrap_u8]; omega
      have hco := fun (w : World) => cell_one5 w (.int .u8 (48 + (m : Int)))
      have hcv := (fun (w : World) (q : Nat) (h : w.cell? ⟨q, 0, none⟩ = some (.int .u8 (48 + (m : Int)))) => conv1n w q m hm10 h)
      go_enter Tryz.func15, Tryz.ntmps15
      go_wp2_with fail
      first | (go_region_held (fun _ => True) (trivial)
        (first
          | (go_at_call 15
             (try rw [hwd])
             refine (KR.out _).mono ?_
             rintro e w3 ⟨rfl, t3⟩
             have T3 := hid t3
             (try (have cc : w3.cell? ⟨w.heap.size, 0, none⟩ = some (.int .u8 (48 + (m : Int))) := (t3.cell (p := ⟨w.heap.size, 0, none⟩) (by show _ < (w.heap.push _).size; simp) id).trans (cell_one5 w _)))
             clear t3))) | fail
      all_goals
        go_wp2
        go_ret
        exact ⟨rfl, by
          first
            | exact ((Touch.refl (fun _ => False) w).drew.trans T3.out (fun _ _ e => e)).alloc _
            | exact (Touch.refl (fun _ => False) w).drew.trans T3.out (fun _ _ e => e)
            | exact ((Touch.refl (fun _ => False) w).drew.alloc _).trans T3.out (fun _ _ e => e)
            | exact ((Touch.refl (fun _ => False) w).alloc _).drew.trans T3.out (fun _ _ e => e)
            | exact ((Touch.refl (fun _ => False) w).alloc _).trans T3.out (fun _ _ e => e)⟩
theorem number_says (n : Nat) (h : n < 128) (w : World) : Calls Tryz.prog 15 #[.int .i64 (n : Nat)] w fun e w' => e = .returned (.string (bytesI (decL n))) ∧ Touch (fun _ => False) w w' := by
  have := number_any 3 n (by decide) (by decide) (by omega) w
  rw [dec_txt n h] at this
  exact this
end Go.Proofs.YtdhhcefmmojcmaaGreatDoor

/- SyntaxTimes' walk; no condition. -/
namespace Go.Proofs.YtdhhcefmmojcmaaGreatDoor
open Go.RowKit
open Go.Lib

theorem bytesI_app (l m : List Int) : bytesI (l ++ m) = bytesI l ++ bytesI m := by
  apply ByteArray.ext
  rw [ByteArray.data_append]
  simp [bytesI]
theorem times_txt (a b : Nat) (z : Bool) : bytesI (timesL a b z) = ((((⟨#[120, 123]⟩ : ByteArray) ++ bytesI (decL a)) ++ ⟨#[44]⟩) ++ bytesI (decL b)) ++ ⟨#[125]⟩ ++ (if z then ⟨#[63]⟩ else ⟨#[]⟩) := by
  unfold timesL
  rw [bytesI_app, bytesI_app, bytesI_app, bytesI_app, bytesI_app]
  rw [show bytesI [120, 123] = ⟨#[120, 123]⟩ from rfl, show bytesI [44] = ⟨#[44]⟩ from rfl, show bytesI [125] = ⟨#[125]⟩ from rfl, show bytesI (if z then [63] else []) = (if z then ⟨#[63]⟩ else ⟨#[]⟩) from by cases z <;> rfl]
  simp only [ByteArray.append_assoc]
theorem ba_nil (x : ByteArray) : x ++ (⟨#[]⟩ : ByteArray) = x := by
  apply ByteArray.ext
  rw [ByteArray.data_append]
  simp
theorem dec_size (n : Nat) (h : n < 128) : (bytesI (decL n)).size ≤ 3 := by
  have := (dec_ok n h).1
  have e : (bytesI (decL n)).size = (decL n).length := by simp [bytesI, ByteArray.size]
  omega
set_option maxRecDepth 100000 in
set_option maxHeartbeats 8000000 in
theorem times_tg (x y : Int) (a b : Nat) (ha : a < 128) (hb : b < 128) (hxa : bits .and .i64 x 127 = (a : Int)) (hyb : bits .and .i64 y 127 = (b : Int)) (hg : ¬ (64 < a ∨ 64 < b ∨ b < a)) (w : World) (ht : TabsK w) (hx : Sx w) (h7 : 7 ≤ w.heap.size) :
    Calls Tryz.prog 6 #[.int .i64 x, .int .i64 y, .bool true] w fun e w' => e = .returned (.bool true) ∧ Touch (fun _ => False) w w' := by
  have KS := hid (speaks_yes w ht hx h7)
  have KP := hid (fun (wq : World) (t : Touch (fun _ => False) w wq) => parse_any (bytesI (timesL a b true)) fl0 wq (ht.new t) (hx.new t) (Nat.le_trans h7 t.size))
  rw [times_prs a b ha hb true rfl, if_neg hg, times_txt] at KP
  rw [if_pos rfl] at KP
  unfold fl0 PrsP at KP
  simp only at KP
  have KA := hid (fun wq => number_says a ha wq)
  have KB := hid (fun wq => number_says b hb wq)
  have hA := dec_size a ha
  have hB := dec_size b hb
  clear ht hx h7
  generalize bytesI (decL a) = A at *
  generalize bytesI (decL b) = B at *
  have HG := hid hg
  clear hg
  go_enter Tryz.func6, Tryz.ntmps6
  go_wp2_with fail
  refine KS.out.mono ?_
  rintro e w1 ⟨rfl, t1⟩
  have T1 := hid t1
  clear t1 KS
  have KA1 := hid (KA.out w1)
  go_wp2_with fail
  refine KA1.out.mono ?_
  rintro e w2 ⟨rfl, t2⟩
  have T2 := hid (T1.out.trans t2 (fun _ _ e => e))
  clear t2 KA KA1 T1
  have KB1 := hid (KB.out w2)
  go_wp2_with fail
  refine KB1.out.mono ?_
  rintro e w3 ⟨rfl, t3⟩
  have T3 := hid (T2.out.trans t3 (fun _ _ e => e))
  clear t3 KB KB1 T2
  have KP2 := hid (KP.out _ T3.out)
  clear KP
  go_wp2_with fail
  refine KP2.out.mono ?_
  rintro e w4 ⟨c, an, nn, cn, rfl, ht4, hs4, hn4, t4⟩
  have T4 := hid (T3.out.trans t4 (fun _ _ e => e))
  have e1 := ht4.inv.1
  obtain ⟨ck, sa, sn, sc, fo, mi, ma, la, ca, nm, ka, kn, kc⟩ := c
  simp only at e1
  obtain ⟨rfl, rfl, rfl, rfl, rfl, rfl, rfl⟩ := e1
  unfold Cel.arr
  clear t4 T3 KP2 ht4 hs4 hn4
  go_upto_region 8 with fail
  have HK := kept2 w4 #[.int .i64 10, .slice sa sn sc, .bool false, .int .i64 (a : Nat), .int .i64 (b : Nat), .bool true, .int .i64 0, .string ⟨#[]⟩, .slice ka kn kc, .slice an nn cn] #[.int .i64 0, .int .i64 0]
  generalize (w4.alloc (.cells #[.int .i64 10, .slice sa sn sc, .bool false, .int .i64 (a : Nat), .int .i64 (b : Nat), .bool true, .int .i64 0, .string ⟨#[]⟩, .slice ka kn kc, .slice an nn cn] 31)).alloc (.cells #[.int .i64 0, .int .i64 0] 34) = w5 at *
  obtain ⟨hp5, hq5, t5⟩ := HK
  have T5 := hid (T4.out.trans t5 (fun _ _ e => e))
  obtain ⟨p, hpe⟩ : ∃ p, p = w4.heap.size := ⟨_, rfl⟩
  rw [← hpe] at hp5 hq5 ⊢
  clear hpe T4 t5
  have P5 := hid hp5
  have Q5 := hid hq5
  clear hp5 hq5
  go_cut [43] (fun v wd => v = .bool false ∧ w5 = wd)
  case first =>
    have g1 : ¬ (64 : Int) < (a : Int) := by have := HG.out; omega
    have g2 : ¬ (64 : Int) < (b : Int) := by have := HG.out; omega
    have g3 : ¬ (b : Int) < (a : Int) := by have := HG.out; omega
    go_wp2
    go_meet
    case rel => exact ⟨rfl, rfl⟩
  obtain ⟨rfl, rfl⟩ := hcut
  have c0 : w5.cell? ⟨p, 0, none⟩ = some (.int .i64 10) := cell_of P5.out 0 _ rfl
  have c3 : w5.cell? ⟨p, 3, none⟩ = some (.int .i64 (a : Nat)) := cell_of P5.out 3 _ rfl
  have c4 : w5.cell? ⟨p, 4, none⟩ = some (.int .i64 (b : Nat)) := cell_of P5.out 4 _ rfl
  have c5 : w5.cell? ⟨p, 5, none⟩ = some (.bool true) := cell_of P5.out 5 _ rfl
  go_wp2_with (first | refine wpList_load_row rfl 34 _ rfl (p + 1) rfl 34 _ (0, 0) _ Q5.out Tryz.underlying34 rfl info34 ?_ | fail)
  go_ret
  exact ⟨rfl, T5.out⟩
set_option maxRecDepth 100000 in
set_option maxHeartbeats 8000000 in
theorem times_tb (x y : Int) (a b : Nat) (ha : a < 128) (hb : b < 128) (hxa : bits .and .i64 x 127 = (a : Int)) (hyb : bits .and .i64 y 127 = (b : Int)) (hg : 64 < a ∨ 64 < b ∨ b < a) (w : World) (ht : TabsK w) (hx : Sx w) (h7 : 7 ≤ w.heap.size) :
    Calls Tryz.prog 6 #[.int .i64 x, .int .i64 y, .bool true] w fun e w' => e = .returned (.bool true) ∧ Touch (fun _ => False) w w' := by
  have KS := hid (speaks_yes w ht hx h7)
  have KP := hid (fun (wq : World) (t : Touch (fun _ => False) w wq) => parse_any (bytesI (timesL a b true)) fl0 wq (ht.new t) (hx.new t) (Nat.le_trans h7 t.size))
  rw [times_prs a b ha hb true rfl, if_pos hg, times_txt] at KP
  rw [if_pos rfl] at KP
  unfold fl0 PrsP at KP
  simp only at KP
  have KA := hid (fun wq => number_says a ha wq)
  have KB := hid (fun wq => number_says b hb wq)
  have hA := dec_size a ha
  have hB := dec_size b hb
  clear ht hx h7
  generalize bytesI (decL a) = A at *
  generalize bytesI (decL b) = B at *
  have HG := hid hg
  clear hg
  go_enter Tryz.func6, Tryz.ntmps6
  go_wp2_with fail
  refine KS.out.mono ?_
  rintro e w1 ⟨rfl, t1⟩
  have T1 := hid t1
  clear t1 KS
  have KA1 := hid (KA.out w1)
  go_wp2_with fail
  refine KA1.out.mono ?_
  rintro e w2 ⟨rfl, t2⟩
  have T2 := hid (T1.out.trans t2 (fun _ _ e => e))
  clear t2 KA KA1 T1
  have KB1 := hid (KB.out w2)
  go_wp2_with fail
  refine KB1.out.mono ?_
  rintro e w3 ⟨rfl, t3⟩
  have T3 := hid (T2.out.trans t3 (fun _ _ e => e))
  clear t3 KB KB1 T2
  have KP2 := hid (KP.out _ T3.out)
  clear KP
  go_wp2_with fail
  refine KP2.out.mono ?_
  rintro e w4 ⟨rfl, t4⟩
  have T4 := hid (T3.out.trans t4 (fun _ _ e => e))
  unfold zPat
  clear t4 T3 KP2
  go_upto_region 8 with fail
  have HK := kept2 w4 #[.int .i64 0, .slice none 0 0, .bool false, .int .i64 0, .int .i64 0, .bool false, .int .i64 0, .string ⟨#[]⟩, .slice none 0 0, .slice none 0 0] #[.int .i64 23, .int .i64 1]
  generalize (w4.alloc (.cells #[.int .i64 0, .slice none 0 0, .bool false, .int .i64 0, .int .i64 0, .bool false, .int .i64 0, .string ⟨#[]⟩, .slice none 0 0, .slice none 0 0] 31)).alloc (.cells #[.int .i64 23, .int .i64 1] 34) = w5 at *
  obtain ⟨hp5, hq5, t5⟩ := HK
  have T5 := hid (T4.out.trans t5 (fun _ _ e => e))
  obtain ⟨p, hpe⟩ : ∃ p, p = w4.heap.size := ⟨_, rfl⟩
  rw [← hpe] at hp5 hq5 ⊢
  clear hpe T4 t5
  have P5 := hid hp5
  have Q5 := hid hq5
  clear hp5 hq5
  go_cut [43] (fun v wd => v = .bool true ∧ w5 = wd)
  case first =>
    by_cases h1 : 64 < a
    · have g1 : (64 : Int) < (a : Int) := by omega
      go_wp2
      go_meet
      case rel => exact ⟨rfl, rfl⟩
    · have g1 : ¬ (64 : Int) < (a : Int) := by omega
      by_cases h2 : 64 < b
      · have g2 : (64 : Int) < (b : Int) := by omega
        go_wp2
        go_meet
        case rel => exact ⟨rfl, rfl⟩
      · have g2 : ¬ (64 : Int) < (b : Int) := by omega
        have g3 : (b : Int) < (a : Int) := by have := HG.out; omega
        go_wp2
        go_meet
        case rel => exact ⟨rfl, rfl⟩
  obtain ⟨rfl, rfl⟩ := hcut
  go_wp2_with (first | refine wpList_load_row rfl 34 _ rfl (p + 1) rfl 34 _ (0, 0) _ Q5.out Tryz.underlying34 rfl info34 ?_ | fail)
  go_ret
  exact ⟨rfl, T5.out⟩
set_option maxRecDepth 100000 in
set_option maxHeartbeats 8000000 in
theorem times_fg (x y : Int) (a b : Nat) (ha : a < 128) (hb : b < 128) (hxa : bits .and .i64 x 127 = (a : Int)) (hyb : bits .and .i64 y 127 = (b : Int)) (hg : ¬ (64 < a ∨ 64 < b ∨ b < a)) (w : World) (ht : TabsK w) (hx : Sx w) (h7 : 7 ≤ w.heap.size) :
    Calls Tryz.prog 6 #[.int .i64 x, .int .i64 y, .bool false] w fun e w' => e = .returned (.bool true) ∧ Touch (fun _ => False) w w' := by
  have KS := hid (speaks_yes w ht hx h7)
  have KP := hid (fun (wq : World) (t : Touch (fun _ => False) w wq) => parse_any (bytesI (timesL a b false)) fl0 wq (ht.new t) (hx.new t) (Nat.le_trans h7 t.size))
  rw [times_prs a b ha hb false rfl, if_neg hg, times_txt] at KP
  rw [if_neg (by decide), ba_nil] at KP
  unfold fl0 PrsP at KP
  simp only at KP
  have KA := hid (fun wq => number_says a ha wq)
  have KB := hid (fun wq => number_says b hb wq)
  have hA := dec_size a ha
  have hB := dec_size b hb
  clear ht hx h7
  generalize bytesI (decL a) = A at *
  generalize bytesI (decL b) = B at *
  have HG := hid hg
  clear hg
  go_enter Tryz.func6, Tryz.ntmps6
  go_wp2_with fail
  refine KS.out.mono ?_
  rintro e w1 ⟨rfl, t1⟩
  have T1 := hid t1
  clear t1 KS
  have KA1 := hid (KA.out w1)
  go_wp2_with fail
  refine KA1.out.mono ?_
  rintro e w2 ⟨rfl, t2⟩
  have T2 := hid (T1.out.trans t2 (fun _ _ e => e))
  clear t2 KA KA1 T1
  have KB1 := hid (KB.out w2)
  go_wp2_with fail
  refine KB1.out.mono ?_
  rintro e w3 ⟨rfl, t3⟩
  have T3 := hid (T2.out.trans t3 (fun _ _ e => e))
  clear t3 KB KB1 T2
  have KP2 := hid (KP.out _ T3.out)
  clear KP
  go_wp2_with fail
  refine KP2.out.mono ?_
  rintro e w4 ⟨c, an, nn, cn, rfl, ht4, hs4, hn4, t4⟩
  have T4 := hid (T3.out.trans t4 (fun _ _ e => e))
  have e1 := ht4.inv.1
  obtain ⟨ck, sa, sn, sc, fo, mi, ma, la, ca, nm, ka, kn, kc⟩ := c
  simp only at e1
  obtain ⟨rfl, rfl, rfl, rfl, rfl, rfl, rfl⟩ := e1
  unfold Cel.arr
  clear t4 T3 KP2 ht4 hs4 hn4
  go_upto_region 8 with fail
  have HK := kept2 w4 #[.int .i64 10, .slice sa sn sc, .bool false, .int .i64 (a : Nat), .int .i64 (b : Nat), .bool false, .int .i64 0, .string ⟨#[]⟩, .slice ka kn kc, .slice an nn cn] #[.int .i64 0, .int .i64 0]
  generalize (w4.alloc (.cells #[.int .i64 10, .slice sa sn sc, .bool false, .int .i64 (a : Nat), .int .i64 (b : Nat), .bool false, .int .i64 0, .string ⟨#[]⟩, .slice ka kn kc, .slice an nn cn] 31)).alloc (.cells #[.int .i64 0, .int .i64 0] 34) = w5 at *
  obtain ⟨hp5, hq5, t5⟩ := HK
  have T5 := hid (T4.out.trans t5 (fun _ _ e => e))
  obtain ⟨p, hpe⟩ : ∃ p, p = w4.heap.size := ⟨_, rfl⟩
  rw [← hpe] at hp5 hq5 ⊢
  clear hpe T4 t5
  have P5 := hid hp5
  have Q5 := hid hq5
  clear hp5 hq5
  go_cut [43] (fun v wd => v = .bool false ∧ w5 = wd)
  case first =>
    have g1 : ¬ (64 : Int) < (a : Int) := by have := HG.out; omega
    have g2 : ¬ (64 : Int) < (b : Int) := by have := HG.out; omega
    have g3 : ¬ (b : Int) < (a : Int) := by have := HG.out; omega
    go_wp2
    go_meet
    case rel => exact ⟨rfl, rfl⟩
  obtain ⟨rfl, rfl⟩ := hcut
  have c0 : w5.cell? ⟨p, 0, none⟩ = some (.int .i64 10) := cell_of P5.out 0 _ rfl
  have c3 : w5.cell? ⟨p, 3, none⟩ = some (.int .i64 (a : Nat)) := cell_of P5.out 3 _ rfl
  have c4 : w5.cell? ⟨p, 4, none⟩ = some (.int .i64 (b : Nat)) := cell_of P5.out 4 _ rfl
  have c5 : w5.cell? ⟨p, 5, none⟩ = some (.bool false) := cell_of P5.out 5 _ rfl
  go_wp2_with (first | refine wpList_load_row rfl 34 _ rfl (p + 1) rfl 34 _ (0, 0) _ Q5.out Tryz.underlying34 rfl info34 ?_ | fail)
  go_ret
  exact ⟨rfl, T5.out⟩
set_option maxRecDepth 100000 in
set_option maxHeartbeats 8000000 in
theorem times_fb (x y : Int) (a b : Nat) (ha : a < 128) (hb : b < 128) (hxa : bits .and .i64 x 127 = (a : Int)) (hyb : bits .and .i64 y 127 = (b : Int)) (hg : 64 < a ∨ 64 < b ∨ b < a) (w : World) (ht : TabsK w) (hx : Sx w) (h7 : 7 ≤ w.heap.size) :
    Calls Tryz.prog 6 #[.int .i64 x, .int .i64 y, .bool false] w fun e w' => e = .returned (.bool true) ∧ Touch (fun _ => False) w w' := by
  have KS := hid (speaks_yes w ht hx h7)
  have KP := hid (fun (wq : World) (t : Touch (fun _ => False) w wq) => parse_any (bytesI (timesL a b false)) fl0 wq (ht.new t) (hx.new t) (Nat.le_trans h7 t.size))
  rw [times_prs a b ha hb false rfl, if_pos hg, times_txt] at KP
  rw [if_neg (by decide), ba_nil] at KP
  unfold fl0 PrsP at KP
  simp only at KP
  have KA := hid (fun wq => number_says a ha wq)
  have KB := hid (fun wq => number_says b hb wq)
  have hA := dec_size a ha
  have hB := dec_size b hb
  clear ht hx h7
  generalize bytesI (decL a) = A at *
  generalize bytesI (decL b) = B at *
  have HG := hid hg
  clear hg
  go_enter Tryz.func6, Tryz.ntmps6
  go_wp2_with fail
  refine KS.out.mono ?_
  rintro e w1 ⟨rfl, t1⟩
  have T1 := hid t1
  clear t1 KS
  have KA1 := hid (KA.out w1)
  go_wp2_with fail
  refine KA1.out.mono ?_
  rintro e w2 ⟨rfl, t2⟩
  have T2 := hid (T1.out.trans t2 (fun _ _ e => e))
  clear t2 KA KA1 T1
  have KB1 := hid (KB.out w2)
  go_wp2_with fail
  refine KB1.out.mono ?_
  rintro e w3 ⟨rfl, t3⟩
  have T3 := hid (T2.out.trans t3 (fun _ _ e => e))
  clear t3 KB KB1 T2
  have KP2 := hid (KP.out _ T3.out)
  clear KP
  go_wp2_with fail
  refine KP2.out.mono ?_
  rintro e w4 ⟨rfl, t4⟩
  have T4 := hid (T3.out.trans t4 (fun _ _ e => e))
  unfold zPat
  clear t4 T3 KP2
  go_upto_region 8 with fail
  have HK := kept2 w4 #[.int .i64 0, .slice none 0 0, .bool false, .int .i64 0, .int .i64 0, .bool false, .int .i64 0, .string ⟨#[]⟩, .slice none 0 0, .slice none 0 0] #[.int .i64 23, .int .i64 1]
  generalize (w4.alloc (.cells #[.int .i64 0, .slice none 0 0, .bool false, .int .i64 0, .int .i64 0, .bool false, .int .i64 0, .string ⟨#[]⟩, .slice none 0 0, .slice none 0 0] 31)).alloc (.cells #[.int .i64 23, .int .i64 1] 34) = w5 at *
  obtain ⟨hp5, hq5, t5⟩ := HK
  have T5 := hid (T4.out.trans t5 (fun _ _ e => e))
  obtain ⟨p, hpe⟩ : ∃ p, p = w4.heap.size := ⟨_, rfl⟩
  rw [← hpe] at hp5 hq5 ⊢
  clear hpe T4 t5
  have P5 := hid hp5
  have Q5 := hid hq5
  clear hp5 hq5
  go_cut [43] (fun v wd => v = .bool true ∧ w5 = wd)
  case first =>
    by_cases h1 : 64 < a
    · have g1 : (64 : Int) < (a : Int) := by omega
      go_wp2
      go_meet
      case rel => exact ⟨rfl, rfl⟩
    · have g1 : ¬ (64 : Int) < (a : Int) := by omega
      by_cases h2 : 64 < b
      · have g2 : (64 : Int) < (b : Int) := by omega
        go_wp2
        go_meet
        case rel => exact ⟨rfl, rfl⟩
      · have g2 : ¬ (64 : Int) < (b : Int) := by omega
        have g3 : (b : Int) < (a : Int) := by have := HG.out; omega
        go_wp2
        go_meet
        case rel => exact ⟨rfl, rfl⟩
  obtain ⟨rfl, rfl⟩ := hcut
  go_wp2_with (first | refine wpList_load_row rfl 34 _ rfl (p + 1) rfl 34 _ (0, 0) _ Q5.out Tryz.underlying34 rfl info34 ?_ | fail)
  go_ret
  exact ⟨rfl, T5.out⟩
theorem times_walk (x y : Int) (z : Bool) (w : World) (ht : TabsK w) (hx : Sx w) (h7 : 7 ≤ w.heap.size) :
    Calls Tryz.prog 6 #[.int .i64 x, .int .i64 y, .bool z] w fun e w' => e = .returned (.bool true) ∧ Touch (fun _ => False) w w' := by
  have hxa : bits .and .i64 x 127 = ((x % 128).toNat : Int) := by rw [i64_and127]; omega
  have hyb : bits .and .i64 y 127 = ((y % 128).toNat : Int) := by rw [i64_and127]; omega
  have ha : (x % 128).toNat < 128 := by omega
  have hb : (y % 128).toNat < 128 := by omega
  by_cases hg : 64 < (x % 128).toNat ∨ 64 < (y % 128).toNat ∨ (y % 128).toNat < (x % 128).toNat
  · cases z
    · exact times_fb x y _ _ ha hb hxa hyb hg w ht hx h7
    · exact times_tb x y _ _ ha hb hxa hyb hg w ht hx h7
  · cases z
    · exact times_fg x y _ _ ha hb hxa hyb hg w ht hx h7
    · exact times_tg x y _ _ ha hb hxa hyb hg w ht hx h7
end Go.Proofs.YtdhhcefmmojcmaaGreatDoor

/- The hexadecimal digits of a number, as the Syntax laws write them; condition: the number has at most six. -/
namespace Go.Proofs.YtdhhcefmmojcmaaGreatDoor
open Go.RowKit
open Go.Lib

def hexT : ByteArray := ⟨#[48, 49, 50, 51, 52, 53, 54, 55, 56, 57, 97, 98, 99, 100, 101, 102]⟩
theorem hex_one : ∀ d < 16, (hexT.extract d (d + 1)).data.toList = (bytesI [hexD d]).data.toList := by decide +kernel
theorem hex_cut (d : Nat) (h : d < 16) : hexT.extract d (d + 1) = bytesI [hexD d] := by
  have := hex_one d h
  apply ByteArray.ext
  exact Array.toList_inj.1 this
set_option maxRecDepth 100000 in
set_option maxHeartbeats 4000000 in
theorem sixteen_any : ∀ (k n : Nat), k ≤ 6 → 1 ≤ k → n < 16 ^ k → ∀ w : World, Calls Tryz.prog 19 #[.int .i64 (n : Nat)] w fun e w' => e = .returned (.string (bytesI (hexL k n))) ∧ Touch (fun _ => False) w w'
  | 0, _, _, h, _ => by omega
  | k + 1, n, hk4, _, hn => by
    intro w
    have hn4 : n < 16777216 := Nat.lt_of_lt_of_le hn (Nat.pow_le_pow_right (by decide) hk4)
    rw [hexL]
    by_cases h : n < 16
    · rw [if_pos h]
      have hI : (n : Int) < 16 := by omega
      obtain ⟨D, hD⟩ : ∃ D, D = hexT := ⟨_, rfl⟩
      rw [← hex_cut n h, ← hD]
      have hsz : (n : Int) + 1 ≤ (D.size : Int) := by rw [hD]; show (n : Int) + 1 ≤ 16; omega
      have HD := hid hD
      clear hn hD
      go_enter Tryz.func19, Tryz.ntmps19
      go_upto_region 2 with fail
      rw [show (⟨#[48, 49, 50, 51, 52, 53, 54, 55, 56, 57, 97, 98, 99, 100, 101, 102]⟩ : ByteArray) = hexT from rfl, ← HD.out]
      go_wp2
      go_ret
      exact ⟨rfl, Touch.refl _ w⟩
    · rw [if_neg h]
      have hI : ¬ (n : Int) < 16 := by omega
      have hk : 1 ≤ k := by
        rcases Nat.eq_zero_or_pos k with e | e
        · rw [e] at hn; omega
        · exact e
      have KR := hid (sixteen_any k (n / 16) (by omega) hk (by rw [Nat.pow_succ] at hn; omega))
      have hDl : (bytesI (hexL k (n / 16))).size ≤ 6 := by
        have := (hexL_ok k (n / 16) hk (by rw [Nat.pow_succ] at hn; omega)).1
        have e : (bytesI (hexL k (n / 16))).size = (hexL k (n / 16)).length := by simp [bytesI, ByteArray.size]
        omega
      have hdI : (n : Int) / 16 = ((n / 16 : Nat) : Int) := by omega
      have hd4 : n / 16 ≤ 1048576 := by omega
      obtain ⟨m, hm⟩ : ∃ m, m = n % 16 := ⟨_, rfl⟩
      have hmt : (n : Int).tmod 16 = (m : Int) := by rw [Int.tmod_eq_emod_of_nonneg (Int.natCast_nonneg n), hm]; omega
      rw [bytesI_app, ← hm]
      have hm16 : m < 16 := by omega
      obtain ⟨D, hD⟩ : ∃ D, D = hexT := ⟨_, rfl⟩
      rw [← hex_cut m hm16, ← hD]
      have HD := hid hD
      have hmI : (m : Int) < 16 := by omega
      clear hm hn
      generalize bytesI (hexL k (n / 16)) = A at *
      generalize n / 16 = d at *
      have hwd : IntKind.i64.wrap (d : Int) = (d : Int) := by rw [IntKind.wrap_i64]; omega
      have hwm : IntKind.i64.wrap (m : Int) = (m : Int) := by rw [IntKind.wrap_i64]; omega
      have hw1 : IntKind.i64.wrap ((m : Int) + 1) = (m : Int) + 1 := by rw [IntKind.wrap_i64]; omega
      have hsz : (m : Int) + 1 ≤ (D.size : Int) := by rw [hD]; show (m : Int) + 1 ≤ 16; omega
      have hsz2 : (D.size : Int) ≤ 16 := by rw [hD]; show (16 : Int) ≤ 16; omega
      have hex1 : (D.extract m (m + 1)).size ≤ 1 := by rw [ByteArray.size_extract]; omega
      clear hD
      go_enter Tryz.func19, Tryz.ntmps19
      go_upto_region 2 with fail
      rw [show (⟨#[48, 49, 50, 51, 52, 53, 54, 55, 56, 57, 97, 98, 99, 100, 101, 102]⟩ : ByteArray) = hexT from rfl, ← HD.out]
      go_wp2_with fail
      first | (go_region_held (fun _ => True) (trivial)
        (first
          | (go_at_call 19
             (try rw [hwd])
             refine (KR.out _).mono ?_
             rintro e w3 ⟨rfl, t3⟩
             have T3 := hid t3
             clear t3))) | fail
      all_goals
        go_wp2
        go_ret
        exact ⟨rfl, by
          first
            | exact (Touch.refl (fun _ => False) w).drew.trans T3.out (fun _ _ e => e)
            | exact T3.out⟩
theorem sixteen_says (n : Nat) (h : n ≤ 1114111) (w : World) : Calls Tryz.prog 19 #[.int .i64 (n : Nat)] w fun e w' => e = .returned (.string (bytesI (hexL 6 n))) ∧ Touch (fun _ => False) w w' :=
  sixteen_any 6 n (by decide) (by decide) (by omega) w
set_option maxRecDepth 100000 in
set_option maxHeartbeats 4000000 in
theorem hex20_any : ∀ (k n : Nat), k ≤ 6 → 1 ≤ k → n < 16 ^ k → ∀ w : World, Calls Tryz.prog 20 #[.int .i64 (n : Nat)] w fun e w' => e = .returned (.string (bytesI (hexL k n))) ∧ Touch (fun _ => False) w w'
  | 0, _, _, h, _ => by omega
  | k + 1, n, hk4, _, hn => by
    intro w
    have hn4 : n < 16777216 := Nat.lt_of_lt_of_le hn (Nat.pow_le_pow_right (by decide) hk4)
    rw [hexL]
    by_cases h : n < 16
    · rw [if_pos h]
      have hI : (n : Int) < 16 := by omega
      obtain ⟨D, hD⟩ : ∃ D, D = hexT := ⟨_, rfl⟩
      rw [← hex_cut n h, ← hD]
      have hsz : (n : Int) + 1 ≤ (D.size : Int) := by rw [hD]; show (n : Int) + 1 ≤ 16; omega
      have HD := hid hD
      clear hn hD
      go_enter Tryz.func20, Tryz.ntmps20
      go_upto_region 2 with fail
      rw [show (⟨#[48, 49, 50, 51, 52, 53, 54, 55, 56, 57, 97, 98, 99, 100, 101, 102]⟩ : ByteArray) = hexT from rfl, ← HD.out]
      go_wp2
      go_ret
      exact ⟨rfl, Touch.refl _ w⟩
    · rw [if_neg h]
      have hI : ¬ (n : Int) < 16 := by omega
      have hk : 1 ≤ k := by
        rcases Nat.eq_zero_or_pos k with e | e
        · rw [e] at hn; omega
        · exact e
      have KR := hid (hex20_any k (n / 16) (by omega) hk (by rw [Nat.pow_succ] at hn; omega))
      have hDl : (bytesI (hexL k (n / 16))).size ≤ 6 := by
        have := (hexL_ok k (n / 16) hk (by rw [Nat.pow_succ] at hn; omega)).1
        have e : (bytesI (hexL k (n / 16))).size = (hexL k (n / 16)).length := by simp [bytesI, ByteArray.size]
        omega
      have hdI : (n : Int) / 16 = ((n / 16 : Nat) : Int) := by omega
      have hd4 : n / 16 ≤ 1048576 := by omega
      obtain ⟨m, hm⟩ : ∃ m, m = n % 16 := ⟨_, rfl⟩
      have hmt : (n : Int).tmod 16 = (m : Int) := by rw [Int.tmod_eq_emod_of_nonneg (Int.natCast_nonneg n), hm]; omega
      rw [bytesI_app, ← hm]
      have hm16 : m < 16 := by omega
      obtain ⟨D, hD⟩ : ∃ D, D = hexT := ⟨_, rfl⟩
      rw [← hex_cut m hm16, ← hD]
      have HD := hid hD
      have hmI : (m : Int) < 16 := by omega
      clear hm hn
      generalize bytesI (hexL k (n / 16)) = A at *
      generalize n / 16 = d at *
      have hwd : IntKind.i64.wrap (d : Int) = (d : Int) := by rw [IntKind.wrap_i64]; omega
      have hwm : IntKind.i64.wrap (m : Int) = (m : Int) := by rw [IntKind.wrap_i64]; omega
      have hw1 : IntKind.i64.wrap ((m : Int) + 1) = (m : Int) + 1 := by rw [IntKind.wrap_i64]; omega
      have hsz : (m : Int) + 1 ≤ (D.size : Int) := by rw [hD]; show (m : Int) + 1 ≤ 16; omega
      have hsz2 : (D.size : Int) ≤ 16 := by rw [hD]; show (16 : Int) ≤ 16; omega
      have hex1 : (D.extract m (m + 1)).size ≤ 1 := by rw [ByteArray.size_extract]; omega
      clear hD
      go_enter Tryz.func20, Tryz.ntmps20
      go_upto_region 2 with fail
      rw [show (⟨#[48, 49, 50, 51, 52, 53, 54, 55, 56, 57, 97, 98, 99, 100, 101, 102]⟩ : ByteArray) = hexT from rfl, ← HD.out]
      go_wp2_with fail
      first | (go_region_held (fun _ => True) (trivial)
        (first
          | (go_at_call 20
             (try rw [hwd])
             refine (KR.out _).mono ?_
             rintro e w3 ⟨rfl, t3⟩
             have T3 := hid t3
             clear t3))) | fail
      all_goals
        go_wp2
        go_ret
        exact ⟨rfl, by
          first
            | exact (Touch.refl (fun _ => False) w).drew.trans T3.out (fun _ _ e => e)
            | exact T3.out⟩
theorem hex20_says (n : Nat) (h : n ≤ 1114111) (w : World) : Calls Tryz.prog 20 #[.int .i64 (n : Nat)] w fun e w' => e = .returned (.string (bytesI (hexL 6 n))) ∧ Touch (fun _ => False) w w' :=
  hex20_any 6 n (by decide) (by decide) (by omega) w
end Go.Proofs.YtdhhcefmmojcmaaGreatDoor
