/- GzTurned's walk; condition: the table of the sums lies there. -/
import Derived.Test.YtffjkceedbblgaaGreatDoorWa
import Derived.Deep.RegionHeld
namespace Go.Proofs.YtffjkceedbblgaaGreatDoor
open Go.RowKit
open Go.Lib
open Gz

theorem oneF_size5 (d : ByteArray) (h : d.size ≤ 65535) : (oneF d).size = 23 + d.size := by
  rw [oneF_size, packS_size]
  omega
theorem u8_xor (a b : Nat) (ha : a < 256) (hb : b < 256) : bits .xor .u8 (a : Int) (b : Int) = ((a ^^^ b : Nat) : Int) := by
  show IntKind.u8.wrap ((BitVec.ofInt 8 (a : Int) ^^^ BitVec.ofInt 8 (b : Int)).toNat : Nat) = _
  have e : (BitVec.ofInt 8 (a : Int) ^^^ BitVec.ofInt 8 (b : Int)).toNat = a ^^^ b := by
    rw [BitVec.toNat_xor, BitVec.toNat_ofInt, BitVec.toNat_ofInt]
    congr 1 <;> omega
  have hlt : a ^^^ b < 256 := Nat.xor_lt_two_pow (n := 8) ha hb
  rw [e, IntKind.wrap_u8]
  omega
theorem xor_ne (a b : Nat) (hb : b ≠ 0) : a ^^^ b ≠ a := fun e => hb (by
  have : a ^^^ (a ^^^ b) = a ^^^ a := by rw [e]
  rw [← Nat.xor_assoc, Nat.xor_self, Nat.zero_xor] at this
  exact this)
theorem row_at (F : ByteArray) (cap j : Nat) (h : j < F.size) : (bytesRow F cap)[j]? = some (.int .u8 (Bt.byteN F j : Int)) := by
  have h0 : F.data.size = F.size := rfl
  unfold bytesRow
  rw [Array.getElem?_append_left (by simp; omega), Array.getElem?_map, Array.getElem?_eq_getElem (by omega)]
  unfold Bt.byteN
  rw [Array.getD_eq_getD_getElem?, Array.getElem?_eq_getElem (by omega)]
  rfl
theorem row_size (F : ByteArray) (cap : Nat) : F.size ≤ (bytesRow F cap).size := by
  have h0 : F.data.size = F.size := rfl
  unfold bytesRow
  rw [Array.size_append, Array.size_map]
  omega
theorem cell_of {w : World} {q : Nat} {row : Array Value} {fr : Nat × Nat} (h : w.heap[q]? = some (.cells row 5 fr)) (j : Nat) : w.cell? ⟨q, j, none⟩ = row[j]? := by simp [World.cell?, h]
theorem block_setF {w : World} {b : Nat} {cs : Array Value} {t : TypeId} {fr : Nat × Nat} (h : w.heap[b]? = some (.cells cs t fr)) (i : Nat) (x : Value) : (w.setCell ⟨b, i, none⟩ x).heap[b]? = some (.cells (cs.set! i x) t fr) := by
  have hlt := lt_of_block h
  have h' : w.heap[b] = .cells cs t fr := by simpa [Array.getElem?_eq_getElem hlt] using h
  show (w.heap.modify b _)[b]? = _
  rw [Array.getElem?_eq_getElem (by simpa using hlt), Array.getElem_modify_self, h']
  rfl
set_option maxRecDepth 100000 in
set_option maxHeartbeats 8000000 in
theorem gzTurned_walk (d : ByteArray) (bit : Int) (w : World) (hq : Quart w) (hs : d.size ≤ 140737488351232) :
    Calls Tryz.prog 5 #[.string d, .int .i64 bit] w fun e w' => e = .returned (.bool true) ∧ Touch (fun _ => False) w w' := by
  have HQ := hid hq
  have K := hid (speaks_yes w hq)
  clear hq
  by_cases hbig : (65535 : Int) < (d.size : Int)
  · go_enter Tryz.func5, Tryz.ntmps5
    go_wp2_with fail
    refine K.out.mono ?_
    rintro e w1 ⟨rfl, rfl⟩
    clear K
    go_wp2
    go_ret
    exact ⟨rfl, Touch.refl _ _⟩
  · have hd : d.size ≤ 65535 := by omega
    have TP := hid ((Touch.refl (fun _ => False) w).alloc (.cells (plainC d) 28))
    have BP := hid (new_block w (plainC d) 28)
    go_enter Tryz.func5, Tryz.ntmps5
    go_wp2_with fail
    refine K.out.mono ?_
    rintro e w1 ⟨rfl, rfl⟩
    clear K
    go_wp2_with fail
    obtain ⟨wP, hwP⟩ : ∃ wP, wP = w.alloc (.cells (plainC d) 28) := ⟨_, rfl⟩
    obtain ⟨q, hqq⟩ : ∃ q, q = w.heap.size := ⟨_, rfl⟩
    change Calls _ _ _ (w.alloc (.cells (plainC d) 28)) _
    rw [← hwP] at TP BP ⊢
    rw [← hqq] at BP ⊢
    clear hwP hqq
    have KW := hid (write_plain q 1 [d] wP (pn_one _ _ _ BP.out) (HQ.out.new TP.out id) (by simp) (by simp) (fun x hx => by
      obtain rfl : x = d := by simpa using hx
      exact ⟨by omega, partB_len _ (by omega)⟩))
    rw [file_one] at KW
    have hF := oneF_size5 d hd
    have HT := hid (turned d hd)
    obtain ⟨F, hFe⟩ : ∃ F, F = oneF d := ⟨_, rfl⟩
    rw [← hFe] at KW hF HT
    clear hFe
    refine Calls.mono (R := fun e w' => e = .returned (.tuple #[.string F, .int .i64 0]) ∧ Touch (fun _ => False) wP w') KW.out ?_
    rintro e w2 ⟨rfl, t2⟩
    have T2 := hid (TP.out.trans t2 (fun _ _ e => e))
    clear t2 KW TP BP
    have HF := hid hF
    have hF2 : (23 : Int) ≤ (F.size : Int) := by omega
    have hF3 : F.size ≤ 65558 := by omega
    clear hF
    by_cases hb0 : bit < 0
    · go_upto_region 10 with fail
      have hcv := run_bytes_of_string (P := Tryz.prog) w2 9 36 5 F Tryz.underlying9 Tryz.underlying36 Tryz.underlying5
      have TA := hid ((T2.out.alloc (.cells (bytesRow F (grownCap w2 F.size 0 5)) 5 ((bytesRow F (grownCap w2 F.size 0 5)).size, (bytesRow F (grownCap w2 F.size 0 5)).size + 1))).drew)
      have BA := hid (show (w2.alloc (.cells (bytesRow F (grownCap w2 F.size 0 5)) 5 ((bytesRow F (grownCap w2 F.size 0 5)).size, (bytesRow F (grownCap w2 F.size 0 5)).size + 1))).drew.heap[w2.heap.size]? = _ from heap_alloc_new w2 _)
      have HRA := hid (row_at F (grownCap w2 F.size 0 5))
      have hrs := row_size F (grownCap w2 F.size 0 5)
      go_upto_region 11 with fail
      clear hcv
      generalize bytesRow F (grownCap w2 F.size 0 5) = R at *
      generalize grownCap w2 F.size 0 5 = cap at *
      generalize (w2.alloc (.cells R 5 (R.size, R.size + 1))).drew = w3 at *
      obtain ⟨q3, hq3⟩ : ∃ q3, q3 = w2.heap.size := ⟨_, rfl⟩
      have HQ3 := hid (show w.heap.size ≤ q3 from by have := T2.out.size; omega)
      rw [← hq3] at BA ⊢
      clear hq3 T2
      have c0 : w3.cell? ⟨q3, 15, none⟩ = some (.int .u8 (Bt.byteN F (15) : Int)) := (cell_of BA.out _).trans (HRA.out _ (by omega))
      have f0 : w3.frozen? ⟨q3, 15, none⟩ = false := by
        simp [World.frozen?, BA.out]
        omega
      have hx256 := Bt.byteN_lt F (15)
      obtain ⟨x, hx⟩ : ∃ x, x = Bt.byteN F (15) := ⟨_, rfl⟩
      have HXE := hid hx
      rw [← hx] at c0 hx256
      clear hx
      have hxo : bits .xor .u8 (x : Int) 1 = ((x ^^^ (1) : Nat) : Int) := u8_xor x (1) hx256 (by decide)
      have hF15 : (15 : Int) < (F.size : Int) := by omega
      have hF15n : 15 < F.size := by omega
      go_region

      have hyn : x ^^^ (1) ≠ x := xor_ne x (1) (by decide)
      have hy256 : x ^^^ (1) < 256 := Nat.xor_lt_two_pow (n := 8) hx256 (by decide)
      clear hxo
      generalize x ^^^ (1) = y at *
      have hvn : (UInt8.ofNat y).toNat = y := by rw [UInt8.toNat_ofNat']; omega
      have HL := hid (show (F.data.toList.set (15) (UInt8.ofNat y)).length = F.size from by rw [List.length_set, ba_len])
      have B4 := hid (show ((w3.setCell ⟨q3, 15, none⟩ (.int .u8 (y : Int))).drew).heap[q3]? = some (.cells (R.set! (15) (.int .u8 (y : Int))) 5 (R.size, R.size + 1)) from block_setF BA.out _ _)
      have T4 := hid ((TA.out.setCell (p := ⟨q3, 15, none⟩) (fun hh => by have := HQ3.out; simp at hh; omega) (.int .u8 (y : Int))).drew)
      have HC4 := hid (show ∀ j (hj : j < (F.data.toList.set (15) (UInt8.ofNat y)).length), ((w3.setCell ⟨q3, 15, none⟩ (.int .u8 (y : Int))).drew).cell? ((⟨q3, 0, none⟩ : Addr).add j) = some (.int .u8 (((F.data.toList.set (15) (UInt8.ofNat y))[j]).toNat : Int)) from by
        intro j hj
        rw [HL.out] at hj
        have ea : (⟨q3, 0, none⟩ : Addr).add j = ⟨q3, j, none⟩ := by
          unfold Addr.add
          split
          · rename_i h; rw [h]
          · rw [Nat.zero_add]
        rw [ea, cell_of B4.out]
        have hrj := HRA.out j hj
        have hjR : j < R.size := by omega
        by_cases hjp : 15 = j
        · subst hjp
          rw [Array.set!_eq_setIfInBounds, Array.getElem?_setIfInBounds_self_of_lt hjR]
          simp only [List.getElem_set_self, hvn]
        · rw [Array.set!_eq_setIfInBounds, Array.getElem?_setIfInBounds_ne hjp, hrj]
          simp only [List.getElem_set_ne hjp]
          rw [byteN_list, List.getElem?_eq_getElem (by rw [ba_len]; exact hj), Option.getD_some])
      have HV := hid (show F.data.toList[15]? ≠ some (UInt8.ofNat y) from by
        intro e
        have e2 := HXE.out
        rw [byteN_list, e, Option.getD_some, hvn] at e2
        exact hyn e2.symm)
      have hcb := run_convert_bytes_back (P := Tryz.prog) _ 36 9 5 ⟨q3, 0, none⟩ cap _ Tryz.underlying36 Tryz.underlying5 Tryz.underlying9 HC4.out
      rw [HL.out] at hcb
      obtain ⟨x', c', n', hxs, hc', hn', hbad, heq⟩ := HT.out (0) (by omega) (UInt8.ofNat y) HV.out
      rw [heq] at hcb
      clear HC4 HV HL heq B4 BA TA c0 f0 HRA HXE hvn hyn HT
      generalize (w3.setCell ⟨q3, 15, none⟩ (.int .u8 (y : Int))).drew = w4 at *
      have HRD := hid (fun r (k : Gz.Rd (gF x' c' n') 0 d.size 0 r) => rd_turned (by omega) hc' hn' hbad k)
      have hgs : (gF x' c' n').size ≤ 131072 := by
        rw [gF_size, packS_size]
        omega
      have KA := hid (read_any (gF x' c' n') d.size w4 (HQ.out.new T4.out id) (by omega) (by omega))
      clear hbad hc' hn'
      generalize gF x' c' n' = G at *
      go_wp2_with fail
      refine Calls.mono (R := fun e w' => ∃ r, Gz.Rd G 0 d.size 0 r ∧ RPost 28 w4 r e w') KA.out ?_
      rintro e w5 ⟨r, hr, hp⟩
      obtain ⟨⟨b1, b2⟩, hb, rfl⟩ := HRD.out r hr
      obtain ⟨rfl, t5⟩ := hp
      have T5 := hid ((T4.out.trans t5 (fun _ _ e => e)).alloc (.cells #[.int .i64 (b1 : Nat), .int .i64 (b2 : Nat)] 31))
      have BF := hid (new_block w5 #[.int .i64 (b1 : Nat), .int .i64 (b2 : Nat)] 31)
      clear t5 hr KA HRD T4
      dsimp only at hb
      have hbI : ¬ (b1 : Int) = 0 := by omega
      have hbB : ((b1 : Int) != 0) = true := by simpa using hbI
      go_upto_region 13 with fail
      generalize w5.alloc (.cells #[.int .i64 (b1 : Int), .int .i64 (b2 : Int)] 31) = w6 at *
      generalize w5.heap.size = q5 at *
      have g0 := cell_two0 BF.out
      have g1 := cell_two1 BF.out
      go_wp2
      go_ret
      exact ⟨rfl, T5.out⟩
    · by_cases hbb : 8 * ((F.size : Int) - 15) ≤ bit
      · go_upto_region 10 with fail
        have hcv := run_bytes_of_string (P := Tryz.prog) w2 9 36 5 F Tryz.underlying9 Tryz.underlying36 Tryz.underlying5
        have TA := hid ((T2.out.alloc (.cells (bytesRow F (grownCap w2 F.size 0 5)) 5 ((bytesRow F (grownCap w2 F.size 0 5)).size, (bytesRow F (grownCap w2 F.size 0 5)).size + 1))).drew)
        have BA := hid (show (w2.alloc (.cells (bytesRow F (grownCap w2 F.size 0 5)) 5 ((bytesRow F (grownCap w2 F.size 0 5)).size, (bytesRow F (grownCap w2 F.size 0 5)).size + 1))).drew.heap[w2.heap.size]? = _ from heap_alloc_new w2 _)
        have HRA := hid (row_at F (grownCap w2 F.size 0 5))
        have hrs := row_size F (grownCap w2 F.size 0 5)
        go_upto_region 11 with fail
        clear hcv
        generalize bytesRow F (grownCap w2 F.size 0 5) = R at *
        generalize grownCap w2 F.size 0 5 = cap at *
        generalize (w2.alloc (.cells R 5 (R.size, R.size + 1))).drew = w3 at *
        obtain ⟨q3, hq3⟩ : ∃ q3, q3 = w2.heap.size := ⟨_, rfl⟩
        have HQ3 := hid (show w.heap.size ≤ q3 from by have := T2.out.size; omega)
        rw [← hq3] at BA ⊢
        clear hq3 T2
        have c0 : w3.cell? ⟨q3, 15, none⟩ = some (.int .u8 (Bt.byteN F (15) : Int)) := (cell_of BA.out _).trans (HRA.out _ (by omega))
        have f0 : w3.frozen? ⟨q3, 15, none⟩ = false := by
          simp [World.frozen?, BA.out]
          omega
        have hx256 := Bt.byteN_lt F (15)
        obtain ⟨x, hx⟩ : ∃ x, x = Bt.byteN F (15) := ⟨_, rfl⟩
        have HXE := hid hx
        rw [← hx] at c0 hx256
        clear hx
        have hxo : bits .xor .u8 (x : Int) 1 = ((x ^^^ (1) : Nat) : Int) := u8_xor x (1) hx256 (by decide)
        have hF15 : (15 : Int) < (F.size : Int) := by omega
        have hF15n : 15 < F.size := by omega
        go_region

        have hyn : x ^^^ (1) ≠ x := xor_ne x (1) (by decide)
        have hy256 : x ^^^ (1) < 256 := Nat.xor_lt_two_pow (n := 8) hx256 (by decide)
        clear hxo
        generalize x ^^^ (1) = y at *
        have hvn : (UInt8.ofNat y).toNat = y := by rw [UInt8.toNat_ofNat']; omega
        have HL := hid (show (F.data.toList.set (15) (UInt8.ofNat y)).length = F.size from by rw [List.length_set, ba_len])
        have B4 := hid (show ((w3.setCell ⟨q3, 15, none⟩ (.int .u8 (y : Int))).drew).heap[q3]? = some (.cells (R.set! (15) (.int .u8 (y : Int))) 5 (R.size, R.size + 1)) from block_setF BA.out _ _)
        have T4 := hid ((TA.out.setCell (p := ⟨q3, 15, none⟩) (fun hh => by have := HQ3.out; simp at hh; omega) (.int .u8 (y : Int))).drew)
        have HC4 := hid (show ∀ j (hj : j < (F.data.toList.set (15) (UInt8.ofNat y)).length), ((w3.setCell ⟨q3, 15, none⟩ (.int .u8 (y : Int))).drew).cell? ((⟨q3, 0, none⟩ : Addr).add j) = some (.int .u8 (((F.data.toList.set (15) (UInt8.ofNat y))[j]).toNat : Int)) from by
          intro j hj
          rw [HL.out] at hj
          have ea : (⟨q3, 0, none⟩ : Addr).add j = ⟨q3, j, none⟩ := by
            unfold Addr.add
            split
            · rename_i h; rw [h]
            · rw [Nat.zero_add]
          rw [ea, cell_of B4.out]
          have hrj := HRA.out j hj
          have hjR : j < R.size := by omega
          by_cases hjp : 15 = j
          · subst hjp
            rw [Array.set!_eq_setIfInBounds, Array.getElem?_setIfInBounds_self_of_lt hjR]
            simp only [List.getElem_set_self, hvn]
          · rw [Array.set!_eq_setIfInBounds, Array.getElem?_setIfInBounds_ne hjp, hrj]
            simp only [List.getElem_set_ne hjp]
            rw [byteN_list, List.getElem?_eq_getElem (by rw [ba_len]; exact hj), Option.getD_some])
        have HV := hid (show F.data.toList[15]? ≠ some (UInt8.ofNat y) from by
          intro e
          have e2 := HXE.out
          rw [byteN_list, e, Option.getD_some, hvn] at e2
          exact hyn e2.symm)
        have hcb := run_convert_bytes_back (P := Tryz.prog) _ 36 9 5 ⟨q3, 0, none⟩ cap _ Tryz.underlying36 Tryz.underlying5 Tryz.underlying9 HC4.out
        rw [HL.out] at hcb
        obtain ⟨x', c', n', hxs, hc', hn', hbad, heq⟩ := HT.out (0) (by omega) (UInt8.ofNat y) HV.out
        rw [heq] at hcb
        clear HC4 HV HL heq B4 BA TA c0 f0 HRA HXE hvn hyn HT
        generalize (w3.setCell ⟨q3, 15, none⟩ (.int .u8 (y : Int))).drew = w4 at *
        have HRD := hid (fun r (k : Gz.Rd (gF x' c' n') 0 d.size 0 r) => rd_turned (by omega) hc' hn' hbad k)
        have hgs : (gF x' c' n').size ≤ 131072 := by
          rw [gF_size, packS_size]
          omega
        have KA := hid (read_any (gF x' c' n') d.size w4 (HQ.out.new T4.out id) (by omega) (by omega))
        clear hbad hc' hn'
        generalize gF x' c' n' = G at *
        go_wp2_with fail
        refine Calls.mono (R := fun e w' => ∃ r, Gz.Rd G 0 d.size 0 r ∧ RPost 28 w4 r e w') KA.out ?_
        rintro e w5 ⟨r, hr, hp⟩
        obtain ⟨⟨b1, b2⟩, hb, rfl⟩ := HRD.out r hr
        obtain ⟨rfl, t5⟩ := hp
        have T5 := hid ((T4.out.trans t5 (fun _ _ e => e)).alloc (.cells #[.int .i64 (b1 : Nat), .int .i64 (b2 : Nat)] 31))
        have BF := hid (new_block w5 #[.int .i64 (b1 : Nat), .int .i64 (b2 : Nat)] 31)
        clear t5 hr KA HRD T4
        dsimp only at hb
        have hbI : ¬ (b1 : Int) = 0 := by omega
        have hbB : ((b1 : Int) != 0) = true := by simpa using hbI
        go_upto_region 13 with fail
        generalize w5.alloc (.cells #[.int .i64 (b1 : Int), .int .i64 (b2 : Int)] 31) = w6 at *
        generalize w5.heap.size = q5 at *
        have g0 := cell_two0 BF.out
        have g1 := cell_two1 BF.out
        go_wp2
        go_ret
        exact ⟨rfl, T5.out⟩
      · obtain ⟨b, rfl⟩ : ∃ b : Nat, bit = (b : Int) := ⟨bit.toNat, by omega⟩
        have hb8 : b < 8 * (d.size + 8) := by
          have := HF.out
          omega
        go_upto_region 10 with fail
        obtain ⟨e, he⟩ : ∃ e, e = b / 8 := ⟨_, rfl⟩
        obtain ⟨k, hk⟩ : ∃ k, k = b % 8 := ⟨_, rfl⟩
        have hdv : (b : Int) / 8 = (e : Int) := by omega
        have hdt : (b : Int).tdiv 8 = (e : Int) := by rw [Int.tdiv_eq_ediv_of_nonneg (Int.natCast_nonneg b)]; exact hdv
        have hrm : (b : Int) % 8 = (k : Int) := by omega
        have hrt : (b : Int).tmod 8 = (k : Int) := by rw [Int.tmod_eq_emod_of_nonneg (Int.natCast_nonneg b)]; exact hrm
        have he8 : e < d.size + 8 := by omega
        have hk8 : k < 8 := by omega
        have heF : 15 + e < F.size := by
          have := HF.out
          omega
        clear he hk hb8
        have hcv := run_bytes_of_string (P := Tryz.prog) w2 9 36 5 F Tryz.underlying9 Tryz.underlying36 Tryz.underlying5
        have TA := hid ((T2.out.alloc (.cells (bytesRow F (grownCap w2 F.size 0 5)) 5 ((bytesRow F (grownCap w2 F.size 0 5)).size, (bytesRow F (grownCap w2 F.size 0 5)).size + 1))).drew)
        have BA := hid (show (w2.alloc (.cells (bytesRow F (grownCap w2 F.size 0 5)) 5 ((bytesRow F (grownCap w2 F.size 0 5)).size, (bytesRow F (grownCap w2 F.size 0 5)).size + 1))).drew.heap[w2.heap.size]? = _ from heap_alloc_new w2 _)
        have HRA := hid (row_at F (grownCap w2 F.size 0 5))
        have hrs := row_size F (grownCap w2 F.size 0 5)
        go_upto_region 11 with fail
        clear hcv
        generalize bytesRow F (grownCap w2 F.size 0 5) = R at *
        generalize grownCap w2 F.size 0 5 = cap at *
        generalize (w2.alloc (.cells R 5 (R.size, R.size + 1))).drew = w3 at *
        obtain ⟨q3, hq3⟩ : ∃ q3, q3 = w2.heap.size := ⟨_, rfl⟩
        have HQ3 := hid (show w.heap.size ≤ q3 from by have := T2.out.size; omega)
        rw [← hq3] at BA ⊢
        clear hq3 T2
        have c0 : w3.cell? ⟨q3, 15 + e, none⟩ = some (.int .u8 (Bt.byteN F (15 + e) : Int)) := (cell_of BA.out _).trans (HRA.out _ (by omega))
        have f0 : w3.frozen? ⟨q3, 15 + e, none⟩ = false := by
          simp [World.frozen?, BA.out]
          omega
        have hx256 := Bt.byteN_lt F (15 + e)
        obtain ⟨x, hx⟩ : ∃ x, x = Bt.byteN F (15 + e) := ⟨_, rfl⟩
        have HXE := hid hx
        rw [← hx] at c0 hx256
        clear hx
        have hpw : (2 : Int) ^ k % 256 = ((2 ^ k : Nat) : Int) := by
          have h7 : 2 ^ k < 256 := Nat.lt_of_le_of_lt (Nat.pow_le_pow_right (by decide) (show k ≤ 7 by omega)) (by decide)
          rw [show (2 : Int) ^ k = ((2 ^ k : Nat) : Int) by simp]
          exact Int.emod_eq_of_lt (Int.natCast_nonneg _) (by exact_mod_cast h7)
        have hxo : bits .xor .u8 (x : Int) ((2 : Int) ^ k % 256) = ((x ^^^ (2 ^ k) : Nat) : Int) := by rw [hpw]; exact u8_xor x (2 ^ k) hx256 (by exact Nat.lt_of_le_of_lt (Nat.pow_le_pow_right (by decide) (show k ≤ 7 by omega)) (by decide))
        clear hpw
        have hFe : (15 : Int) + (e : Int) < (F.size : Int) := by omega
        have hFe0 : (0 : Int) ≤ (15 : Int) + (e : Int) := by omega
        have hFn : ((15 : Int) + (e : Int)).toNat = 15 + e := by omega
        have hwe : IntKind.i64.wrap (e : Int) = (e : Int) := by rw [IntKind.wrap_i64]; omega
        have hw15 : IntKind.i64.wrap (15 + (e : Int)) = 15 + (e : Int) := by rw [IntKind.wrap_i64]; omega
        go_region

        have hyn : x ^^^ (2 ^ k) ≠ x := xor_ne x (2 ^ k) (by exact Nat.pos_iff_ne_zero.1 (Nat.pow_pos (by decide)))
        have hy256 : x ^^^ (2 ^ k) < 256 := Nat.xor_lt_two_pow (n := 8) hx256 (by exact Nat.lt_of_le_of_lt (Nat.pow_le_pow_right (by decide) (show k ≤ 7 by omega)) (by decide))
        clear hxo
        generalize x ^^^ (2 ^ k) = y at *
        have hvn : (UInt8.ofNat y).toNat = y := by rw [UInt8.toNat_ofNat']; omega
        have HL := hid (show (F.data.toList.set (15 + e) (UInt8.ofNat y)).length = F.size from by rw [List.length_set, ba_len])
        have B4 := hid (show ((w3.setCell ⟨q3, 15 + e, none⟩ (.int .u8 (y : Int))).drew).heap[q3]? = some (.cells (R.set! (15 + e) (.int .u8 (y : Int))) 5 (R.size, R.size + 1)) from block_setF BA.out _ _)
        have T4 := hid ((TA.out.setCell (p := ⟨q3, 15 + e, none⟩) (fun hh => by have := HQ3.out; simp at hh; omega) (.int .u8 (y : Int))).drew)
        have HC4 := hid (show ∀ j (hj : j < (F.data.toList.set (15 + e) (UInt8.ofNat y)).length), ((w3.setCell ⟨q3, 15 + e, none⟩ (.int .u8 (y : Int))).drew).cell? ((⟨q3, 0, none⟩ : Addr).add j) = some (.int .u8 (((F.data.toList.set (15 + e) (UInt8.ofNat y))[j]).toNat : Int)) from by
          intro j hj
          rw [HL.out] at hj
          have ea : (⟨q3, 0, none⟩ : Addr).add j = ⟨q3, j, none⟩ := by
            unfold Addr.add
            split
            · rename_i h; rw [h]
            · rw [Nat.zero_add]
          rw [ea, cell_of B4.out]
          have hrj := HRA.out j hj
          have hjR : j < R.size := by omega
          by_cases hjp : 15 + e = j
          · subst hjp
            rw [Array.set!_eq_setIfInBounds, Array.getElem?_setIfInBounds_self_of_lt hjR]
            simp only [List.getElem_set_self, hvn]
          · rw [Array.set!_eq_setIfInBounds, Array.getElem?_setIfInBounds_ne hjp, hrj]
            simp only [List.getElem_set_ne hjp]
            rw [byteN_list, List.getElem?_eq_getElem (by rw [ba_len]; exact hj), Option.getD_some])
        have HV := hid (show F.data.toList[15 + e]? ≠ some (UInt8.ofNat y) from by
          intro e
          have e2 := HXE.out
          rw [byteN_list, e, Option.getD_some, hvn] at e2
          exact hyn e2.symm)
        have hcb := run_convert_bytes_back (P := Tryz.prog) _ 36 9 5 ⟨q3, 0, none⟩ cap _ Tryz.underlying36 Tryz.underlying5 Tryz.underlying9 HC4.out
        rw [HL.out] at hcb
        obtain ⟨x', c', n', hxs, hc', hn', hbad, heq⟩ := HT.out (e) (by omega) (UInt8.ofNat y) HV.out
        rw [heq] at hcb
        clear HC4 HV HL heq B4 BA TA c0 f0 HRA HXE hvn hyn HT
        generalize (w3.setCell ⟨q3, 15 + e, none⟩ (.int .u8 (y : Int))).drew = w4 at *
        have HRD := hid (fun r (k : Gz.Rd (gF x' c' n') 0 d.size 0 r) => rd_turned (by omega) hc' hn' hbad k)
        have hgs : (gF x' c' n').size ≤ 131072 := by
          rw [gF_size, packS_size]
          omega
        have KA := hid (read_any (gF x' c' n') d.size w4 (HQ.out.new T4.out id) (by omega) (by omega))
        clear hbad hc' hn'
        generalize gF x' c' n' = G at *
        go_wp2_with fail
        refine Calls.mono (R := fun e w' => ∃ r, Gz.Rd G 0 d.size 0 r ∧ RPost 28 w4 r e w') KA.out ?_
        rintro e w5 ⟨r, hr, hp⟩
        obtain ⟨⟨b1, b2⟩, hb, rfl⟩ := HRD.out r hr
        obtain ⟨rfl, t5⟩ := hp
        have T5 := hid ((T4.out.trans t5 (fun _ _ e => e)).alloc (.cells #[.int .i64 (b1 : Nat), .int .i64 (b2 : Nat)] 31))
        have BF := hid (new_block w5 #[.int .i64 (b1 : Nat), .int .i64 (b2 : Nat)] 31)
        clear t5 hr KA HRD T4
        dsimp only at hb
        have hbI : ¬ (b1 : Int) = 0 := by omega
        have hbB : ((b1 : Int) != 0) = true := by simpa using hbI
        go_upto_region 13 with fail
        generalize w5.alloc (.cells #[.int .i64 (b1 : Int), .int .i64 (b2 : Int)] 31) = w6 at *
        generalize w5.heap.size = q5 at *
        have g0 := cell_two0 BF.out
        have g1 := cell_two1 BF.out
        go_wp2
        go_ret
        exact ⟨rfl, T5.out⟩
end Go.Proofs.YtffjkceedbblgaaGreatDoor
