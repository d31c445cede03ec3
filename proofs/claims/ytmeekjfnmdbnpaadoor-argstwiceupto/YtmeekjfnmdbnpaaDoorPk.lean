/- put, Pack: conditions: the texts fit into memory, the library's variables lie there. -/
import Derived.Test.YtmeekjfnmdbnpaaDoorBu
import Derived.Test.YtmeekjfnmdbnpaaDoorNm
namespace Go.Proofs.YtmeekjfnmdbnpaaDoor
open Go.RowKit
open Go.Lib

theorem builderX : Builder.Extra Tryd.prog Tryd.lays169_ren :=
  { sizeBuilder := by kernel_rfl, liesBuilder := by kernel_rfl, t5 := Tryd.underlying5, a5 := Tryd.isAgg5, z5 := Tryd.sizeOf5, v5 := Tryd.zeroValue5, infoByte := by kernel_rfl, cellsByte := by kernel_rfl, sizeByte := by kernel_rfl, neB5 := by decide }
theorem string_any (B b : Nat) (l : List UInt8) (w : World) (h : Hd B b l w) (hB : B ≤ w.heap.size) :
    Calls Tryd.prog 20 #[.pointer (some ⟨b, 0, none⟩)] w fun e w' => e = .returned (.string ⟨l.toArray⟩) ∧ Below B w w' :=
  Any.Builder_String_any Tryd.lays169 builderX B b l w h hB
theorem dec_short (u : Nat) (h : u ≤ 9223372036854775807) : (decDigits u).length ≤ 19 := by
  refine dec_len_le u 19 ?_ (by decide)
  have e : (10 : Nat) ^ 19 = 10000000000000000000 := by decide
  omega
set_option maxRecDepth 100000 in
set_option maxHeartbeats 4000000 in
theorem put_any (B b : Nat) (l : Bs) (t : ByteArray) (w : World) (h : Hd B b l w) (hB : B ≤ w.heap.size) (hx : Sx w) (hlen : l.length + t.size + 40 ≤ 140737488355328) :
    Calls Tryd.prog 19 #[.pointer (some ⟨b, 0, none⟩), .string t] w fun e w' => e = .returned (.tuple #[]) ∧ Hd B b (l ++ pk t.data.toList) w' ∧ Below B w w' := by
  have K := hid (itoa_any (t.size : Int) (by omega) (by omega) w hx)
  obtain ⟨I, hI, hIs, hId⟩ := name_ba (itoa (t.size : Int))
  rw [hI] at K
  have hsh := dec_short t.size (by omega)
  rw [← itoa_nonneg, ← hIs] at hsh
  have HE := hid (show l ++ pk t.data.toList = ((l ++ I.data.toList) ++ [58]) ++ t.data.toList ++ [44] by
    unfold pk
    rw [len_size, hId, itoa_nonneg]
    simp)
  have HD := hid h
  clear hI hIs hId hx h
  go_enter Tryd.func19, Tryd.ntmps19
  go_wp2_with fail
  refine K.out.mono ?_
  rintro e w1 ⟨rfl, t1⟩
  clear K
  have B1 := hid (t1.belowN B hB)
  have D1 := hid (HD.out.still t1)
  have hB1 : B ≤ w1.heap.size := Nat.le_trans hB t1.size
  clear t1 HD
  go_wp2_with fail
  refine (writeString_any B b l I w1 D1.out (by omega) hB1).mono ?_
  rintro e w2 ⟨rfl, d2, b2⟩
  have D2 := hid d2
  have B2 := hid (B1.out.trans b2)
  have hB2 : B ≤ w2.heap.size := Nat.le_trans hB1 b2.size
  have hl2 : (l ++ I.data.toList).length = l.length + I.size := by rw [List.length_append, len_size]
  obtain ⟨l2, he2⟩ : ∃ l2, l2 = l ++ I.data.toList := ⟨_, rfl⟩
  rw [← he2] at D2 hl2 HE
  have HL2 := hid hl2
  clear d2 b2 D1 B1 he2 hl2
  go_wp2_with fail
  refine (writeString_any B b l2 ⟨#[58]⟩ w2 D2.out (by rw [HL2.out]; show _ + 1 ≤ _; omega) hB2).mono ?_
  rintro e w3 ⟨rfl, d3, b3⟩
  have D3 := hid d3
  have B3 := hid (B2.out.trans b3)
  have hB3 : B ≤ w3.heap.size := Nat.le_trans hB2 b3.size
  change Hid (Hd B b (l2 ++ [58]) w3) at D3
  have HL3 := hid (show (l2 ++ [58]).length = l.length + I.size + 1 by rw [List.length_append, HL2.out]; rfl)
  obtain ⟨l3, he3⟩ : ∃ l3, l3 = l2 ++ [58] := ⟨_, rfl⟩
  rw [← he3] at D3 HL3 HE
  clear d3 b3 D2 B2 he3 HL2
  go_wp2_with fail
  refine (writeString_any B b l3 t w3 D3.out (by rw [HL3.out]; omega) hB3).mono ?_
  rintro e w4 ⟨rfl, d4, b4⟩
  have D4 := hid d4
  have B4 := hid (B3.out.trans b4)
  have hB4 : B ≤ w4.heap.size := Nat.le_trans hB3 b4.size
  have HL4 := hid (show (l3 ++ t.data.toList).length = l.length + I.size + 1 + t.size by rw [List.length_append, HL3.out, len_size])
  obtain ⟨l4, he4⟩ : ∃ l4, l4 = l3 ++ t.data.toList := ⟨_, rfl⟩
  rw [← he4] at D4 HL4 HE
  clear d4 b4 D3 B3 he4 HL3
  go_wp2_with fail
  refine (writeString_any B b l4 ⟨#[44]⟩ w4 D4.out (by rw [HL4.out]; show _ + 1 ≤ _; omega) hB4).mono ?_
  rintro e w5 ⟨rfl, d5, b5⟩
  have D5 := hid d5
  have B5 := hid (B4.out.trans b5)
  clear d5 b5 D4 B4
  go_wp2
  go_end0
  exact ⟨rfl, by rw [HE.out]; exact D5.out, B5.out⟩

theorem pk_short (t : Bs) (h : t.length ≤ 9999999) : (pk t).length ≤ t.length + 9 := by
  rw [pk_len]
  have := dec_len_le t.length 7 (by have e : (10 : Nat) ^ 7 = 10000000 := by decide
                                    omega) (by decide)
  omega
theorem packL_get (ns : List Bs) (i : Nat) (h : i < ns.length) : packL (ns.drop i) = if 9999999 < (ns[i]).length then [] else pk ns[i] ++ packL (ns.drop (i + 1)) := by
  rw [List.drop_eq_getElem_cons h, packL]
/-- How much texts take together. -/
def wt : List Bs → Nat
  | [] => 0
  | t :: l => t.length + 50 + wt l
theorem wt_drop (ns : List Bs) (i : Nat) (h : i < ns.length) : wt (ns.drop i) = (ns[i]).length + 50 + wt (ns.drop (i + 1)) := by
  rw [List.drop_eq_getElem_cons h, wt]
set_option maxRecDepth 100000 in
set_option maxHeartbeats 4000000 in
theorem pack_any (v : Value) (ns : List Bs) (w : World) (hn : Nl w v ns) (hx : Sx w) (hw : wt ns ≤ 140737488355000) :
    Calls Tryd.prog 9 #[v] w fun e w' => e = .returned (sv (packL ns)) ∧ Touch (fun _ => False) w w' := by
  obtain ⟨a, c, rfl, hc⟩ := hn
  have HX := hid hx
  obtain ⟨X, hX⟩ : ∃ X, X = packL ns := ⟨_, rfl⟩
  have HP := hid (show [] ++ packL (ns.drop 0) = X by rw [hX]; rfl)
  rw [← hX]
  have HC := hid hc
  have HWT := hid (show ([] : Bs).length + wt (ns.drop 0) ≤ 140737488355000 from by rw [List.drop_zero]; simpa using hw)
  have hnl : ns.length ≤ 140737488355000 := by
    have : ∀ ns : List Bs, ns.length ≤ wt ns := by
      intro ns
      induction ns with
      | nil => exact Nat.zero_le _
      | cons t l ih => rw [wt, List.length_cons]; omega
    have := this ns
    omega
  clear hX hx hc hw
  go_enter Tryd.func9, Tryd.ntmps9
  go_wp2_with fail
  generalize hwa : w.alloc (.cells #[.pointer none, .slice none 0 0] 60) = wa
  have DA := hid (by rw [← hwa]; exact Hd.new w : Hd w.heap.size w.heap.size [] wa)
  have TA := hid (by rw [← hwa]; exact (Below.refl _ _).alloc (Nat.le_refl _) _ : Below w.heap.size w wa)
  clear hwa
  go_loopg [8] ns.length (fun gk v8 wr => ∃ (i : Nat) (l : Bs), i + gk = ns.length ∧ v8 = .int .i64 (i : Nat) ∧ Hid (l ++ packL (ns.drop i) = X) ∧ Hid (l.length + wt (ns.drop i) ≤ 140737488355000) ∧ Hd w.heap.size w.heap.size l wr ∧ Below w.heap.size w wr)
  case atStart => exact ⟨0, [], by omega, rfl, HP, HWT, DA.out, TA.out⟩
  case round =>
    clear HP HWT DA TA
    obtain ⟨i, l, hig, rfl, HP, HWT, hd, hb⟩ := hrel
    have HD := hid hd
    have HB := hid hb
    have hBw : w.heap.size ≤ wr.heap.size := hb.size
    have HXR := hid (HX.out.below hb)
    clear hd hb
    by_cases hlt : i < ns.length
    · have hltI : (i : Int) < (ns.length : Int) := by omega
      obtain ⟨G, rfl⟩ : ∃ G, gk = G + 1 := ⟨gk - 1, by omega⟩
      rcases HC.out with h0 | ⟨b, o, rfl, hbl, hcell⟩
      · rw [h0] at hlt; simp at hlt
      have hci : wr.cell? ⟨b, o + i, none⟩ = some (sv ns[i]) := by
        rw [HB.out.cell (p := ⟨b, o + i, none⟩) hbl]
        exact hcell i hlt
      rw [packL_get ns i hlt] at HP
      rw [wt_drop ns i hlt] at HWT
      obtain ⟨T, hT, hTs, hTd⟩ := name_ba ns[i]
      rw [hT] at hci
      clear hcell hT HC
      by_cases hbig : 9999999 < (ns[i]).length
      · rw [if_pos hbig, List.append_nil] at HP
        have hgt : (9999999 : Int) < (T.size : Int) := by omega
        clear hbig hTs hTd HWT
        go_wp2_with fail
        refine (string_any w.heap.size w.heap.size l wr HD.out hBw).mono ?_
        rintro e w2 ⟨rfl, b2⟩
        have T2 := hid (Below.touch (HB.out.trans b2))
        clear b2
        go_wp2
        go_ret
        exact ⟨by rw [← HP.out]; rfl, T2.out⟩
      · rw [if_neg hbig, ← List.append_assoc] at HP
        have hgt : ¬ (9999999 : Int) < (T.size : Int) := by omega
        have K := hid (put_any w.heap.size w.heap.size l T wr HD.out hBw HXR.out (by have := HWT.out; omega))
        rw [hTd] at K
        have HS := hid (pk_short ns[i] (by omega))
        clear hbig hTs hTd HXR
        go_wp2_with fail
        refine K.out.mono ?_
        rintro e w2 ⟨rfl, d2, b2⟩
        have D2 := hid d2
        have B2 := hid (HB.out.trans b2)
        clear d2 b2 K HD HB
        go_wp2
        go_roundg G
        case measure => omega
        case rel => exact ⟨i + 1, _, by omega, by go_num, HP, hid (by have h1 := HWT.out; have h2 := HS.out; rw [List.length_append]; omega), D2.out, B2.out⟩
    · have hltI : ¬ (i : Int) < (ns.length : Int) := by omega
      rw [List.drop_eq_nil_of_le (by omega), packL, List.append_nil] at HP
      clear HC HWT
      go_wp2_with fail
      refine (string_any w.heap.size w.heap.size l wr HD.out hBw).mono ?_
      rintro e w2 ⟨rfl, b2⟩
      have T2 := hid (Below.touch (HB.out.trans b2))
      clear b2
      go_wp2
      go_ret
      exact ⟨by rw [← HP.out]; rfl, T2.out⟩
end Go.Proofs.YtmeekjfnmdbnpaaDoor
