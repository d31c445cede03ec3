/- Show of an object of texts, whole, and clean; conditions: the two tables lie there, and what is told of lengths. -/
import Derived.Test.YtabhlhgfacpohaaDoorSb
namespace Go.Proofs.YtabhlhgfacpohaaDoor
open Go.RowKit
open Go.Lib

set_option maxRecDepth 100000 in
set_option maxHeartbeats 4000000 in
theorem show_obj (a2 a3 : Option Addr) (n2 c2 n3 c3 : Nat) (ks ts : List ByteArray) (w : World) (h2 : SL w (.slice a2 n2 c2) ks) (h3 : VL w (.slice a3 n3 c3) ts) (ht : Tabs w) (hn : ts.length ≤ 60) (hk : ks.length = ts.length)
    (s2 : ∀ x ∈ ks, x.size ≤ 4000) (s3 : ∀ x ∈ ts, x.size ≤ 4000) :
    Calls Tryd.prog 20 #[.agg #[.int .i64 6, .string ⟨#[]⟩, .slice a2 n2 c2, .slice a3 n3 c3], .slice none 0 0] w fun e w' => ∃ v', e = .returned v' ∧ Grew w w' (.slice none 0 0) v' (objB ks ts) := by
  have TA := hid ((Touch.refl (fun _ => False) w).alloc (.cells #[.int .i64 6, .string ⟨#[]⟩, .slice a2 n2 c2, .slice a3 n3 c3] 26))
  have K := hid (showKids_obj a2 a3 n2 c2 n3 c3 ks ts [] (.slice none 0 0) (w.alloc (.cells #[.int .i64 6, .string ⟨#[]⟩, .slice a2 n2 c2, .slice a3 n3 c3] 26)) (rowKept h2 TA.out (fun _ _ e => e)) (rowKept h3 TA.out (fun _ _ e => e)) (ht.new TA.out) (OB.nil _) (fun k e => by cases e) (by decide) hn hk s2 s3)
  rw [List.nil_append] at K
  clear h2 h3 ht s2 s3
  go_enter Tryd.func20, Tryd.ntmps20
  go_wp2_with fail
  refine K.out.mono ?_
  rintro e w1 ⟨v', rfl, g⟩
  have G := hid (Grew.from TA.out g)
  clear g K TA
  go_wp2
  go_ret
  exact ⟨v', rfl, G.out⟩
set_option maxRecDepth 100000 in
set_option maxHeartbeats 4000000 in
theorem Show_obj (a2 a3 : Option Addr) (n2 c2 n3 c3 : Nat) (ks ts : List ByteArray) (w : World) (h2 : SL w (.slice a2 n2 c2) ks) (h3 : VL w (.slice a3 n3 c3) ts) (ht : Tabs w) (hn : ts.length ≤ 60) (hk : ks.length = ts.length)
    (s2 : ∀ x ∈ ks, x.size ≤ 4000) (s3 : ∀ x ∈ ts, x.size ≤ 4000) :
    Calls Tryd.prog 10 #[.agg #[.int .i64 6, .string ⟨#[]⟩, .slice a2 n2 c2, .slice a3 n3 c3]] w fun e w' => e = .returned (.string ⟨(objB ks ts).toArray⟩) ∧ Touch (fun _ => False) w w' := by
  have TA := hid ((Touch.refl (fun _ => False) w).alloc (.cells #[.int .i64 6, .string ⟨#[]⟩, .slice a2 n2 c2, .slice a3 n3 c3] 26))
  have K := hid (show_obj a2 a3 n2 c2 n3 c3 ks ts (w.alloc (.cells #[.int .i64 6, .string ⟨#[]⟩, .slice a2 n2 c2, .slice a3 n3 c3] 26)) (rowKept h2 TA.out (fun _ _ e => e)) (rowKept h3 TA.out (fun _ _ e => e)) (ht.new TA.out) hn hk s2 s3)
  clear h2 h3 ht s2 s3
  go_enter Tryd.func10, Tryd.ntmps10
  go_wp2_with fail
  refine K.out.mono ?_
  rintro e w1 ⟨v', rfl, g⟩
  have hconv := g.own.conv
  have G := hid (TA.out.trans (g.touch.mono (S' := fun _ => False) (fun k _ e => by cases e)) (fun _ _ e => e))
  clear g K TA
  go_wp2
  go_ret
  exact ⟨rfl, G.out⟩
/-- A text, with what stands for what is bad. -/
def clS (s : ByteArray) : ByteArray := ⟨(UB (scs s)).toArray⟩
set_option maxRecDepth 100000 in
set_option maxHeartbeats 8000000 in
theorem clean_any (s : ByteArray) (w : World) (ht : Tabs w) (hs : s.size ≤ 1048576) :
    Calls Tryd.prog 16 #[.string s] w fun e w' => e = .returned (.string (clS s)) ∧ Touch (fun _ => False) w w' := by
  have HSC := hid (scs_sc s)
  have KD := hid (decX_any s (by omega) w ht)
  have hR := scs_len s
  have KE := hid (fun (a : Option Addr) (c : Nat) (w' : World) (ht' : Tabs w') (hl : ints (scs s) = [] ∨ Ig1 w' a (ints (scs s))) => by
    have := encode_1o a c (ints (scs s)) false w' ht' hl (by unfold ints; rw [List.length_map]; omega)
    rw [enc_quot (scs s) HSC.out] at this
    exact this)
  have HI := hid (show (ints (scs s)).length = (scs s).length from by unfold ints; rw [List.length_map])
  have HT := hid ht
  have HU := hid (show (⟨(UB (scs s)).toArray⟩ : ByteArray) = clS s from rfl)
  clear ht
  rw [HU.out] at KE
  generalize clS s = U at *
  unfold xs at KD
  obtain ⟨R, hRR⟩ : ∃ R, (scs s).length = R := ⟨_, rfl⟩
  rw [HI.out] at KE
  rw [hRR] at KD hR KE HI
  have HR := hid hRR
  clear hRR HU
  go_enter Tryd.func16, Tryd.ntmps16
  go_wp2_with fail
  refine KD.out.mono ?_
  rintro e w4 ⟨g, c, a2, n2, c2, bad, rfl, t4, hg1, hg2, hc, hcell⟩
  have T4 := hid t4
  have H4 := hid (HT.out.new t4)
  have HG := hid hg2
  have HC := hid hcell
  clear t4 KD hg1 hg2 hcell HT
  go_upto_region 2 with fail
  have TA := (Touch.refl (fun _ => False) w4).alloc (.cells #[.int .i64 1, .slice (some ⟨g, 0, none⟩) (R + 1) c, .slice a2 n2 c2, .int .i64 (bad : Nat)] 37) |>.alloc (.cells #[.int .i64 0, .int .i64 0] 29)
  have BX := hid ((((Touch.refl (fun _ => False) (w4.alloc (.cells #[.int .i64 1, .slice (some ⟨g, 0, none⟩) (R + 1) c, .slice a2 n2 c2, .int .i64 (bad : Nat)] 37))).alloc (.cells #[.int .i64 0, .int .i64 0] 29)).block w4.heap.size (by rw [size_alloc1]; omega) id).trans (jfour_new (w := w4) (.int .i64 1) (.slice (some ⟨g, 0, none⟩) (R + 1) c) (.slice a2 n2 c2) (.int .i64 (bad : Nat)) 37))
  have T5 := hid (T4.out.trans TA (fun _ _ e => e))
  have H5 := hid (H4.out.new TA)
  have C5 := hid (fun i x (h : (scs s)[i]? = some x) => (TA.cell (p := ⟨g, i + 1, none⟩) HG.out id).trans (HC.out i x h))
  have HG5 := hid (Nat.lt_of_lt_of_le HG.out TA.size)
  clear TA T4 H4 HC HG
  generalize (w4.alloc (.cells #[.int .i64 1, .slice (some ⟨g, 0, none⟩) (R + 1) c, .slice a2 n2 c2, .int .i64 (bad : Nat)] 37)).alloc (.cells #[.int .i64 0, .int .i64 0] 29) = w5 at *
  generalize w4.heap.size = q at *
  obtain ⟨⟨_, z1, _, _⟩, _⟩ := cells4 BX.out
  have hR1 : ¬ ((R : Int) + 1 < 1) := by omega
  have hcI : ((R : Int) + 1) ≤ (c : Int) := by omega
  have IG := hid (show Ig1 w5 (some ⟨g, 1, none⟩) (ints (scs s)) from by
    refine ⟨g, rfl, HG5.out, fun i hi => ?_⟩
    unfold ints at hi ⊢
    rw [List.length_map] at hi
    rw [List.getElem_map, Nat.add_comm]
    exact C5.out i _ (List.getElem?_eq_getElem hi))
  go_wp2_with fail
  case inl h =>
    have KE5 := hid (fun a cc => KE.out a cc w5 H5.out (.inl (List.eq_nil_of_length_eq_zero (by rw [HI.out]; omega))))
    refine (KE5.out _ _).mono ?_
    rintro e w6 ⟨rfl, t6⟩
    have T6 := hid (T5.out.trans t6 (fun _ _ e => e))
    have H6 := hid (H5.out.new t6)
    clear t6 KE5 KE T5 H5 BX IG C5 z1
    go_wp2
    go_ret
    exact ⟨rfl, T6.out⟩
  case inr h =>
    have KE5 := hid (fun cc => KE.out (some ⟨g, 1, none⟩) cc w5 H5.out (.inr IG.out))
    refine (KE5.out _).mono ?_
    rintro e w6 ⟨rfl, t6⟩
    have T6 := hid (T5.out.trans t6 (fun _ _ e => e))
    have H6 := hid (H5.out.new t6)
    clear t6 KE5 KE T5 H5 BX IG C5 z1
    go_wp2
    go_ret
    exact ⟨rfl, T6.out⟩
end Go.Proofs.YtabhlhgfacpohaaDoor
