/- Texts of this proof, one behind the other: what each says stands ahead of it. -/
import Derived.Test.YtmokfheckngfiaaDoorM10
import Derived.Test.YtmokfheckngfiaaDoorM3
import Derived.Deep.RegionHeld3
/- speaks of the laws of utfsplit; conditions: those told. -/
namespace Go.Proofs.YtmokfheckngfiaaDoor
open Go.RowKit
open Go.Lib

theorem zip65 : List.zip (en8 ((65 : Nat) : Int)) (en8 ((65 : Nat) : Int)) = [(65, 65)] := by decide
/-- Of one range of one number, what Split is asked. -/
theorem in_scalar {s : List S.R2} {r : Int} (h : ∀ x, S.In x s ↔ (0 ≤ x ∧ x ≤ 1114111) ∧ S.In x [(r, r)]) (hr : scB r = true) : ∀ y, S.In y s ∧ ¬ S.In y surL ↔ y = r := fun y => by
  have h2 := (scB_iff r).1 hr
  rw [h y, S.in_one, surL, S.in_one]
  dsimp only
  omega
theorem in_none {s : List S.R2} {r : Int} (h : ∀ x, S.In x s ↔ (0 ≤ x ∧ x ≤ 1114111) ∧ S.In x [(r, r)]) (hr : scB r = false) : ∀ y, S.In y s ∧ ¬ S.In y surL ↔ False := fun y => by
  have h2 : ¬ (0 ≤ r ∧ r ≤ 1114111 ∧ (r < 55296 ∨ 57344 ≤ r)) := fun k => by
    rw [(scB_iff r).2 k] at hr
    cases hr
  rw [h y, S.in_one, surL, S.in_one]
  dsimp only
  refine ⟨fun k => ?_, False.elim⟩
  omega
theorem ow_cap {W0 wr : World} {ty n cap : Nat} {a : Option Addr} {s : List S.R2} (h : S.Ow W0 wr ty (.slice a n cap) s) : s.length ≤ cap := by
  rcases h.own.2 with ⟨_, h0⟩ | ⟨g, cap', cur, hv, _, _, hle, _⟩
  · omega
  · simp only [Value.slice.injEq] at hv
    omega
theorem fitA : fitFrom [(65, 65)] ⟨#[65]⟩ 1 := fun k h _ _ => by
  obtain rfl : k = 0 := by simp at h; omega
  exact (show (65 : Int) ≤ 65 ∧ (65 : Int) ≤ 65 by decide)
theorem fitB : ¬ fitFrom [(65, 65)] ⟨#[66]⟩ 1 := fun h => by
  have := h 0 (by decide) (by decide) (by decide)
  revert this
  decide
theorem hasA (a : Option Addr) (c : Nat) (w : World) (h : S.Rg w a [(65, 65)]) : Calls Tryd.prog 19 #[.slice a 1 c, .string ⟨#[65]⟩] w fun e w' => e = .returned (.bool true) ∧ Touch (fun _ => False) w w' := by
  refine (rowHas_any a c [(65, 65)] ⟨#[65]⟩ w h rfl (by decide)).mono ?_
  rintro e w' ⟨⟨b, rfl, hb⟩, tc⟩
  obtain rfl : b = true := hb.2 fitA
  exact ⟨rfl, tc⟩
theorem hasB' (a : Option Addr) (c : Nat) (w : World) (h : S.Rg w a [(65, 65)]) : Calls Tryd.prog 19 #[.slice a 1 c, .string ⟨#[66]⟩] w fun e w' => e = .returned (.bool false) ∧ Touch (fun _ => False) w w' := by
  refine (rowHas_any a c [(65, 65)] ⟨#[66]⟩ w h rfl (by decide)).mono ?_
  rintro e w' ⟨⟨b, rfl, hb⟩, tc⟩
  cases b
  · exact ⟨rfl, tc⟩
  · exact absurd (hb.1 rfl) fitB
set_option maxRecDepth 100000 in
set_option maxHeartbeats 8000000 in
theorem speaks_yes (w : World) (hbd : Bord w) : Calls Tryd.prog 14 #[] w fun e w' => e = .returned (.bool true) ∧ Touch (fun _ => False) w w' := by
  have HBD := hid hbd
  clear hbd
  have RG := hid (lit_rg w 65 65)
  have TB := hid ((Touch.refl (fun _ => False) w).alloc (.cells #[.int .i64 65, .int .i64 65] 38))
  go_enter Tryd.func14, Tryd.ntmps14
  go_wp2_with fail
  change Calls Tryd.prog 16 #[_] (w.alloc (.cells #[.int .i64 65, .int .i64 65] 38)) _
  generalize (w.alloc (.cells #[.int .i64 65, .int .i64 65] 38)) = w2 at *
  refine (S.of_says (some ⟨w.heap.size, 0, none⟩) 1 [(65, 65)] w2 RG.out (by simp)).mono ?_
  rintro e w3 ⟨v, s3, rfl, hcs, his, ows⟩
  obtain ⟨a3, c3, hv, hrs⟩ := S.own_rg ows.own
  subst hv
  have T3 := hid (TB.out.trans ows.touch (fun _ _ e => e))
  have KS := hid (split_one 65 (by decide) a3 c3 s3 w3 hrs hcs (ow_cap ows) (HBD.out.new T3.out) (in_scalar his (by decide)))
  rw [zip65] at KS
  clear hcs his ows hrs RG TB
  go_wp2_with fail
  refine KS.out.mono ?_
  rintro e w4 ⟨b, n, a, c, rfl, hb, hn, hcell, hrg, tc⟩
  have T4 := hid (T3.out.trans tc (fun _ _ e => e))
  have RG := hid hrg
  have hcell1 : w4.cell? ⟨b, 0, none⟩ = some (.slice a 1 c) := hcell
  clear hcell hrg tc KS T3
  go_wp2_with fail
  refine (hasA a c w4 RG.out).mono ?_
  rintro e w5 ⟨rfl, t5⟩
  have hcell2 : w5.cell? ⟨b, 0, none⟩ = some (.slice a 1 c) := (t5.cell (p := ⟨b, 0, none⟩) hb id).trans hcell1
  have RG5 := hid (RG.out.new t5)
  have T5 := hid (T4.out.trans t5 (fun _ _ e => e))
  clear t5 RG T4 hcell1
  go_wp2_with fail
  refine (hasB' a c w5 RG5.out).mono ?_
  rintro e w6 ⟨rfl, t6⟩
  have T6 := hid (T5.out.trans t6 (fun _ _ e => e))
  clear t6 T5
  go_wp2
  go_ret
  exact ⟨rfl, T6.out⟩
end Go.Proofs.YtmokfheckngfiaaDoor

/- The document's Scalar and Bytes; conditions: those told. -/
namespace Go.Proofs.YtmokfheckngfiaaDoor
open Go.RowKit
open Go.Lib

set_option maxRecDepth 100000 in
theorem rscalar_any (r : Int) (w : World) : Calls Tryd.prog 17 #[.int .i64 r] w fun e w' => e = .returned (.bool (scB r)) ∧ w = w' := by
  by_cases h0 : 0 ≤ r
  · by_cases h1 : r ≤ 1114111
    · by_cases h2 : r < 55296
      · have HS := hid ((scB_iff r).2 ⟨h0, h1, .inl h2⟩)
        go_enter Tryd.func17, Tryd.ntmps17
        go_wp2
        go_ret
        exact ⟨by rw [HS.out]; rfl, rfl⟩
      · by_cases h3 : 57343 < r
        · have HS := hid ((scB_iff r).2 ⟨h0, h1, .inr (by omega)⟩)
          go_enter Tryd.func17, Tryd.ntmps17
          go_wp2
          go_ret
          exact ⟨by rw [HS.out]; rfl, rfl⟩
        · have HS := hid (show scB r = false from Bool.eq_false_iff.2 (fun e => by rw [scB_iff] at e; omega))
          go_enter Tryd.func17, Tryd.ntmps17
          go_wp2
          go_ret
          exact ⟨by rw [HS.out]; rfl, rfl⟩
    · have HS := hid (show scB r = false from Bool.eq_false_iff.2 (fun e => by rw [scB_iff] at e; omega))
      go_enter Tryd.func17, Tryd.ntmps17
      go_wp2
      go_ret
      exact ⟨by rw [HS.out]; rfl, rfl⟩
  · have HS := hid (show scB r = false from Bool.eq_false_iff.2 (fun e => by rw [scB_iff] at e; omega))
    go_enter Tryd.func17, Tryd.ntmps17
    go_wp2
    go_ret
    exact ⟨by rw [HS.out]; rfl, rfl⟩

theorem conv_litI (w : World) (l : List Int) (n : Nat) (hn : n = l.length) (cs : Array Value) (hcs : cs = (l.map (Value.int .u8)).toArray) : (convert 23 9 (.slice (some ⟨w.heap.size, 0, none⟩) n n)).run Tryd.prog (w.alloc (.cells cs 5)) = .ok (.string (strOfNums l)) (w.alloc (.cells cs 5)) := by
  subst hn hcs
  refine run_convert_bytes_arg _ 23 5 Tryd.underlying23 Tryd.underlying5 w.heap.size 0 l.length l.length l rfl (fun i hi => ?_) 9 Tryd.underlying9
  unfold World.cell?
  rw [block_new]
  simp [hi]
theorem wrap8 (r : Int) (h : 0 ≤ r ∧ r ≤ 255) : IntKind.u8.wrap r = r := by
  have : IntKind.u8.wrap r = r % 256 := by
    simp [IntKind.wrap, IntKind.bits, IntKind.signed]
  omega

set_option maxRecDepth 100000 in
theorem bytes_latin (r : Int) (h : 0 ≤ r ∧ r ≤ 255) (w : World) : Calls Tryd.prog 18 #[.int .i64 r, .int .i64 4] w fun e w' => e = .returned (.string (strOfNums [r])) ∧ Touch (fun _ => False) w w' := by
  have hcv := conv_litI w [r] 1 rfl #[.int .u8 r] rfl
  have hw0 := wrap8 (r) (by omega)
  have hr : 0 ≤ r := by omega
  have HH := hid h
  clear h
  go_enter Tryd.func18, Tryd.ntmps18
  go_wp2
  go_ret
  exact ⟨rfl, (Touch.refl _ w).alloc _⟩
set_option maxRecDepth 100000 in
theorem bytes_one (r : Int) (h : 0 ≤ r ∧ r < 128) (w : World) : Calls Tryd.prog 18 #[.int .i64 r, .int .i64 1] w fun e w' => e = .returned (.string (strOfNums [r])) ∧ Touch (fun _ => False) w w' := by
  have hcv := conv_litI w [r] 1 rfl #[.int .u8 r] rfl
  have hw0 := wrap8 (r) (by omega)
  have hr : 0 ≤ r := by omega
  have l128 : r < 128 := by omega
  have HH := hid h
  clear h
  go_enter Tryd.func18, Tryd.ntmps18
  go_wp2
  go_ret
  exact ⟨rfl, (Touch.refl _ w).alloc _⟩
set_option maxRecDepth 100000 in
theorem bytes_two (r : Int) (h : 128 ≤ r ∧ r < 2048) (w : World) : Calls Tryd.prog 18 #[.int .i64 r, .int .i64 1] w fun e w' => e = .returned (.string (strOfNums [192 + r / 64, 128 + r % 64])) ∧ Touch (fun _ => False) w w' := by
  have hcv := conv_litI w [192 + r / 64, 128 + r % 64] 2 rfl #[.int .u8 (192 + r / 64), .int .u8 (128 + r % 64)] rfl
  have hw0 := wrap8 (192 + r / 64) (by omega)
  have hw1 := wrap8 (128 + r % 64) (by omega)
  have hr : 0 ≤ r := by omega
  have n128 : ¬ (r < 128) := by omega
  have l2048 : r < 2048 := by omega
  have HH := hid h
  clear h
  go_enter Tryd.func18, Tryd.ntmps18
  go_wp2
  go_ret
  exact ⟨rfl, (Touch.refl _ w).alloc _⟩
set_option maxRecDepth 100000 in
theorem bytes_three (r : Int) (h : 2048 ≤ r ∧ r < 65536) (w : World) : Calls Tryd.prog 18 #[.int .i64 r, .int .i64 1] w fun e w' => e = .returned (.string (strOfNums [224 + r / 4096, 128 + r / 64 % 64, 128 + r % 64])) ∧ Touch (fun _ => False) w w' := by
  have hcv := conv_litI w [224 + r / 4096, 128 + r / 64 % 64, 128 + r % 64] 3 rfl #[.int .u8 (224 + r / 4096), .int .u8 (128 + r / 64 % 64), .int .u8 (128 + r % 64)] rfl
  have hw0 := wrap8 (224 + r / 4096) (by omega)
  have hw1 := wrap8 (128 + r / 64 % 64) (by omega)
  have hw2 := wrap8 (128 + r % 64) (by omega)
  have hr : 0 ≤ r := by omega
  have n128 : ¬ (r < 128) := by omega
  have n2048 : ¬ (r < 2048) := by omega
  have l65536 : r < 65536 := by omega
  have HH := hid h
  clear h
  go_enter Tryd.func18, Tryd.ntmps18
  go_wp2
  go_ret
  exact ⟨rfl, (Touch.refl _ w).alloc _⟩
set_option maxRecDepth 100000 in
theorem bytes_four (r : Int) (h : 65536 ≤ r ∧ r ≤ 1114111) (w : World) : Calls Tryd.prog 18 #[.int .i64 r, .int .i64 1] w fun e w' => e = .returned (.string (strOfNums [240 + r / 262144, 128 + r / 4096 % 64, 128 + r / 64 % 64, 128 + r % 64])) ∧ Touch (fun _ => False) w w' := by
  have hcv := conv_litI w [240 + r / 262144, 128 + r / 4096 % 64, 128 + r / 64 % 64, 128 + r % 64] 4 rfl #[.int .u8 (240 + r / 262144), .int .u8 (128 + r / 4096 % 64), .int .u8 (128 + r / 64 % 64), .int .u8 (128 + r % 64)] rfl
  have hw0 := wrap8 (240 + r / 262144) (by omega)
  have hw1 := wrap8 (128 + r / 4096 % 64) (by omega)
  have hw2 := wrap8 (128 + r / 64 % 64) (by omega)
  have hw3 := wrap8 (128 + r % 64) (by omega)
  have hr : 0 ≤ r := by omega
  have n128 : ¬ (r < 128) := by omega
  have n2048 : ¬ (r < 2048) := by omega
  have n65536 : ¬ (r < 65536) := by omega
  have hm : r ≤ 1114111 := h.2
  have HH := hid h
  clear h
  go_enter Tryd.func18, Tryd.ntmps18
  go_wp2
  go_ret
  exact ⟨rfl, (Touch.refl _ w).alloc _⟩
set_option maxRecDepth 100000 in
theorem bytes_little (r : Int) (h : 0 ≤ r ∧ r ≤ 65535) (w : World) : Calls Tryd.prog 18 #[.int .i64 r, .int .i64 2] w fun e w' => e = .returned (.string (strOfNums [r % 256, r / 256])) ∧ Touch (fun _ => False) w w' := by
  have hcv := conv_litI w [r % 256, r / 256] 2 rfl #[.int .u8 (r % 256), .int .u8 (r / 256)] rfl
  have hw0 := wrap8 (r % 256) (by omega)
  have hw1 := wrap8 (r / 256) (by omega)
  have hr : 0 ≤ r := by omega
  have ng : ¬ (65535 < r) := by omega
  have HH := hid h
  clear h
  go_enter Tryd.func18, Tryd.ntmps18
  go_wp2
  go_ret
  exact ⟨rfl, (Touch.refl _ w).alloc _⟩
set_option maxRecDepth 100000 in
theorem bytes_big (r : Int) (h : 0 ≤ r ∧ r ≤ 65535) (w : World) : Calls Tryd.prog 18 #[.int .i64 r, .int .i64 3] w fun e w' => e = .returned (.string (strOfNums [r / 256, r % 256])) ∧ Touch (fun _ => False) w w' := by
  have hcv := conv_litI w [r / 256, r % 256] 2 rfl #[.int .u8 (r / 256), .int .u8 (r % 256)] rfl
  have hw0 := wrap8 (r / 256) (by omega)
  have hw1 := wrap8 (r % 256) (by omega)
  have hr : 0 ≤ r := by omega
  have ng : ¬ (65535 < r) := by omega
  have HH := hid h
  clear h
  go_enter Tryd.func18, Tryd.ntmps18
  go_wp2
  go_ret
  exact ⟨rfl, (Touch.refl _ w).alloc _⟩
theorem str_app (a b : List Int) : strOfNums a ++ strOfNums b = strOfNums (a ++ b) := by
  apply ByteArray.ext
  rw [ByteArray.data_append]
  unfold strOfNums
  simp
theorem bytes_unit (c f : Nat) (hcf : (c = 2 ∧ f = 105) ∨ (c = 3 ∧ f = 106)) (r : Int) (h : 0 ≤ r ∧ r ≤ 65535) (w : World) : Calls Tryd.prog 18 #[.int .i64 r, .int .i64 (c : Nat)] w fun e w' => e = .returned (.string (strOfNums (enU f r))) ∧ Touch (fun _ => False) w w' := by
  rcases hcf with ⟨rfl, rfl⟩ | ⟨rfl, rfl⟩
  · exact bytes_little r h w
  · exact bytes_big r h w
set_option maxRecDepth 100000 in
set_option maxHeartbeats 4000000 in
theorem bytes_pair (c f : Nat) (hcf : (c = 2 ∧ f = 105) ∨ (c = 3 ∧ f = 106)) (r : Int) (h : 65536 ≤ r ∧ r ≤ 1114111) (w : World) : Calls Tryd.prog 18 #[.int .i64 r, .int .i64 (c : Nat)] w fun e w' => e = .returned (.string (strOfNums (enU f (55296 + (r - 65536) / 1024) ++ enU f (56320 + (r - 65536) % 1024)))) ∧ Touch (fun _ => False) w w' := by
  have K1 := hid (fun w => bytes_unit c f hcf (55296 + (r - 65536) / 1024) (by omega) w)
  have K2 := hid (fun w => bytes_unit c f hcf (56320 + (r - 65536) % 1024) (by omega) w)
  have hc1 : ¬ ((c : Int) = 1) := by omega
  have hc4 : ¬ ((c : Int) = 4) := by omega
  have hg : 65535 < r := by omega
  have hr : 0 ≤ r - 65536 := by omega
  have hm : r ≤ 1114111 := h.2
  have HA := hid (str_app (enU f (55296 + (r - 65536) / 1024)) (enU f (56320 + (r - 65536) % 1024)))
  rw [← HA.out]
  have hs : ∀ x, (strOfNums (enU f x)).size = 2 := fun x => by
    unfold enU strOfNums
    split <;> rfl
  have hs1 := hs (55296 + (r - 65536) / 1024)
  have hs2 := hs (56320 + (r - 65536) % 1024)
  clear hs
  generalize strOfNums (enU f (55296 + (r - 65536) / 1024)) = s1 at *
  generalize strOfNums (enU f (56320 + (r - 65536) % 1024)) = s2 at *
  have HH := hid h
  clear h hcf
  go_enter Tryd.func18, Tryd.ntmps18
  go_wp2_with fail
  refine (K1.out w).mono ?_
  rintro e w1 ⟨rfl, t1⟩
  have T1 := hid t1
  clear t1
  go_wp2_with fail
  refine (K2.out w1).mono ?_
  rintro e w2 ⟨rfl, t2⟩
  have T2 := hid (T1.out.trans t2 (fun _ _ e => e))
  clear t2
  go_wp2
  go_ret
  exact ⟨rfl, T2.out⟩
theorem bytes_any (c : Nat) (hc : c = 1 ∨ c = 2 ∨ c = 3 ∨ c = 4) (r : Int) (h : okc c r = true) (w : World) : Calls Tryd.prog 18 #[.int .i64 r, .int .i64 (c : Nat)] w fun e w' => e = .returned (.string (strOfNums (enc c r))) ∧ Touch (fun _ => False) w w' := by
  have hi := okc_in h
  have h16 : ∀ d f : Nat, (d = 2 ∧ f = 105) ∨ (d = 3 ∧ f = 106) → 0 ≤ r ∧ r ≤ 1114111 → Calls Tryd.prog 18 #[.int .i64 r, .int .i64 (d : Nat)] w fun e w' => e = .returned (.string (strOfNums (en16 f r))) ∧ Touch (fun _ => False) w w' := fun d f hdf hr => by
    unfold en16
    by_cases h1 : r < 65536
    · rw [if_pos h1]
      exact bytes_unit d f hdf r (by omega) w
    · rw [if_neg h1]
      exact bytes_pair d f hdf r (by omega) w
  rcases hc with rfl | rfl | rfl | rfl
  · have hi' : 0 ≤ r ∧ r ≤ 1114111 := hi
    show Calls Tryd.prog 18 #[.int .i64 r, .int .i64 1] w fun e w' => e = .returned (.string (strOfNums (en8 r))) ∧ Touch (fun _ => False) w w'
    unfold en8
    by_cases h1 : r < 128
    · rw [if_pos h1]
      exact bytes_one r (by omega) w
    rw [if_neg h1]
    by_cases h2 : r < 2048
    · rw [if_pos h2]
      exact bytes_two r (by omega) w
    rw [if_neg h2]
    by_cases h3 : r < 65536
    · rw [if_pos h3]
      exact bytes_three r (by omega) w
    rw [if_neg h3]
    exact bytes_four r (by omega) w
  · exact h16 2 105 (by omega) hi
  · exact h16 3 106 (by omega) hi
  · exact bytes_latin r hi w
end Go.Proofs.YtmokfheckngfiaaDoor

/- SplitOne's walk; no condition on its number. -/
namespace Go.Proofs.YtmokfheckngfiaaDoor
open Go.RowKit
open Go.Lib

theorem zip_self (l : List Int) : (List.zip l l).length = l.length := by simp
theorem fit_self (r : Int) (hr : okc 1 r = true) : fitFrom (List.zip (en8 r) (en8 r)) (strOfNums (en8 r)) (List.zip (en8 r) (en8 r)).length := fun k h h' _ => by
  have hk : k < (en8 r).length := by rw [zip_self] at h; exact h
  rw [at_str (en8 r) (en8_in r hr) k h' hk, List.getElem_zip]
  exact ⟨Int.le_refl _, Int.le_refl _⟩
theorem okc_sc {r : Int} (h : scB r = true) : okc 1 r = true := by
  unfold okc
  rw [h]
  rfl
theorem size_snoc (s : ByteArray) : (s ++ ⟨#[97]⟩).size = s.size + 1 := by
  rw [ByteArray.size_append]
  rfl
set_option maxRecDepth 100000 in
set_option maxHeartbeats 16000000 in
theorem splitOne_walk (r : Int) (w : World) (hbd : Bord w) : Calls Tryd.prog 5 #[.int .i64 r] w fun e w' => e = .returned (.bool true) ∧ Touch (fun _ => False) w w' := by
  have HBD := hid hbd
  clear hbd
  go_enter Tryd.func5, Tryd.ntmps5
  go_wp2_with fail
  refine (speaks_yes w HBD.out).mono ?_
  rintro e w1 ⟨rfl, t1⟩
  have T1 := hid t1
  clear t1
  have RG := hid (lit_rg w1 r r)
  have TB := hid ((Touch.refl (fun _ => False) w1).alloc (.cells #[.int .i64 r, .int .i64 r] 38))
  go_wp2_with fail
  change Calls Tryd.prog 16 #[_] (w1.alloc (.cells #[.int .i64 r, .int .i64 r] 38)) _
  generalize (w1.alloc (.cells #[.int .i64 r, .int .i64 r] 38)) = w2 at *
  refine (S.of_says (some ⟨w1.heap.size, 0, none⟩) 1 [(r, r)] w2 RG.out (by simp)).mono ?_
  rintro e w3 ⟨v, s3, rfl, hcs, his, ows⟩
  obtain ⟨a3, c3, hv, hrs⟩ := S.own_rg ows.own
  subst hv
  have T3 := hid ((T1.out.trans TB.out (fun _ _ e => e)).trans ows.touch (fun _ _ e => e))
  have HCS := hid hcs
  have HIS := hid his
  have HRS := hid hrs
  have HCP := hid (ow_cap ows)
  clear hcs his ows hrs RG TB T1
  by_cases hsc : scB r = true
  · have HSC := hid hsc
    have h2 := (scB_iff r).1 hsc
    obtain ⟨x, rfl⟩ : ∃ x : Nat, r = (x : Int) := ⟨r.toNat, by omega⟩
    have hok := okc_sc hsc
    have KS := hid (split_one x hok a3 c3 s3 w3 HRS.out HCS.out HCP.out (HBD.out.new T3.out) (in_scalar HIS.out hsc))
    have KY := hid (fun w => bytes_any 1 (.inl rfl) (x : Int) hok w)
    have KY1 := hid (show ∀ w, Calls Tryd.prog 18 #[.int .i64 (x : Int), .int .i64 1] w fun e w' => e = .returned (.string (strOfNums (en8 (x : Int)))) ∧ Touch (fun _ => False) w w' from KY.out)
    have KC := hid (fun w => rscalar_any (x : Int) w)
    rw [hsc] at KC
    have hz4 := (en8_len (x : Int)).2
    have hz1 := (en8_len (x : Int)).1
    have FS := hid (fit_self (x : Int) hok)
    have hzl := zip_self (en8 (x : Int))
    have hsz := str_size (en8 (x : Int))
    have HAT := hid (show ∀ k (h : k < (List.zip (en8 (x : Int)) (en8 (x : Int))).length) (h' : k < (strOfNums (en8 (x : Int))).size), (List.zip (en8 (x : Int)) (en8 (x : Int)))[k] = (((strOfNums (en8 (x : Int)))[k].toNat : Int), ((strOfNums (en8 (x : Int)))[k].toNat : Int)) from fun k h h' => by
      have hk : k < (en8 (x : Int)).length := by omega
      rw [at_str (en8 (x : Int)) (en8_in (x : Int) hok) k h' hk, List.getElem_zip])
    clear hsc hok KY HIS HRS HCS HCP
    generalize List.zip (en8 (x : Int)) (en8 (x : Int)) = z at *
    generalize strOfNums (en8 (x : Int)) = s at *
    have hsz2 : s.size = z.length := by omega
    have hz4' : z.length ≤ 4 := by omega
    have hz1' : 1 ≤ z.length := by omega
    clear hsz hzl hz4 hz1
    go_wp2_with fail
    refine KS.out.mono ?_
    rintro e w4 ⟨b, n, a, c, rfl, hb, hn, hcell, hrg, tc⟩
    have T4 := hid (T3.out.trans tc (fun _ _ e => e))
    have RG := hid hrg
    have HB := hid hb
    have HCELL := hid hcell
    clear hcell hrg tc KS T3 hb
    go_wp2_with fail
    refine (KC.out w4).mono ?_
    rintro e w4' ⟨rfl, rfl⟩
    clear KC
    go_wp2_with fail
    refine (KY1.out w4).mono ?_
    rintro e w5 ⟨rfl, t5⟩
    have hcell5 : w5.cell? ⟨b, 0, none⟩ = some (.slice a z.length c) := (t5.cell (p := ⟨b, 0, none⟩) HB.out id).trans HCELL.out
    have HB5 := hid (Nat.lt_of_lt_of_le HB.out t5.size)
    have RG5 := hid (RG.out.new t5)
    have T5 := hid (T4.out.trans t5 (fun _ _ e => e))
    clear t5 RG T4 HB HCELL KY1
    have hszI : (s.size : Int) = (z.length : Int) := by omega
    have KH := hid (rowHas_any a c z s w5 RG5.out hsz2 hz4')
    go_wp2_with fail
    refine KH.out.mono ?_
    rintro e w6 ⟨⟨bb, rfl, hbb⟩, t6⟩
    obtain rfl : bb = true := hbb.2 FS.out
    have hcell6 : w6.cell? ⟨b, 0, none⟩ = some (.slice a z.length c) := (t6.cell (p := ⟨b, 0, none⟩) HB5.out id).trans hcell5
    have HB6 := hid (Nat.lt_of_lt_of_le HB5.out t6.size)
    have RG6 := hid (RG5.out.new t6)
    have T6 := hid (T5.out.trans t6 (fun _ _ e => e))
    clear t6 RG5 T5 HB5 hcell5 KH hbb FS
    have KN := hid (rowHas_short a c z (s ++ ⟨#[97]⟩) w6 (by rw [size_snoc]; omega))
    go_wp2_with fail
    refine KN.out.mono ?_
    rintro e w7 ⟨rfl, t7⟩
    have hcell7 : w7.cell? ⟨b, 0, none⟩ = some (.slice a z.length c) := (t7.cell (p := ⟨b, 0, none⟩) HB6.out id).trans hcell6
    have RG7 := hid (RG6.out.new t7)
    have T7 := hid (T6.out.trans t7 (fun _ _ e => e))
    have lb7 := Nat.lt_of_lt_of_le HB6.out t7.size
    clear t7 RG6 T6 HB6 hcell6 KN
    go_wp2_with fail
    go_loopg [5] z.length (fun gk v5 wq => ∃ k : Nat, k + gk = z.length ∧ v5 = .int .i64 (k : Nat) ∧ Touch (fun _ => False) w7 wq)
    case atStart => exact ⟨0, by omega, rfl, Touch.refl _ _⟩
    case round =>
      obtain ⟨k, hk, rfl, htc⟩ := hrel
      have TC := hid htc
      have R1 := hid (RG7.out.new htc)
      have cb := (htc.cell (p := ⟨b, 0, none⟩) lb7 id).trans hcell7
      clear htc
      by_cases hlt : k < z.length
      · obtain ⟨g, o, ha, hbl, hcell⟩ : ∃ g o, a = some ⟨g, o, none⟩ ∧ g < wr.heap.size ∧ ∀ i (h : i < z.length), wr.cell? ⟨g, o + i * 2, none⟩ = some (.int .i64 (z[i]).1) ∧ wr.cell? ⟨g, o + i * 2 + 1, none⟩ = some (.int .i64 (z[i]).2) := by
          rcases R1.out with h | h
          · rw [h] at hlt; simp at hlt
          · exact h
        subst ha
        obtain ⟨d0, d1⟩ := hcell k hlt
        have hks : k < s.size := by omega
        have hksI : (k : Int) < (s.size : Int) := by omega
        have hkI : (k : Int) < (z.length : Int) := by omega
        rw [HAT.out k hlt hks] at d0 d1
        dsimp only at d0 d1
        obtain ⟨u, hu⟩ : ∃ u : Nat, u = s[k].toNat := ⟨_, rfl⟩
        have hbu : s[k].toNat = u := hu.symm
        have lu : u < 256 := by rw [hu]; exact UInt8.toNat_lt _
        have wu : IntKind.i64.wrap (u : Int) = (u : Int) := by rw [IntKind.wrap_i64]; omega
        rw [← hu] at d0 d1
        clear hcell hu R1
        go_upto_region 12 with fail
        go_quiet (fail)
        go_wp2
        go_roundg (gk - 1)
        case measure => omega
        case rel => exact ⟨k + 1, by omega, by go_num, by first | exact TC.out.drewN _ | exact TC.out.drew⟩
      · obtain rfl : k = z.length := by omega
        go_wp2
        go_ret
        exact ⟨rfl, T7.out.trans TC.out (fun _ _ e => e)⟩
  · have hsc' : scB r = false := by simpa using hsc
    have KS := hid (split_no a3 c3 s3 w3 HRS.out HCS.out HCP.out (HBD.out.new T3.out) (in_none HIS.out hsc'))
    have KC := hid (fun w => rscalar_any r w)
    rw [hsc'] at KC
    clear hsc hsc' HIS HRS HCS HCP
    go_wp2_with fail
    refine KS.out.mono ?_
    rintro e w4 ⟨rfl, tc⟩
    have T4 := hid (T3.out.trans tc (fun _ _ e => e))
    clear tc KS T3
    go_wp2_with fail
    refine (KC.out w4).mono ?_
    rintro e w5 ⟨rfl, rfl⟩
    clear KC
    go_wp2
    go_ret
    exact ⟨rfl, T4.out⟩
end Go.Proofs.YtmokfheckngfiaaDoor
