/- Texts of this proof, one behind the other: what each says stands ahead of it. -/
import Derived.Test.YtpjnnbegimaaeabDoorM7
import Derived.Test.YtpjnnbegimaaeabDoorM3
/- Encode in one coding (its number: 4), of any numbers; conditions: those told. -/
namespace Go.Proofs.YtpjnnbegimaaeabDoor
open Go.RowKit
open Go.Lib
set_option maxRecDepth 100000 in
set_option maxHeartbeats 8000000 in
theorem encode_4 (a : Option Addr) (k : Nat) (l : List Int) (mark : Bool) (w : World) (ht : Tabs w) (hl : l = [] ∨ Ig w a l) (hb : l.length ≤ 1048576) :
    Calls Tryd.prog 8 #[.slice a l.length k, .int .i64 4, .bool mark] w fun e w' => e = .returned (encR 4 mark l) ∧ Touch (fun _ => False) w w' := by
  have O := hid (Ob.start w)
  have T := hid ((Touch.refl (fun _ => False) w).alloc (.cells #[.slice none 0 0] 50))
  have HT := hid ht
  have HL := hid hl
  clear ht hl
  go_enter Tryd.func8, Tryd.ntmps8
  go_upto_region 4 with fail
  generalize (w.alloc (.cells #[.slice none 0 0] 50)) = w1 at *
  obtain ⟨q, hq⟩ : ∃ q, q = w.heap.size := ⟨_, rfl⟩
  rw [← hq] at O ⊢
  have HQ := hid hq
  clear hq
  go_upto_if 18 with fail
  go_cut [18] (fun v wd => v = .bool mark ∧ ∃ v, Ob (fun k => k = q) w1 wd q v (if mark then nums (mk 4) else []))
  case first =>
    cases mark
    · go_wp2
      go_meet
      case rel => exact ⟨rfl, _, O.out⟩
    · obtain ⟨m4, hm4⟩ : ∃ m, m = mk 4 := ⟨_, rfl⟩
      have hm : w1.cell? ⟨0, 4, none⟩ = some (.string m4) := by rw [hm4]; exact mk_cell (HT.out.new T.out) 4 (by omega)
      have hms : m4.size ≤ 3 := by rw [hm4]; exact mk_size 4
      have HM := hid hm4
      clear hm4
      obtain ⟨i0, hi5, hz0, hz1, hz2⟩ := info_parts info5i
      obtain ⟨hc0, hcf⟩ := O.out.cell
      go_upto_region 5 with fail
      go_region_law ((refine step_append_string _ (by rfl) _ _ _ _ (by rfl) 5 i0 Tryd.underlying50 Tryd.underlying9 hi5 hz0 hz1 hz2 _ _ _ (by rfl) O.out.own.drew m4 (by rfl) (by unfold maxLen; simp; omega) (by simp; omega) ?_; intro v' w4 hown hgrow hat; clear hc0 hcf; obtain ⟨hc0, hcf⟩ := O.out.midS ⟨hgrow.os, hgrow.tape, hgrow.output, hgrow.size, hgrow.block⟩; obtain ⟨a2, k2, hv2⟩ := own_shape hown; subst hv2))
      all_goals
        have O2 := hid (O.out.appS hown ⟨hgrow.os, hgrow.tape, hgrow.output, hgrow.size, hgrow.block⟩ hat)
        simp only [List.length_nil, Nat.zero_add, List.nil_append] at O2
        clear hown hgrow hat hc0 hcf O
        go_wp2
        go_meet
        case rel => exact ⟨rfl, _, by rw [if_pos trivial, ← HM.out]; exact O2.out⟩
  obtain ⟨rfl, v0, hob⟩ := hcut
  obtain ⟨m0, hm0⟩ : ∃ m0, m0 = (if mark then nums (mk 4) else []) := ⟨_, rfl⟩
  have hml : m0.length ≤ 3 := by
    rw [hm0]
    cases mark
    · simp
    · exact Nat.le_trans (Nat.le_of_eq (by rw [if_pos rfl]; unfold nums; rw [List.length_map, Array.length_toList]; rfl)) (mk_size 4)
  rw [← hm0] at hob
  have HM0 := hid hm0
  clear O hm0
  have OO := hid hob
  obtain ⟨av, kv, hv0⟩ := own_shape hob.own
  subst hv0
  clear hob
  obtain ⟨w2, hw2⟩ : ∃ x, x = wc := ⟨_, rfl⟩
  subst hw2
  have KP := hid (putter_all 4 35 (by decide) q w2)
  go_wp2_with fail
  refine KP.out.mono ?_
  rintro e w3 ⟨b5, rfl, pu, tc⟩
  have PU := hid pu
  have O3 := hid (OO.out.still tc)
  have HS := hid (show q < w2.heap.size from lt_of_block OO.out.blk)
  have HOW := hid (show ∀ g, (Value.slice av m0.length kv).ownBlock = some g → g < w2.heap.size from fun g hg => lt_of_block (own_block5 OO.out.own hg).choose_spec)
  have HS3 := hid tc.size
  have TC3 := hid tc
  have HNW := hid (show ∀ k, k < w.heap.size → (Value.slice av m0.length kv).ownBlock ≠ some k from fun k hk e => by
    have s1 := T.out.size
    have := HQ.out
    rcases OO.out.new k e with p | p <;> omega)
  clear pu tc KP
  have HG := hid (show ∀ i (h : i < l.length), ∃ b, a = some ⟨b, 0, none⟩ ∧ b < w3.heap.size ∧ ¬ (b = q ∨ (Value.slice av m0.length kv).ownBlock = some b) ∧ w3.cell? ⟨b, i, none⟩ = some (.int .i64 l[i]) from fun i hi => by
    rcases HL.out with rfl | ⟨b, rfl, hb, hc⟩
    · simp at hi
    · have s1 := T.out.size
      have s2 := OO.out.touch.size
      have hbq : b ≠ q := by have := HQ.out; omega
      refine ⟨b, rfl, by have := HS3.out; omega, fun e => ?_, ?_⟩
      · rcases e with e | e
        · exact hbq e
        · rcases OO.out.new b e with p | p
          · exact hbq p
          · omega
      · rw [TC3.out.cell (p := ⟨b, i, none⟩) (by show b < w2.heap.size; omega) id, OO.out.touch.cell (p := ⟨b, i, none⟩) (by show b < w1.heap.size; omega) hbq, T.out.cell (p := ⟨b, i, none⟩) hb id]
        exact hc i hi)
  have TW := hid (show Touch (fun _ => False) w w3 from (T.out.trans OO.out.touch (fun k hk e => by have := HQ.out; omega)).trans TC3.out (fun _ _ e => e))
  have H0 := hid O3.out.now
  clear HL OO T O3 TC3
  go_wp2_with fail
  go_loopg [28] l.length (fun gk v7 wq => ∃ (i : Nat) (v' : Value), i + gk = l.length ∧ v7 = .int .i64 (i : Nat) ∧ Ob (fun k => k = q ∨ (Value.slice av m0.length kv).ownBlock = some k) w3 wq q v' (m0 ++ (l.take i).flatMap (enc 4)) ∧ (l.take i).all (okc 4) = true)
  case atStart => exact ⟨0, _, by omega, rfl, by simpa using H0.out, rfl⟩
  case round =>
    obtain ⟨i, v', hi, rfl, hob, hall⟩ := hrel
    have HA := hid hall
    clear hall
    obtain ⟨o', ho'⟩ : ∃ o', o' = m0 ++ (l.take i).flatMap (enc 4) := ⟨_, rfl⟩
    have hol : o'.length ≤ 549755813888 := by have h1 := flat_len 4 (l.take i); have h2 := List.length_take_le' i l; rw [ho', List.length_append]; omega
    rw [← ho'] at hob
    have HO := hid ho'
    clear ho'
    have O := hid hob
    clear hob
    by_cases hlt2 : i < l.length
    · obtain ⟨gk, rfl⟩ : ∃ j, gk = j + 1 := ⟨gk - 1, by omega⟩
      have hltI : (i : Int) < (l.length : Int) := by omega
      obtain ⟨b, rfl, hb3, hbP, hc⟩ := HG.out i hlt2
      have hx := (O.out.touch.cell (p := ⟨b, i, none⟩) hb3 hbP).trans hc
      have HT2 := hid (flat_more 4 l i hlt2 m0)
      have HBAD := hid (encR_bad (c := 4) (mark := mark) i hlt2)
      have HAL := hid (all_take (p := okc 4) hlt2 HA.out)
      obtain ⟨x, hxe⟩ : ∃ x, l[i] = x := ⟨_, rfl⟩
      rw [hxe, ← HO.out] at HT2
      rw [hxe] at hx HBAD HAL
      have KS := hid (scalar_any x wr)
      cases hs : scB x
      · rw [hs] at KS
        replace HBAD := hid (HBAD.out (by unfold okc; rw [hs]; rfl))
        have TZ := hid (show Touch (fun _ => False) w wr from TW.out.trans O.out.touch (fun k hk e => by
          have h1 := HQ.out
          rcases e with e | e
          · omega
          · exact absurd e (HNW.out k hk)))
        clear hxe hc hbP HO hs HG
        go_wp2_with fail
        refine KS.out.mono ?_
        rintro e w5 ⟨rfl, rfl⟩
        clear KS
        go_wp2
        refine bodyPost_ret (results_tmp2 rfl _ _ _) rfl ?_
        exact ⟨by rw [HBAD.out]; rfl, TZ.out⟩
      by_cases h255 : 255 < x
      · rw [hs] at KS
        replace HBAD := hid (HBAD.out (by unfold okc; rw [hs, decide_eq_false (show ¬ (x ≤ 255) by omega)]; rfl))
        have TZ := hid (show Touch (fun _ => False) w wr from TW.out.trans O.out.touch (fun k hk e => by
          have h1 := HQ.out
          rcases e with e | e
          · omega
          · exact absurd e (HNW.out k hk)))
        clear hxe hc hbP HO hs HG
        go_wp2_with fail
        refine KS.out.mono ?_
        rintro e w5 ⟨rfl, rfl⟩
        clear KS
        go_wp2
        refine bodyPost_ret (results_tmp2 rfl _ _ _) rfl ?_
        exact ⟨by rw [HBAD.out]; rfl, TZ.out⟩
      have HOK := hid (show okc 4 x = true by unfold okc; rw [hs, decide_eq_true (show x ≤ 255 by omega)]; rfl)
      replace HAL := hid (HAL.out HOK.out)
      have KP := hid (PU.out wr v' o' x (fun k h1 h2 => O.out.touch.block k h2 (fun e => by
        rcases e with e | e
        · have := HS.out; omega
        · have := HOW.out k e; omega)) O.out.touch.size (fun g hg => by
        rcases O.out.new g hg with (p | p) | p
        · exact .inl (by have := HS.out; omega)
        · exact .inl (HOW.out g p)
        · exact .inr p) HS.out O.out.now (okc_in HOK.out) hol)
      rw [hs] at KS
      clear hxe hc hbP HO hs
      go_wp2_with fail
      refine KS.out.mono ?_
      rintro e w5 ⟨rfl, rfl⟩
      clear KS
      go_wp2_with fail
      refine KP.out.mono ?_
      rintro e w6 ⟨rfl, v6, hb6⟩
      have O6 := hid (O.out.back hb6)
      rw [← HT2.out] at O6
      clear hb6 KP O HT2
      go_wp2
      go_roundg gk
      case measure => omega
      case rel => exact ⟨i + 1, v6, by omega, by go_num, O6.out, HAL.out⟩
    · have hltI : ¬ ((i : Int) < (l.length : Int)) := by omega
      have hti : l.take i = l := List.take_of_length_le (by omega)
      have HE := hid (show encR 4 mark l = .tuple #[.string (strOfNums o'), .int .i64 0] by
        have h1 := HA.out
        rw [hti] at h1
        unfold encR
        rw [if_pos h1, HO.out, hti, HM0.out])
      clear hti
      obtain ⟨av', kv', hv'⟩ := own_shape O.out.own
      subst hv'
      obtain ⟨hc0, hcf⟩ := O.out.cell
      have hcv := conv_own O.out.own
      have TZ := hid (show Touch (fun _ => False) w wr from TW.out.trans O.out.touch (fun k hk e => by
        have h1 := HQ.out
        rcases e with e | e
        · omega
        · exact absurd e (HNW.out k hk)))
      clear HG
      go_wp2
      refine bodyPost_ret (results_tmp2 rfl _ _ _) rfl ?_
      exact ⟨by rw [HE.out]; rfl, TZ.out⟩
end Go.Proofs.YtpjnnbegimaaeabDoor

/- What the document's utf8 tells is what the program's takeUTF8 tells, plain facts; no condition beside those told. -/
namespace Go.Proofs.YtpjnnbegimaaeabDoor

def dkBad (m v : Nat) : Bool :=
  if m = 1 then false
  else if m = 2 then decide (64 * v + 63 < 2048) || (decide (55296 ≤ 64 * v) && decide (64 * v + 63 ≤ 57343))
  else decide (4096 * v + 4095 < 65536) || decide (1114111 < 4096 * v)
def dkGo (s : ByteArray) (a m : Nat) : Nat → Nat → Nat → Int × Nat
  | 0, _, v => ((v : Int), m + 1)
  | f + 1, k, v => if s.size ≤ a + k then (-1, k) else if byN s (a + k) < 128 ∨ 191 < byN s (a + k) then (-1, k) else if k = 1 ∧ dkBad m (64 * v + byN s (a + k) - 128) = true then (-1, 1) else dkGo s a m f (k + 1) (64 * v + byN s (a + k) - 128)
def dkLead (b : Nat) : Nat × Nat := if 194 ≤ b ∧ b ≤ 223 then (1, b - 192) else if 224 ≤ b ∧ b ≤ 239 then (2, b - 224) else if 240 ≤ b ∧ b ≤ 244 then (3, b - 240) else (0, 0)
def dk8 (s : ByteArray) (a : Nat) : Int × Nat := if byN s a < 128 then ((byN s a : Int), 1) else if (dkLead (byN s a)).1 = 0 then (-1, 1) else dkGo s a (dkLead (byN s a)).1 (dkLead (byN s a)).1 1 (dkLead (byN s a)).2

theorem by_extract (s : ByteArray) (a i : Nat) (h : a + i < s.size) : byN (s.extract a s.size) i = byN s (a + i) := by
  unfold byN
  have h1 : i < (s.extract a s.size).size := by rw [ByteArray.size_extract]; omega
  rw [dif_pos h1, dif_pos h, ByteArray.getElem_extract]
theorem size_rest (s : ByteArray) (a : Nat) : (s.extract a s.size).size = s.size - a := by rw [ByteArray.size_extract]; omega
theorem lead_low {b : Nat} (h : b < 128) : leadOf b = some ⟨0, 127, 0, 0, 0⟩ := by
  unfold leadOf leadsL
  rw [List.find?_cons_of_pos]
  unfold hasLead
  simp
  omega
theorem find_row (b : Nat) (pre post : List Lead) (l : Lead) (hp : ∀ x ∈ pre, hasLead b x = false) (h : hasLead b l = true) : (pre ++ l :: post).find? (hasLead b) = some l := by
  rw [List.find?_append, List.find?_eq_none.2 (fun x hx => by rw [hp x hx]; simp), List.find?_cons_of_pos h]
  rfl
theorem no_lead (b : Nat) (l : Lead) (h : b < l.first ∨ l.last < b) : hasLead b l = false := by
  unfold hasLead
  simp
  omega
theorem is_lead (b : Nat) (l : Lead) (h : l.first ≤ b ∧ b ≤ l.last) : hasLead b l = true := by
  unfold hasLead
  simp
  omega
end Go.Proofs.YtpjnnbegimaaeabDoor

/- What stands at a place where a scalar's bytes lie, and the other way round: plain; no condition beside those told. -/
namespace Go.Proofs.YtpjnnbegimaaeabDoor
open Go.RowKit
open Go.Lib

/-- Such bytes lie from a place on. -/
def Lays (s : ByteArray) (i : Nat) (l : List Int) : Prop := ∀ j (h : j < l.length), i + j < s.size ∧ (byN s (i + j) : Int) = l[j]
theorem Lays.nil (s : ByteArray) (i : Nat) : Lays s i [] := fun j h => by simp at h
theorem Lays.left {s : ByteArray} {i : Nat} {a b : List Int} (h : Lays s i (a ++ b)) : Lays s i a := fun j hj => by
  obtain ⟨h1, h2⟩ := h j (by simp; omega)
  exact ⟨h1, by rw [h2, List.getElem_append_left hj]⟩
theorem Lays.right {s : ByteArray} {i : Nat} {a b : List Int} (h : Lays s i (a ++ b)) : Lays s (i + a.length) b := fun j hj => by
  obtain ⟨h1, h2⟩ := h (a.length + j) (by simp; omega)
  refine ⟨by omega, ?_⟩
  rw [show i + a.length + j = i + (a.length + j) by omega, h2, List.getElem_append_right (by omega)]
  congr 1
  omega
def lead3 (b : Nat) : Lead := ⟨if b = 224 then 224 else if b ≤ 236 then 225 else if b = 237 then 237 else 238, if b = 224 then 224 else if b ≤ 236 then 236 else if b = 237 then 237 else 239, 2, if b = 224 then 160 else 128, if b = 237 then 159 else 191⟩
def lead4 (b : Nat) : Lead := ⟨if b = 240 then 240 else if b ≤ 243 then 241 else 244, if b = 240 then 240 else if b ≤ 243 then 243 else 244, 3, if b = 240 then 144 else 128, if b = 244 then 143 else 191⟩
def leadT (l : Lead) : List Nat := [l.first, l.last, l.more, l.low, l.high]
def leadF (b : Nat) : Option Lead := if b < 128 then some ⟨0, 127, 0, 0, 0⟩ else if b < 194 then none else if b < 224 then some ⟨194, 223, 1, 128, 191⟩ else if b < 240 then some (lead3 b) else if b < 245 then some (lead4 b) else none
theorem leadT_one {a b : Option Lead} (h : a.map leadT = b.map leadT) : a = b := by
  rcases a with _ | ⟨a0, a1, a2, a3, a4⟩ <;> rcases b with _ | ⟨b0, b1, b2, b3, b4⟩ <;> simp [leadT] at h ⊢
  exact h
theorem leadOf_t : ∀ b, b < 256 → (leadOf b).map leadT = (leadF b).map leadT := by decide +kernel
theorem leadOf_eq (b : Nat) (h : b < 256) : leadOf b = if b < 128 then some ⟨0, 127, 0, 0, 0⟩ else if b < 194 then none else if b < 224 then some ⟨194, 223, 1, 128, 191⟩ else if b < 240 then some (lead3 b) else if b < 245 then some (lead4 b) else none := leadT_one (leadOf_t b h)
theorem tk8_eq (s : ByteArray) : tk8 s = if byN s 0 < 128 then ((byN s 0 : Int), 1) else if byN s 0 < 194 then (-1, 1)
    else if byN s 0 < 224 then (if 1 = s.size ∨ byN s 1 < 128 ∨ 191 < byN s 1 then (-1, 1) else (((64 * (byN s 0 % 64) + byN s 1 % 64 : Nat) : Int), 2))
    else if byN s 0 < 240 then (if 1 = s.size ∨ byN s 1 < (if byN s 0 = 224 then 160 else 128) ∨ (if byN s 0 = 237 then 159 else 191) < byN s 1 then (-1, 1) else if 2 = s.size ∨ byN s 2 < 128 ∨ 191 < byN s 2 then (-1, 2) else (((64 * (64 * (byN s 0 % 32) + byN s 1 % 64) + byN s 2 % 64 : Nat) : Int), 3))
    else if byN s 0 < 245 then (if 1 = s.size ∨ byN s 1 < (if byN s 0 = 240 then 144 else 128) ∨ (if byN s 0 = 244 then 143 else 191) < byN s 1 then (-1, 1) else if 2 = s.size ∨ byN s 2 < 128 ∨ 191 < byN s 2 then (-1, 2) else if 3 = s.size ∨ byN s 3 < 128 ∨ 191 < byN s 3 then (-1, 3) else (((64 * (64 * (64 * (byN s 0 % 16) + byN s 1 % 64) + byN s 2 % 64) + byN s 3 % 64 : Nat) : Int), 4))
    else (-1, 1) := by
  have hb := by_lt s 0
  unfold tk8
  rw [leadOf_eq _ hb]
  generalize byN s 0 = b at *
  by_cases c1 : b < 128
  · rw [if_pos c1, if_pos c1]
    show (((b % 2 ^ 7 : Nat) : Int), 1) = _
    rw [show b % 2 ^ 7 = b by omega]
  rw [if_neg c1, if_neg c1]
  by_cases c2 : b < 194
  · rw [if_pos c2, if_pos c2]
  rw [if_neg c2, if_neg c2]
  by_cases c3 : b < 224
  · rw [if_pos c3, if_pos c3]
    rfl
  rw [if_neg c3, if_neg c3]
  by_cases c4 : b < 240
  · rw [if_pos c4, if_pos c4]
    rfl
  rw [if_neg c4, if_neg c4]
  by_cases c5 : b < 245
  · rw [if_pos c5, if_pos c5]
    rfl
  rw [if_neg c5, if_neg c5]

/-- Bytes behind a place. -/
theorem rest_by {s : ByteArray} {i j : Nat} (h : i + j < s.size) : byN (s.extract i s.size) j = byN s (i + j) := by_extract s i j h
theorem rest_size (s : ByteArray) (i : Nat) : (s.extract i s.size).size = s.size - i := size_rest s i
theorem tk8_fwd (s : ByteArray) (i : Nat) (x : Int) (hx : scB x = true) (h : Lays s i (en8 x)) : tk8 (s.extract i s.size) = (x, (en8 x).length) := by
  rw [scB_iff] at hx
  rw [tk8_eq, rest_size]
  unfold en8 at h ⊢
  by_cases h1 : x < 128
  · rw [if_pos h1] at h ⊢
    obtain ⟨p0, q0⟩ := h 0 (by simp)
    rw [rest_by p0]
    simp at q0
    simp only [Nat.add_zero]
    rw [if_pos (by omega)]
    simp [q0]
  · rw [if_neg h1] at h ⊢
    by_cases h2 : x < 2048
    · rw [if_pos h2] at h ⊢
      obtain ⟨p0, q0⟩ := h 0 (by simp)
      obtain ⟨p1, q1⟩ := h 1 (by simp)
      rw [rest_by p0, rest_by p1]
      simp only [List.getElem_cons_zero, List.getElem_cons_succ] at q0 q1
      rw [if_neg (by omega), if_neg (by omega), if_pos (by omega), if_neg (by omega)]
      refine Prod.ext ?_ rfl
      dsimp only
      omega
    · rw [if_neg h2] at h ⊢
      by_cases h3 : x < 65536
      · rw [if_pos h3] at h ⊢
        obtain ⟨p0, q0⟩ := h 0 (by simp)
        obtain ⟨p1, q1⟩ := h 1 (by simp)
        obtain ⟨p2, q2⟩ := h 2 (by simp)
        rw [rest_by p0, rest_by p1, rest_by p2]
        simp only [List.getElem_cons_zero, List.getElem_cons_succ] at q0 q1 q2
        rw [if_neg (by omega), if_neg (by omega), if_neg (by omega), if_pos (by omega), if_neg (by split <;> split <;> omega), if_neg (by omega)]
        refine Prod.ext ?_ rfl
        dsimp only
        omega
      · rw [if_neg h3] at h ⊢
        obtain ⟨p0, q0⟩ := h 0 (by simp)
        obtain ⟨p1, q1⟩ := h 1 (by simp)
        obtain ⟨p2, q2⟩ := h 2 (by simp)
        obtain ⟨p3, q3⟩ := h 3 (by simp)
        rw [rest_by p0, rest_by p1, rest_by p2, rest_by p3]
        simp only [List.getElem_cons_zero, List.getElem_cons_succ] at q0 q1 q2 q3
        rw [if_neg (by omega), if_neg (by omega), if_neg (by omega), if_neg (by omega), if_pos (by omega), if_neg (by split <;> split <;> omega), if_neg (by omega), if_neg (by omega)]
        refine Prod.ext ?_ rfl
        dsimp only
        omega
theorem tk8_bwd (s : ByteArray) (i : Nat) (hi : i < s.size) (hx : (tk8 (s.extract i s.size)).1 ≠ -1) : scB (tk8 (s.extract i s.size)).1 = true ∧ Lays s i (en8 (tk8 (s.extract i s.size)).1) ∧ (tk8 (s.extract i s.size)).2 = (en8 (tk8 (s.extract i s.size)).1).length := by
  obtain ⟨r, hr⟩ : ∃ r, r = s.extract i s.size := ⟨_, rfl⟩
  have hsz : r.size = s.size - i := by rw [hr]; exact rest_size s i
  have hby : ∀ j, i + j < s.size → byN r j = byN s (i + j) := fun j h => by rw [hr]; exact rest_by h
  rw [← hr] at hx ⊢
  clear hr
  have b0 := by_lt r 0
  have e0 := hby 0 (by omega)
  rw [tk8_eq] at hx ⊢
  by_cases c1 : byN r 0 < 128
  · rw [if_pos c1]
    have hen : en8 (byN r 0 : Int) = [(byN r 0 : Int)] := by
      unfold en8
      rw [if_pos (by omega)]
    refine ⟨(scB_iff _).2 (by dsimp only; omega), ?_, ?_⟩
    · dsimp only
      rw [hen]
      intro j hj
      obtain rfl : j = 0 := by simp at hj; exact hj
      exact ⟨by omega, by rw [← e0]; rfl⟩
    · dsimp only
      rw [hen]
      rfl
  rw [if_neg c1] at hx ⊢
  by_cases c2 : byN r 0 < 194
  · rw [if_pos c2] at hx
    exact absurd rfl hx
  rw [if_neg c2] at hx ⊢
  by_cases c3 : byN r 0 < 224
  · rw [if_pos c3] at hx ⊢
    by_cases d1 : 1 = r.size ∨ byN r 1 < 128 ∨ 191 < byN r 1
    · rw [if_pos d1] at hx
      exact absurd rfl hx
    rw [if_neg d1]
    have e1 := hby 1 (by omega)
    have hen : en8 ((64 * (byN r 0 % 64) + byN r 1 % 64 : Nat) : Int) = [(byN r 0 : Int), (byN r 1 : Int)] := by
      unfold en8
      rw [if_neg (by omega), if_pos (by omega), show 192 + ((64 * (byN r 0 % 64) + byN r 1 % 64 : Nat) : Int) / 64 = (byN r 0 : Int) by omega, show 128 + ((64 * (byN r 0 % 64) + byN r 1 % 64 : Nat) : Int) % 64 = (byN r 1 : Int) by omega]
    refine ⟨(scB_iff _).2 (by dsimp only; omega), ?_, ?_⟩
    · dsimp only
      rw [hen]
      intro j hj
      rcases (show j = 0 ∨ j = 1 by simp at hj; omega) with rfl | rfl
      · exact ⟨by omega, by rw [← e0]; rfl⟩
      · exact ⟨by omega, by rw [← e1]; rfl⟩
    · dsimp only
      rw [hen]
      rfl
  rw [if_neg c3] at hx ⊢
  by_cases c4 : byN r 0 < 240
  · rw [if_pos c4] at hx ⊢
    by_cases d1 : 1 = r.size ∨ byN r 1 < (if byN r 0 = 224 then 160 else 128) ∨ (if byN r 0 = 237 then 159 else 191) < byN r 1
    · rw [if_pos d1] at hx
      exact absurd rfl hx
    rw [if_neg d1] at hx ⊢
    by_cases d2 : 2 = r.size ∨ byN r 2 < 128 ∨ 191 < byN r 2
    · rw [if_pos d2] at hx
      exact absurd rfl hx
    rw [if_neg d2]
    have e1 := hby 1 (by omega)
    have e2 := hby 2 (by omega)
    obtain ⟨x, hxx⟩ : ∃ x : Int, x = ((64 * (64 * (byN r 0 % 32) + byN r 1 % 64) + byN r 2 % 64 : Nat) : Int) := ⟨_, rfl⟩
    rw [← hxx]
    have hlo : 2048 ≤ x ∧ x < 65536 ∧ (x < 55296 ∨ 57344 ≤ x) := by
      split at d1 <;> split at d1 <;> omega
    have hlow : 128 ≤ byN r 1 ∧ byN r 1 ≤ 191 := by
      split at d1 <;> split at d1 <;> omega
    have hen : en8 x = [(byN r 0 : Int), (byN r 1 : Int), (byN r 2 : Int)] := by
      unfold en8
      rw [if_neg (by omega), if_neg (by omega), if_pos (by omega), show 224 + x / 4096 = (byN r 0 : Int) by omega, show 128 + x / 64 % 64 = (byN r 1 : Int) by omega, show 128 + x % 64 = (byN r 2 : Int) by omega]
    refine ⟨(scB_iff _).2 (by dsimp only; omega), ?_, ?_⟩
    · dsimp only
      rw [hen]
      intro j hj
      rcases (show j = 0 ∨ j = 1 ∨ j = 2 by simp at hj; omega) with rfl | rfl | rfl
      · exact ⟨by omega, by rw [← e0]; rfl⟩
      · exact ⟨by omega, by rw [← e1]; rfl⟩
      · exact ⟨by omega, by rw [← e2]; rfl⟩
    · dsimp only
      rw [hen]
      rfl
  rw [if_neg c4] at hx ⊢
  by_cases c5 : byN r 0 < 245
  · rw [if_pos c5] at hx ⊢
    by_cases d1 : 1 = r.size ∨ byN r 1 < (if byN r 0 = 240 then 144 else 128) ∨ (if byN r 0 = 244 then 143 else 191) < byN r 1
    · rw [if_pos d1] at hx
      exact absurd rfl hx
    rw [if_neg d1] at hx ⊢
    by_cases d2 : 2 = r.size ∨ byN r 2 < 128 ∨ 191 < byN r 2
    · rw [if_pos d2] at hx
      exact absurd rfl hx
    rw [if_neg d2] at hx ⊢
    by_cases d3 : 3 = r.size ∨ byN r 3 < 128 ∨ 191 < byN r 3
    · rw [if_pos d3] at hx
      exact absurd rfl hx
    rw [if_neg d3]
    have e1 := hby 1 (by omega)
    have e2 := hby 2 (by omega)
    have e3 := hby 3 (by omega)
    obtain ⟨x, hxx⟩ : ∃ x : Int, x = ((64 * (64 * (64 * (byN r 0 % 16) + byN r 1 % 64) + byN r 2 % 64) + byN r 3 % 64 : Nat) : Int) := ⟨_, rfl⟩
    rw [← hxx]
    have hlo : 65536 ≤ x ∧ x ≤ 1114111 := by
      split at d1 <;> split at d1 <;> omega
    have hlow : 128 ≤ byN r 1 ∧ byN r 1 ≤ 191 := by
      split at d1 <;> split at d1 <;> omega
    have hen : en8 x = [(byN r 0 : Int), (byN r 1 : Int), (byN r 2 : Int), (byN r 3 : Int)] := by
      unfold en8
      rw [if_neg (by omega), if_neg (by omega), if_neg (by omega), show 240 + x / 262144 = (byN r 0 : Int) by omega, show 128 + x / 4096 % 64 = (byN r 1 : Int) by omega, show 128 + x / 64 % 64 = (byN r 2 : Int) by omega, show 128 + x % 64 = (byN r 3 : Int) by omega]
    refine ⟨(scB_iff _).2 (by dsimp only; omega), ?_, ?_⟩
    · dsimp only
      rw [hen]
      intro j hj
      rcases (show j = 0 ∨ j = 1 ∨ j = 2 ∨ j = 3 by simp at hj; omega) with rfl | rfl | rfl | rfl
      · exact ⟨by omega, by rw [← e0]; rfl⟩
      · exact ⟨by omega, by rw [← e1]; rfl⟩
      · exact ⟨by omega, by rw [← e2]; rfl⟩
      · exact ⟨by omega, by rw [← e3]; rfl⟩
    · dsimp only
      rw [hen]
      rfl
  rw [if_neg c5] at hx
  exact absurd rfl hx
end Go.Proofs.YtpjnnbegimaaeabDoor
