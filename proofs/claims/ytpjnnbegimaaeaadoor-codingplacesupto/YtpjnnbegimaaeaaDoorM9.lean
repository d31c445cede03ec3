/- Texts of this proof, one behind the other: what each says stands ahead of it. -/
import Derived.Test.YtpjnnbegimaaeaaDoorM7
import Derived.Test.YtpjnnbegimaaeaaDoorM2
/- Encode in one coding (its number: 4), of any numbers; conditions: those told. -/
namespace Go.Proofs.YtpjnnbegimaaeaaDoor
open Go.RowKit
open Go.Lib
set_option maxRecDepth 100000 in
set_option maxHeartbeats 8000000 in
theorem encode_4 (a : Option Addr) (k : Nat) (l : List Int) (mark : Bool) (w : World) (ht : Tabs w) (hl : l = [] ∨ Ig w a l) (hb : l.length ≤ 1048576) :
    Calls Tryd.prog 11 #[.slice a l.length k, .int .i64 4, .bool mark] w fun e w' => e = .returned (encR 4 mark l) ∧ Touch (fun _ => False) w w' := by
  have O := hid (Ob.start w)
  have T := hid ((Touch.refl (fun _ => False) w).alloc (.cells #[.slice none 0 0] 52))
  have HT := hid ht
  have HL := hid hl
  clear ht hl
  go_enter Tryd.func11, Tryd.ntmps11
  go_upto_region 4 with fail
  generalize (w.alloc (.cells #[.slice none 0 0] 52)) = w1 at *
  obtain ⟨q, hq⟩ : ∃ q, q = w.heap.size := ⟨_, rfl⟩
  rw [← hq] at O ⊢
  have HQ := hid hq
  clear hq
  go_upto_if 18 with fail
  go_cut [18] (fun v wd => v = .bool mark ∧ ∃ v, Ob (fun k => k = q) w1 wd q v (if mark then nums (mk 4) else []))
  case first =>
    cases mark
    · go_wp2
      go_meet
      case rel => exact ⟨rfl, _, O.out⟩
    · obtain ⟨m4, hm4⟩ : ∃ m, m = mk 4 := ⟨_, rfl⟩
      have hm : w1.cell? ⟨0, 4, none⟩ = some (.string m4) := by rw [hm4]; exact mk_cell (HT.out.new T.out) 4 (by omega)
      have hms : m4.size ≤ 3 := by rw [hm4]; exact mk_size 4
      have HM := hid hm4
      clear hm4
      obtain ⟨i0, hi5, hz0, hz1, hz2⟩ := info_parts info5i
      obtain ⟨hc0, hcf⟩ := O.out.cell
      go_upto_region 5 with fail
      go_region_law ((refine step_append_string _ (by rfl) _ _ _ _ (by rfl) 5 i0 Tryd.underlying52 Tryd.underlying9 hi5 hz0 hz1 hz2 _ _ _ (by rfl) O.out.own.drew m4 (by rfl) (by unfold maxLen; simp; omega) (by simp; omega) ?_; intro v' w4 hown hgrow hat; clear hc0 hcf; obtain ⟨hc0, hcf⟩ := O.out.midS ⟨hgrow.os, hgrow.tape, hgrow.output, hgrow.size, hgrow.block⟩; obtain ⟨a2, k2, hv2⟩ := own_shape hown; subst hv2))
      all_goals
        have O2 := hid (O.out.appS hown ⟨hgrow.os, hgrow.tape, hgrow.output, hgrow.size, hgrow.block⟩ hat)
        simp only [List.length_nil, Nat.zero_add, List.nil_append] at O2
        clear hown hgrow hat hc0 hcf O
        go_wp2
        go_meet
        case rel => exact ⟨rfl, _, by rw [if_pos trivial, ← HM.out]; exact O2.out⟩
  obtain ⟨rfl, v0, hob⟩ := hcut
  obtain ⟨m0, hm0⟩ : ∃ m0, m0 = (if mark then nums (mk 4) else []) := ⟨_, rfl⟩
  have hml : m0.length ≤ 3 := by
    rw [hm0]
    cases mark
    · simp
    · exact Nat.le_trans (Nat.le_of_eq (by rw [if_pos rfl]; unfold nums; rw [List.length_map, Array.length_toList]; rfl)) (mk_size 4)
  rw [← hm0] at hob
  have HM0 := hid hm0
  clear O hm0
  have OO := hid hob
  obtain ⟨av, kv, hv0⟩ := own_shape hob.own
  subst hv0
  clear hob
  obtain ⟨w2, hw2⟩ : ∃ x, x = wc := ⟨_, rfl⟩
  subst hw2
  have KP := hid (putter_all 4 36 (by decide) q w2)
  go_wp2_with fail
  refine KP.out.mono ?_
  rintro e w3 ⟨b5, rfl, pu, tc⟩
  have PU := hid pu
  have O3 := hid (OO.out.still tc)
  have HS := hid (show q < w2.heap.size from lt_of_block OO.out.blk)
  have HOW := hid (show ∀ g, (Value.slice av m0.length kv).ownBlock = some g → g < w2.heap.size from fun g hg => lt_of_block (own_block5 OO.out.own hg).choose_spec)
  have HS3 := hid tc.size
  have TC3 := hid tc
  have HNW := hid (show ∀ k, k < w.heap.size → (Value.slice av m0.length kv).ownBlock ≠ some k from fun k hk e => by
    have s1 := T.out.size
    have := HQ.out
    rcases OO.out.new k e with p | p <;> omega)
  clear pu tc KP
  have HG := hid (show ∀ i (h : i < l.length), ∃ b, a = some ⟨b, 0, none⟩ ∧ b < w3.heap.size ∧ ¬ (b = q ∨ (Value.slice av m0.length kv).ownBlock = some b) ∧ w3.cell? ⟨b, i, none⟩ = some (.int .i64 l[i]) from fun i hi => by
    rcases HL.out with rfl | ⟨b, rfl, hb, hc⟩
    · simp at hi
    · have s1 := T.out.size
      have s2 := OO.out.touch.size
      have hbq : b ≠ q := by have := HQ.out; omega
      refine ⟨b, rfl, by have := HS3.out; omega, fun e => ?_, ?_⟩
      · rcases e with e | e
        · exact hbq e
        · rcases OO.out.new b e with p | p
          · exact hbq p
          · omega
      · rw [TC3.out.cell (p := ⟨b, i, none⟩) (by show b < w2.heap.size; omega) id, OO.out.touch.cell (p := ⟨b, i, none⟩) (by show b < w1.heap.size; omega) hbq, T.out.cell (p := ⟨b, i, none⟩) hb id]
        exact hc i hi)
  have TW := hid (show Touch (fun _ => False) w w3 from (T.out.trans OO.out.touch (fun k hk e => by have := HQ.out; omega)).trans TC3.out (fun _ _ e => e))
  have H0 := hid O3.out.now
  clear HL OO T O3 TC3
  go_wp2_with fail
  go_loopg [28] l.length (fun gk v7 wq => ∃ (i : Nat) (v' : Value), i + gk = l.length ∧ v7 = .int .i64 (i : Nat) ∧ Ob (fun k => k = q ∨ (Value.slice av m0.length kv).ownBlock = some k) w3 wq q v' (m0 ++ (l.take i).flatMap (enc 4)) ∧ (l.take i).all (okc 4) = true)
  case atStart => exact ⟨0, _, by omega, rfl, by simpa using H0.out, rfl⟩
  case round =>
    obtain ⟨i, v', hi, rfl, hob, hall⟩ := hrel
    have HA := hid hall
    clear hall
    obtain ⟨o', ho'⟩ : ∃ o', o' = m0 ++ (l.take i).flatMap (enc 4) := ⟨_, rfl⟩
    have hol : o'.length ≤ 549755813888 := by have h1 := flat_len 4 (l.take i); have h2 := List.length_take_le' i l; rw [ho', List.length_append]; omega
    rw [← ho'] at hob
    have HO := hid ho'
    clear ho'
    have O := hid hob
    clear hob
    by_cases hlt2 : i < l.length
    · obtain ⟨gk, rfl⟩ : ∃ j, gk = j + 1 := ⟨gk - 1, by omega⟩
      have hltI : (i : Int) < (l.length : Int) := by omega
      obtain ⟨b, rfl, hb3, hbP, hc⟩ := HG.out i hlt2
      have hx := (O.out.touch.cell (p := ⟨b, i, none⟩) hb3 hbP).trans hc
      have HT2 := hid (flat_more 4 l i hlt2 m0)
      have HBAD := hid (encR_bad (c := 4) (mark := mark) i hlt2)
      have HAL := hid (all_take (p := okc 4) hlt2 HA.out)
      obtain ⟨x, hxe⟩ : ∃ x, l[i] = x := ⟨_, rfl⟩
      rw [hxe, ← HO.out] at HT2
      rw [hxe] at hx HBAD HAL
      have KS := hid (scalar_any x wr)
      cases hs : scB x
      · rw [hs] at KS
        replace HBAD := hid (HBAD.out (by unfold okc; rw [hs]; rfl))
        have TZ := hid (show Touch (fun _ => False) w wr from TW.out.trans O.out.touch (fun k hk e => by
          have h1 := HQ.out
          rcases e with e | e
          · omega
          · exact absurd e (HNW.out k hk)))
        clear hxe hc hbP HO hs HG
        go_wp2_with fail
        refine KS.out.mono ?_
        rintro e w5 ⟨rfl, rfl⟩
        clear KS
        go_wp2
        refine bodyPost_ret (results_tmp2 rfl _ _ _) rfl ?_
        exact ⟨by rw [HBAD.out]; rfl, TZ.out⟩
      by_cases h255 : 255 < x
      · rw [hs] at KS
        replace HBAD := hid (HBAD.out (by unfold okc; rw [hs, decide_eq_false (show ¬ (x ≤ 255) by omega)]; rfl))
        have TZ := hid (show Touch (fun _ => False) w wr from TW.out.trans O.out.touch (fun k hk e => by
          have h1 := HQ.out
          rcases e with e | e
          · omega
          · exact absurd e (HNW.out k hk)))
        clear hxe hc hbP HO hs HG
        go_wp2_with fail
        refine KS.out.mono ?_
        rintro e w5 ⟨rfl, rfl⟩
        clear KS
        go_wp2
        refine bodyPost_ret (results_tmp2 rfl _ _ _) rfl ?_
        exact ⟨by rw [HBAD.out]; rfl, TZ.out⟩
      have HOK := hid (show okc 4 x = true by unfold okc; rw [hs, decide_eq_true (show x ≤ 255 by omega)]; rfl)
      replace HAL := hid (HAL.out HOK.out)
      have KP := hid (PU.out wr v' o' x (fun k h1 h2 => O.out.touch.block k h2 (fun e => by
        rcases e with e | e
        · have := HS.out; omega
        · have := HOW.out k e; omega)) O.out.touch.size (fun g hg => by
        rcases O.out.new g hg with (p | p) | p
        · exact .inl (by have := HS.out; omega)
        · exact .inl (HOW.out g p)
        · exact .inr p) HS.out O.out.now (okc_in HOK.out) hol)
      rw [hs] at KS
      clear hxe hc hbP HO hs
      go_wp2_with fail
      refine KS.out.mono ?_
      rintro e w5 ⟨rfl, rfl⟩
      clear KS
      go_wp2_with fail
      refine KP.out.mono ?_
      rintro e w6 ⟨rfl, v6, hb6⟩
      have O6 := hid (O.out.back hb6)
      rw [← HT2.out] at O6
      clear hb6 KP O HT2
      go_wp2
      go_roundg gk
      case measure => omega
      case rel => exact ⟨i + 1, v6, by omega, by go_num, O6.out, HAL.out⟩
    · have hltI : ¬ ((i : Int) < (l.length : Int)) := by omega
      have hti : l.take i = l := List.take_of_length_le (by omega)
      have HE := hid (show encR 4 mark l = .tuple #[.string (strOfNums o'), .int .i64 0] by
        have h1 := HA.out
        rw [hti] at h1
        unfold encR
        rw [if_pos h1, HO.out, hti, HM0.out])
      clear hti
      obtain ⟨av', kv', hv'⟩ := own_shape O.out.own
      subst hv'
      obtain ⟨hc0, hcf⟩ := O.out.cell
      have hcv := conv_own O.out.own
      have TZ := hid (show Touch (fun _ => False) w wr from TW.out.trans O.out.touch (fun k hk e => by
        have h1 := HQ.out
        rcases e with e | e
        · omega
        · exact absurd e (HNW.out k hk)))
      clear HG
      go_wp2
      refine bodyPost_ret (results_tmp2 rfl _ _ _) rfl ?_
      exact ⟨by rw [HE.out]; rfl, TZ.out⟩
end Go.Proofs.YtpjnnbegimaaeaaDoor

/- What the document's utf8 tells is what the program's takeUTF8 tells, plain facts; no condition beside those told. -/
namespace Go.Proofs.YtpjnnbegimaaeaaDoor

def dkBad (m v : Nat) : Bool :=
  if m = 1 then false
  else if m = 2 then decide (64 * v + 63 < 2048) || (decide (55296 ≤ 64 * v) && decide (64 * v + 63 ≤ 57343))
  else decide (4096 * v + 4095 < 65536) || decide (1114111 < 4096 * v)
def dkGo (s : ByteArray) (a m : Nat) : Nat → Nat → Nat → Int × Nat
  | 0, _, v => ((v : Int), m + 1)
  | f + 1, k, v => if s.size ≤ a + k then (-1, k) else if byN s (a + k) < 128 ∨ 191 < byN s (a + k) then (-1, k) else if k = 1 ∧ dkBad m (64 * v + byN s (a + k) - 128) = true then (-1, 1) else dkGo s a m f (k + 1) (64 * v + byN s (a + k) - 128)
def dkLead (b : Nat) : Nat × Nat := if 194 ≤ b ∧ b ≤ 223 then (1, b - 192) else if 224 ≤ b ∧ b ≤ 239 then (2, b - 224) else if 240 ≤ b ∧ b ≤ 244 then (3, b - 240) else (0, 0)
def dk8 (s : ByteArray) (a : Nat) : Int × Nat := if byN s a < 128 then ((byN s a : Int), 1) else if (dkLead (byN s a)).1 = 0 then (-1, 1) else dkGo s a (dkLead (byN s a)).1 (dkLead (byN s a)).1 1 (dkLead (byN s a)).2

theorem by_extract (s : ByteArray) (a i : Nat) (h : a + i < s.size) : byN (s.extract a s.size) i = byN s (a + i) := by
  unfold byN
  have h1 : i < (s.extract a s.size).size := by rw [ByteArray.size_extract]; omega
  rw [dif_pos h1, dif_pos h, ByteArray.getElem_extract]
theorem size_rest (s : ByteArray) (a : Nat) : (s.extract a s.size).size = s.size - a := by rw [ByteArray.size_extract]; omega
/-- Behind the second byte both go alike. -/
theorem go_alike (s : ByteArray) (a m : Nat) (ha : a < s.size) : ∀ (f k v : Nat), 2 ≤ k → a + k ≤ s.size → dkGo s a m f k v = tkGo (s.extract a s.size) m f k v 128 191
  | 0, k, v, _, _ => by
    unfold dkGo tkGo
    rw [Nat.add_comm]
  | f + 1, k, v, hk, hak => by
    unfold dkGo tkGo
    rw [size_rest]
    by_cases h : s.size ≤ a + k
    · rw [if_pos h, if_pos (.inl (by omega))]
    · rw [if_neg h, by_extract s a k (by omega)]
      by_cases h2 : byN s (a + k) < 128 ∨ 191 < byN s (a + k)
      · rw [if_pos h2, if_pos (.inr h2)]
      · rw [if_neg h2, if_neg (by omega), if_neg (by omega)]
        have e : 64 * v + byN s (a + k) - 128 = 64 * v + byN s (a + k) % 64 := by
          have := by_lt s (a + k)
          omega
        rw [e]
        exact go_alike s a m ha f (k + 1) _ (by omega) (by omega)
/-- The second byte, by both. -/
theorem second_alike (s : ByteArray) (a m v lo hi : Nat) (hm : 1 ≤ m) (ha : a < s.size) (h : ∀ y, 128 ≤ y → y ≤ 191 → (dkBad m (64 * v + y - 128) = true ↔ (y < lo ∨ hi < y))) (hlo : 128 ≤ lo) (hhi : hi ≤ 191) :
    dkGo s a m m 1 v = tkGo (s.extract a s.size) m m 1 v lo hi := by
  obtain ⟨f, rfl⟩ : ∃ f, m = f + 1 := ⟨m - 1, by omega⟩
  unfold dkGo tkGo
  rw [size_rest]
  by_cases h1 : s.size ≤ a + 1
  · rw [if_pos h1, if_pos (.inl (by omega))]
  · rw [if_neg h1, by_extract s a 1 (by omega)]
    have hy := by_lt s (a + 1)
    by_cases h2 : byN s (a + 1) < 128 ∨ 191 < byN s (a + 1)
    · rw [if_pos h2, if_pos (by omega)]
    · rw [if_neg h2]
      have hb := h (byN s (a + 1)) (by omega) (by omega)
      by_cases h3 : byN s (a + 1) < lo ∨ hi < byN s (a + 1)
      · rw [if_pos ⟨rfl, hb.2 h3⟩, if_pos (.inr h3)]
      · rw [if_neg (fun q => h3 (hb.1 q.2)), if_neg (by omega)]
        have e : 64 * v + byN s (a + 1) - 128 = 64 * v + byN s (a + 1) % 64 := by omega
        rw [e]
        exact go_alike s a (f + 1) ha f 2 _ (Nat.le_refl _) (by omega)
theorem lead_low {b : Nat} (h : b < 128) : leadOf b = some ⟨0, 127, 0, 0, 0⟩ := by
  unfold leadOf leadsL
  rw [List.find?_cons_of_pos]
  unfold hasLead
  simp
  omega
theorem find_row (b : Nat) (pre post : List Lead) (l : Lead) (hp : ∀ x ∈ pre, hasLead b x = false) (h : hasLead b l = true) : (pre ++ l :: post).find? (hasLead b) = some l := by
  rw [List.find?_append, List.find?_eq_none.2 (fun x hx => by rw [hp x hx]; simp), List.find?_cons_of_pos h]
  rfl
theorem no_lead (b : Nat) (l : Lead) (h : b < l.first ∨ l.last < b) : hasLead b l = false := by
  unfold hasLead
  simp
  omega
theorem is_lead (b : Nat) (l : Lead) (h : l.first ≤ b ∧ b ≤ l.last) : hasLead b l = true := by
  unfold hasLead
  simp
  omega
theorem dk_tk (s : ByteArray) (a : Nat) (ha : a < s.size) : dk8 s a = tk8 (s.extract a s.size) := by
  have h0 : byN (s.extract a s.size) 0 = byN s a := by rw [by_extract s a 0 (by omega), Nat.add_zero]
  unfold dk8 tk8
  rw [h0]
  have hb := by_lt s a
  generalize byN s a = b at *
  by_cases h1 : b < 128
  · rw [if_pos h1, lead_low h1]
    show _ = tkGo _ 0 0 1 (b % 2 ^ 7) 0 0
    unfold tkGo
    rw [Nat.mod_eq_of_lt (by omega)]
  rw [if_neg h1]
  have row : ∀ (pre post : List Lead) (l : Lead), leadsL = pre ++ l :: post → (∀ x ∈ pre, b < x.first ∨ x.last < b) → l.first ≤ b ∧ b ≤ l.last → leadOf b = some l := fun pre post l e hp hl => by
    unfold leadOf
    rw [e]
    exact find_row b pre post l (fun x hx => no_lead b x (hp x hx)) (is_lead b l hl)
  have fin : ∀ (pre post : List Lead) (l : Lead), leadsL = pre ++ l :: post → (∀ x ∈ pre, b < x.first ∨ x.last < b) → l.first ≤ b ∧ b ≤ l.last → 1 ≤ l.more → 128 ≤ l.low → l.high ≤ 191 → (dkLead b).1 = l.more → (dkLead b).2 = b % 2 ^ (7 - l.more) → (∀ y, 128 ≤ y → y ≤ 191 → (dkBad l.more (64 * (dkLead b).2 + y - 128) = true ↔ (y < l.low ∨ l.high < y))) →
      (if (dkLead b).1 = 0 then ((-1 : Int), 1) else dkGo s a (dkLead b).1 (dkLead b).1 1 (dkLead b).2) = (match leadOf b with | none => (-1, 1) | some l => tkGo (s.extract a s.size) l.more l.more 1 (b % 2 ^ (7 - l.more)) l.low l.high) := fun pre post l e hp hl h1 h2 h3 h4 h5 h6 => by
    rw [row pre post l e hp hl, h4, if_neg (by omega)]
    show _ = tkGo (s.extract a s.size) l.more l.more 1 (b % 2 ^ (7 - l.more)) l.low l.high
    rw [← h5]
    exact second_alike s a l.more (dkLead b).2 l.low l.high h1 ha h6 h2 h3
  by_cases c1 : 194 ≤ b ∧ b ≤ 223
  · have hd : dkLead b = (1, b - 192) := by unfold dkLead; rw [if_pos (by omega)]
    refine fin [⟨0, 127, 0, 0, 0⟩] [⟨224, 224, 2, 160, 191⟩, ⟨225, 236, 2, 128, 191⟩, ⟨237, 237, 2, 128, 159⟩, ⟨238, 239, 2, 128, 191⟩, ⟨240, 240, 3, 144, 191⟩, ⟨241, 243, 3, 128, 191⟩, ⟨244, 244, 3, 128, 143⟩] ⟨194, 223, 1, 128, 191⟩ rfl (by simp; omega) c1 (by decide) (by decide) (by decide) (by rw [hd]) (by rw [hd]; show b - 192 = b % 64; omega) (fun y hy1 hy2 => ?_)
    rw [hd]
    show dkBad 1 (64 * (b - 192) + y - 128) = true ↔ (y < 128 ∨ 191 < y)
    simp [dkBad]
    omega
  by_cases c2 : 224 ≤ b ∧ b ≤ 224
  · have hd : dkLead b = (2, b - 224) := by unfold dkLead; rw [if_neg (by omega), if_pos (by omega)]
    refine fin [⟨0, 127, 0, 0, 0⟩, ⟨194, 223, 1, 128, 191⟩] [⟨225, 236, 2, 128, 191⟩, ⟨237, 237, 2, 128, 159⟩, ⟨238, 239, 2, 128, 191⟩, ⟨240, 240, 3, 144, 191⟩, ⟨241, 243, 3, 128, 191⟩, ⟨244, 244, 3, 128, 143⟩] ⟨224, 224, 2, 160, 191⟩ rfl (by simp; omega) c2 (by decide) (by decide) (by decide) (by rw [hd]) (by rw [hd]; show b - 224 = b % 32; omega) (fun y hy1 hy2 => ?_)
    rw [hd]
    show dkBad 2 (64 * (b - 224) + y - 128) = true ↔ (y < 160 ∨ 191 < y)
    simp [dkBad]
    omega
  by_cases c3 : 225 ≤ b ∧ b ≤ 236
  · have hd : dkLead b = (2, b - 224) := by unfold dkLead; rw [if_neg (by omega), if_pos (by omega)]
    refine fin [⟨0, 127, 0, 0, 0⟩, ⟨194, 223, 1, 128, 191⟩, ⟨224, 224, 2, 160, 191⟩] [⟨237, 237, 2, 128, 159⟩, ⟨238, 239, 2, 128, 191⟩, ⟨240, 240, 3, 144, 191⟩, ⟨241, 243, 3, 128, 191⟩, ⟨244, 244, 3, 128, 143⟩] ⟨225, 236, 2, 128, 191⟩ rfl (by simp; omega) c3 (by decide) (by decide) (by decide) (by rw [hd]) (by rw [hd]; show b - 224 = b % 32; omega) (fun y hy1 hy2 => ?_)
    rw [hd]
    show dkBad 2 (64 * (b - 224) + y - 128) = true ↔ (y < 128 ∨ 191 < y)
    simp [dkBad]
    omega
  by_cases c4 : 237 ≤ b ∧ b ≤ 237
  · have hd : dkLead b = (2, b - 224) := by unfold dkLead; rw [if_neg (by omega), if_pos (by omega)]
    refine fin [⟨0, 127, 0, 0, 0⟩, ⟨194, 223, 1, 128, 191⟩, ⟨224, 224, 2, 160, 191⟩, ⟨225, 236, 2, 128, 191⟩] [⟨238, 239, 2, 128, 191⟩, ⟨240, 240, 3, 144, 191⟩, ⟨241, 243, 3, 128, 191⟩, ⟨244, 244, 3, 128, 143⟩] ⟨237, 237, 2, 128, 159⟩ rfl (by simp; omega) c4 (by decide) (by decide) (by decide) (by rw [hd]) (by rw [hd]; show b - 224 = b % 32; omega) (fun y hy1 hy2 => ?_)
    rw [hd]
    show dkBad 2 (64 * (b - 224) + y - 128) = true ↔ (y < 128 ∨ 159 < y)
    simp [dkBad]
    omega
  by_cases c5 : 238 ≤ b ∧ b ≤ 239
  · have hd : dkLead b = (2, b - 224) := by unfold dkLead; rw [if_neg (by omega), if_pos (by omega)]
    refine fin [⟨0, 127, 0, 0, 0⟩, ⟨194, 223, 1, 128, 191⟩, ⟨224, 224, 2, 160, 191⟩, ⟨225, 236, 2, 128, 191⟩, ⟨237, 237, 2, 128, 159⟩] [⟨240, 240, 3, 144, 191⟩, ⟨241, 243, 3, 128, 191⟩, ⟨244, 244, 3, 128, 143⟩] ⟨238, 239, 2, 128, 191⟩ rfl (by simp; omega) c5 (by decide) (by decide) (by decide) (by rw [hd]) (by rw [hd]; show b - 224 = b % 32; omega) (fun y hy1 hy2 => ?_)
    rw [hd]
    show dkBad 2 (64 * (b - 224) + y - 128) = true ↔ (y < 128 ∨ 191 < y)
    simp [dkBad]
    omega
  by_cases c6 : 240 ≤ b ∧ b ≤ 240
  · have hd : dkLead b = (3, b - 240) := by unfold dkLead; rw [if_neg (by omega), if_neg (by omega), if_pos (by omega)]
    refine fin [⟨0, 127, 0, 0, 0⟩, ⟨194, 223, 1, 128, 191⟩, ⟨224, 224, 2, 160, 191⟩, ⟨225, 236, 2, 128, 191⟩, ⟨237, 237, 2, 128, 159⟩, ⟨238, 239, 2, 128, 191⟩] [⟨241, 243, 3, 128, 191⟩, ⟨244, 244, 3, 128, 143⟩] ⟨240, 240, 3, 144, 191⟩ rfl (by simp; omega) c6 (by decide) (by decide) (by decide) (by rw [hd]) (by rw [hd]; show b - 240 = b % 16; omega) (fun y hy1 hy2 => ?_)
    rw [hd]
    show dkBad 3 (64 * (b - 240) + y - 128) = true ↔ (y < 144 ∨ 191 < y)
    simp [dkBad]
    omega
  by_cases c7 : 241 ≤ b ∧ b ≤ 243
  · have hd : dkLead b = (3, b - 240) := by unfold dkLead; rw [if_neg (by omega), if_neg (by omega), if_pos (by omega)]
    refine fin [⟨0, 127, 0, 0, 0⟩, ⟨194, 223, 1, 128, 191⟩, ⟨224, 224, 2, 160, 191⟩, ⟨225, 236, 2, 128, 191⟩, ⟨237, 237, 2, 128, 159⟩, ⟨238, 239, 2, 128, 191⟩, ⟨240, 240, 3, 144, 191⟩] [⟨244, 244, 3, 128, 143⟩] ⟨241, 243, 3, 128, 191⟩ rfl (by simp; omega) c7 (by decide) (by decide) (by decide) (by rw [hd]) (by rw [hd]; show b - 240 = b % 16; omega) (fun y hy1 hy2 => ?_)
    rw [hd]
    show dkBad 3 (64 * (b - 240) + y - 128) = true ↔ (y < 128 ∨ 191 < y)
    simp [dkBad]
    omega
  by_cases c8 : 244 ≤ b ∧ b ≤ 244
  · have hd : dkLead b = (3, b - 240) := by unfold dkLead; rw [if_neg (by omega), if_neg (by omega), if_pos (by omega)]
    refine fin [⟨0, 127, 0, 0, 0⟩, ⟨194, 223, 1, 128, 191⟩, ⟨224, 224, 2, 160, 191⟩, ⟨225, 236, 2, 128, 191⟩, ⟨237, 237, 2, 128, 159⟩, ⟨238, 239, 2, 128, 191⟩, ⟨240, 240, 3, 144, 191⟩, ⟨241, 243, 3, 128, 191⟩] [] ⟨244, 244, 3, 128, 143⟩ rfl (by simp; omega) c8 (by decide) (by decide) (by decide) (by rw [hd]) (by rw [hd]; show b - 240 = b % 16; omega) (fun y hy1 hy2 => ?_)
    rw [hd]
    show dkBad 3 (64 * (b - 240) + y - 128) = true ↔ (y < 128 ∨ 143 < y)
    simp [dkBad]
    omega
  have hn : leadOf b = none := by
    unfold leadOf
    rw [List.find?_eq_none]
    intro x hx
    simp only [leadsL, List.mem_cons, List.not_mem_nil, or_false] at hx
    rw [no_lead b x (by rcases hx with rfl | rfl | rfl | rfl | rfl | rfl | rfl | rfl | rfl <;> dsimp only <;> omega)]
    simp
  rw [hn, show dkLead b = (0, 0) by unfold dkLead; rw [if_neg (by omega), if_neg (by omega), if_neg (by omega)]]
  rfl
end Go.Proofs.YtpjnnbegimaaeaaDoor
