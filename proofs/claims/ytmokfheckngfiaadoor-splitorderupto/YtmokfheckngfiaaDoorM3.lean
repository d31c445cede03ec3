/- Texts of this proof, one behind the other: what each says stands ahead of it. -/
import Derived.Test.YtmokfheckngfiaaDoorM2
import Derived.Test.YtmokfheckngfiaaDoorM1
import Derived.Deep.QuietTactic
/- The putter of UTF-8; conditions: those told. -/
namespace Go.Proofs.YtmokfheckngfiaaDoor
open Go.RowKit
attribute [local go_sem] run_store_func

/-- The bytes of a scalar by UTF-8. -/
def en8 (r : Int) : List Int := if r < 128 then [r] else if r < 2048 then [192 + r / 64, 128 + r % 64] else if r < 65536 then [224 + r / 4096, 128 + r / 64 % 64, 128 + r % 64] else [240 + r / 262144, 128 + r / 4096 % 64, 128 + r / 64 % 64, 128 + r % 64]
theorem utf8_any (bo q : Nat) (v : Value) (o : List Int) (r : Int) (wq : World) (hr : 0 ≤ r ∧ r ≤ 1114111) (hbo : wq.cell? ⟨bo, 0, none⟩ = some (.pointer (some ⟨q, 0, none⟩))) (hlb : bo < wq.heap.size) (hbq : bo ≠ q ∧ v.ownBlock ≠ some bo) (hob : Ob (fun k => k = q ∨ v.ownBlock = some k) wq wq q v o) (ho : o.length ≤ 549755813896) :
    Calls Tryd.prog 109 #[.func (.func 103) #[] #[.pointer (some ⟨bo, 0, none⟩)], .int .i64 r] wq fun e w' => e = .returned (.tuple #[]) ∧ ∃ v', Ob (fun k => k = q ∨ v.ownBlock = some k) wq w' q v' (o ++ en8 r) := by
  unfold en8
  split
  · exact utf8_one bo q v o r wq (by omega) hbo hlb hbq hob ho
  · split
    · exact utf8_two bo q v o r wq (by omega) hbo hlb hbq hob ho
    · split
      · exact utf8_three bo q v o r wq (by omega) hbo hlb hbq hob ho
      · exact utf8_four bo q v o r wq (by omega) hbo hlb hbq hob ho
set_option maxRecDepth 100000 in
theorem putter_utf8 (q : Nat) (w : World) : Calls Tryd.prog 84 #[.pointer (some ⟨q, 0, none⟩), .int .i64 1] w fun e w' => ∃ bo b5, e = .returned (.func (.func 108) #[] #[.pointer (some ⟨b5, 0, none⟩)]) ∧ Own1 w.heap.size w' bo (.pointer (some ⟨q, 0, none⟩)) ∧ Own1 w.heap.size w' b5 (.func (.func 103) #[] #[.pointer (some ⟨bo, 0, none⟩)]) ∧ Touch (fun _ => False) w w' := by
  go_enter Tryd.func84, Tryd.ntmps84
  go_wp2
  go_ret
  exact ⟨_, _, rfl, (Own1.made rfl (Nat.le_refl _)).alloc _, Own1.made (by simp) (by omega), ((Touch.refl _ w).alloc _).alloc _⟩
set_option maxRecDepth 100000 in
theorem put_utf8 {lo : Nat} {w : World} {bo b5 q : Nat} (h1 : Own1 lo w bo (.pointer (some ⟨q, 0, none⟩))) (h2 : Own1 lo w b5 (.func (.func 103) #[] #[.pointer (some ⟨bo, 0, none⟩)])) : PutOk lo w 108 b5 q (fun r => 0 ≤ r ∧ r ≤ 1114111) en8 549755813888 := by
  intro wq v o r hk hs hv hq hob hr ho
  have c5 : wq.cell? ⟨b5, 0, none⟩ = some (.func (.func 103) #[] #[.pointer (some ⟨bo, 0, none⟩)]) := (cell_heap (hk b5 h2.ge h2.lt)).trans h2.cell
  have b1 := h1.ge
  have b2 := h1.lt
  have K := hid (utf8_any bo q v o r wq hr ((cell_heap (hk bo h1.ge h1.lt)).trans h1.cell) (by omega) ⟨by omega, fun e => by rcases hv bo e with p | p <;> omega⟩ hob (by omega))
  clear hk hv hob h1 h2
  go_enter Tryd.func108, Tryd.ntmps108
  go_wp2_with fail
  refine K.out.mono ?_
  rintro e w2 ⟨rfl, v', hb⟩
  have H2 := hid hb
  clear hb K
  go_wp2
  refine bodyPost_end (results_none rfl _ _ _) rfl ?_
  exact ⟨rfl, v', H2.out⟩
end Go.Proofs.YtmokfheckngfiaaDoor

/- Encode of any numbers in every coding; conditions: those told. -/
namespace Go.Proofs.YtmokfheckngfiaaDoor
open Go.RowKit
open Go.Lib

def scB (r : Int) : Bool := decide (0 ≤ r) && (decide (r ≤ 1114111) && !(decide (55296 ≤ r) && decide (r < 57344)))
theorem scB_iff (r : Int) : scB r = true ↔ 0 ≤ r ∧ r ≤ 1114111 ∧ (r < 55296 ∨ 57344 ≤ r) := by
  unfold scB
  simp only [Bool.and_eq_true, decide_eq_true_eq, Bool.not_eq_true', Bool.and_eq_false_iff, decide_eq_false_iff_not]
  omega
set_option maxRecDepth 100000 in
theorem scalar_any (r : Int) (w : World) : Calls Tryd.prog 85 #[.int .i64 r] w fun e w' => e = .returned (.bool (scB r)) ∧ w = w' := by
  have K := hid (isHalf_any r w)
  obtain ⟨h, hh⟩ : ∃ h, h = (decide (55296 ≤ r) && decide (r < 57344)) := ⟨_, rfl⟩
  rw [← hh] at K
  have HS := hid (show scB r = (decide (0 ≤ r) && (decide (r ≤ 1114111) && !h)) by rw [hh]; rfl)
  rw [HS.out]
  clear hh HS
  by_cases h0 : 0 ≤ r
  · by_cases h1 : r ≤ 1114111
    · go_enter Tryd.func85, Tryd.ntmps85
      go_wp2_with fail
      refine K.out.mono ?_
      rintro e w1 ⟨rfl, rfl⟩
      go_wp2
      go_ret
      exact ⟨by simp [h0, h1], rfl⟩
    · have HF := hid (show (decide (0 ≤ r) && (decide (r ≤ 1114111) && !h)) = false by rw [decide_eq_false h1, Bool.false_and, Bool.and_false])
      rw [HF.out]
      clear HF
      go_enter Tryd.func85, Tryd.ntmps85
      go_wp2
      go_ret
      exact ⟨rfl, rfl⟩
  · have HF := hid (show (decide (0 ≤ r) && (decide (r ≤ 1114111) && !h)) = false by rw [decide_eq_false h0, Bool.false_and])
    rw [HF.out]
    clear HF
    go_enter Tryd.func85, Tryd.ntmps85
    go_wp2
    go_ret
    exact ⟨rfl, rfl⟩

def enc (c : Nat) (r : Int) : List Int := if c = 1 then en8 r else if c = 2 then en16 105 r else if c = 3 then en16 106 r else [r]
def okc (c : Nat) (r : Int) : Bool := scB r && (decide (c ≠ 4) || decide (r ≤ 255))
def topc (c : Nat) : Int := if c = 4 then 255 else 1114111
theorem enc_len (c : Nat) (r : Int) : (enc c r).length ≤ 4 := by
  unfold enc en8 en16 enU
  repeat' split
  all_goals simp
theorem flat_len (c : Nat) : ∀ l : List Int, (l.flatMap (enc c)).length ≤ 4 * l.length
  | [] => by simp
  | x :: l => by
    have := enc_len c x
    have := flat_len c l
    simp only [List.flatMap_cons, List.length_append, List.length_cons]
    omega
theorem flat_more (c : Nat) (l : List Int) (i : Nat) (hi : i < l.length) (o : List Int) : o ++ (l.take (i + 1)).flatMap (enc c) = o ++ (l.take i).flatMap (enc c) ++ enc c l[i] := by
  rw [List.take_succ_eq_append_getElem hi, List.flatMap_append, ← List.append_assoc]
  simp
theorem okc_in {c : Nat} {r : Int} (h : okc c r = true) : 0 ≤ r ∧ r ≤ topc c := by
  unfold okc at h
  rw [Bool.and_eq_true, scB_iff] at h
  unfold topc
  split
  · rename_i e
    subst e
    simp at h
    omega
  · omega
theorem all_take {p : Int → Bool} {l : List Int} {i : Nat} (hi : i < l.length) (h : (l.take i).all p = true) (hx : p l[i] = true) : (l.take (i + 1)).all p = true := by
  rw [List.take_succ_eq_append_getElem hi, List.all_append, h, List.all_cons, hx]
  rfl
theorem putter_all (c fid : Nat) (hc : (c = 1 ∧ fid = 108) ∨ (c = 2 ∧ fid = 120) ∨ (c = 3 ∧ fid = 120) ∨ (c = 4 ∧ fid = 107)) (q : Nat) (w : World) : Calls Tryd.prog 84 #[.pointer (some ⟨q, 0, none⟩), .int .i64 (c : Nat)] w fun e w' => ∃ b, e = .returned (.func (.func fid) #[] #[.pointer (some ⟨b, 0, none⟩)]) ∧ PutOk w.heap.size w' fid b q (fun r => 0 ≤ r ∧ r ≤ topc c) (enc c) 549755813888 ∧ Touch (fun _ => False) w w' := by
  rcases hc with ⟨rfl, rfl⟩ | ⟨rfl, rfl⟩ | ⟨rfl, rfl⟩ | ⟨rfl, rfl⟩
  · refine (putter_utf8 q w).mono ?_
    rintro e w' ⟨bo, b5, rfl, o1, o2, t⟩
    exact ⟨b5, rfl, put_utf8 o1 o2, t⟩
  · refine (putter_pair q 2 105 (by omega) w).mono ?_
    rintro e w' ⟨b6, rfl, h, t⟩
    exact ⟨b6, rfl, h, t⟩
  · refine (putter_pair q 3 106 (by omega) w).mono ?_
    rintro e w' ⟨b6, rfl, h, t⟩
    exact ⟨b6, rfl, h, t⟩
  · refine (putter_four q w).mono ?_
    rintro e w' ⟨bo, b5, rfl, o1, o2, t⟩
    exact ⟨b5, rfl, put_latin o1 o2, t⟩

end Go.Proofs.YtmokfheckngfiaaDoor

/- Encode by UTF-8 without a mark, of any numbers; conditions: those told. -/
namespace Go.Proofs.YtmokfheckngfiaaDoor
open Go.RowKit
open Go.Lib
def encU (l : List Int) : Value := if l.all (okc 1) = true then .tuple #[.string (strOfNums (l.flatMap (enc 1))), .int .i64 0] else .tuple #[.string ⟨#[]⟩, .int .i64 17]
theorem encU_bad {l : List Int} (i : Nat) (hi : i < l.length) (h : okc 1 l[i] = false) : encU l = .tuple #[.string ⟨#[]⟩, .int .i64 17] := by
  unfold encU
  rw [if_neg]
  intro e
  rw [List.all_eq_true] at e
  have := e _ (List.getElem_mem hi)
  rw [h] at this
  cases this
set_option maxRecDepth 100000 in
set_option maxHeartbeats 8000000 in
theorem encode_u (a : Option Addr) (k : Nat) (l : List Int) (w : World) (hl : l = [] ∨ Ig w a l) (hb : l.length ≤ 1048576) :
    Calls Tryd.prog 65 #[.slice a l.length k, .int .i64 1, .bool false] w fun e w' => e = .returned (encU l) ∧ Touch (fun _ => False) w w' := by
  have O := hid (Ob.start w)
  have T := hid ((Touch.refl (fun _ => False) w).alloc (.cells #[.slice none 0 0] 23))
  have HL := hid hl
  clear hl
  go_enter Tryd.func65, Tryd.ntmps65
  go_upto_region 4 with fail
  generalize (w.alloc (.cells #[.slice none 0 0] 23)) = w1 at *
  obtain ⟨q, hq⟩ : ∃ q, q = w.heap.size := ⟨_, rfl⟩
  rw [← hq] at O ⊢
  have HQ := hid hq
  clear hq
  go_upto_if 18 with fail
  go_cut [18] (fun v wd => v = .bool false ∧ ∃ v, Ob (fun k => k = q) w1 wd q v [])
  case first =>
    go_wp2
    go_meet
    case rel => exact ⟨rfl, _, O.out⟩
  obtain ⟨rfl, v0, hob⟩ := hcut
  obtain ⟨m0, hm0⟩ : ∃ m0 : List Int, m0 = [] := ⟨_, rfl⟩
  have hml : m0.length ≤ 3 := by
    rw [hm0]
    simp
  rw [← hm0] at hob
  have HM0 := hid hm0
  clear O hm0
  have OO := hid hob
  obtain ⟨av, kv, hv0⟩ := own_shape hob.own
  subst hv0
  clear hob
  obtain ⟨w2, hw2⟩ : ∃ x, x = wc := ⟨_, rfl⟩
  subst hw2
  have KP := hid (putter_all 1 108 (by decide) q w2)
  go_wp2_with fail
  refine KP.out.mono ?_
  rintro e w3 ⟨b5, rfl, pu, tc⟩
  have PU := hid pu
  have O3 := hid (OO.out.still tc)
  have HS := hid (show q < w2.heap.size from lt_of_block OO.out.blk)
  have HOW := hid (show ∀ g, (Value.slice av m0.length kv).ownBlock = some g → g < w2.heap.size from fun g hg => lt_of_block (own_block5 OO.out.own hg).choose_spec)
  have HS3 := hid tc.size
  have TC3 := hid tc
  have HNW := hid (show ∀ k, k < w.heap.size → (Value.slice av m0.length kv).ownBlock ≠ some k from fun k hk e => by
    have s1 := T.out.size
    have := HQ.out
    rcases OO.out.new k e with p | p <;> omega)
  clear pu tc KP
  have HG := hid (show ∀ i (h : i < l.length), ∃ b, a = some ⟨b, 0, none⟩ ∧ b < w3.heap.size ∧ ¬ (b = q ∨ (Value.slice av m0.length kv).ownBlock = some b) ∧ w3.cell? ⟨b, i, none⟩ = some (.int .i64 l[i]) from fun i hi => by
    rcases HL.out with rfl | ⟨b, rfl, hb, hc⟩
    · simp at hi
    · have s1 := T.out.size
      have s2 := OO.out.touch.size
      have hbq : b ≠ q := by have := HQ.out; omega
      refine ⟨b, rfl, by have := HS3.out; omega, fun e => ?_, ?_⟩
      · rcases e with e | e
        · exact hbq e
        · rcases OO.out.new b e with p | p
          · exact hbq p
          · omega
      · rw [TC3.out.cell (p := ⟨b, i, none⟩) (by show b < w2.heap.size; omega) id, OO.out.touch.cell (p := ⟨b, i, none⟩) (by show b < w1.heap.size; omega) hbq, T.out.cell (p := ⟨b, i, none⟩) hb id]
        exact hc i hi)
  have TW := hid (show Touch (fun _ => False) w w3 from (T.out.trans OO.out.touch (fun k hk e => by have := HQ.out; omega)).trans TC3.out (fun _ _ e => e))
  have H0 := hid O3.out.now
  clear HL OO T O3 TC3
  go_wp2_with fail
  go_loopg [28] l.length (fun gk v7 wq => ∃ (i : Nat) (v' : Value), i + gk = l.length ∧ v7 = .int .i64 (i : Nat) ∧ Ob (fun k => k = q ∨ (Value.slice av m0.length kv).ownBlock = some k) w3 wq q v' (m0 ++ (l.take i).flatMap (enc 1)) ∧ (l.take i).all (okc 1) = true)
  case atStart => exact ⟨0, _, by omega, rfl, by simpa using H0.out, rfl⟩
  case round =>
    obtain ⟨i, v', hi, rfl, hob, hall⟩ := hrel
    have HA := hid hall
    clear hall
    obtain ⟨o', ho'⟩ : ∃ o', o' = m0 ++ (l.take i).flatMap (enc 1) := ⟨_, rfl⟩
    have hol : o'.length ≤ 549755813888 := by have h1 := flat_len 1 (l.take i); have h2 := List.length_take_le' i l; rw [ho', List.length_append]; omega
    rw [← ho'] at hob
    have HO := hid ho'
    clear ho'
    have O := hid hob
    clear hob
    by_cases hlt2 : i < l.length
    · obtain ⟨gk, rfl⟩ : ∃ j, gk = j + 1 := ⟨gk - 1, by omega⟩
      have hltI : (i : Int) < (l.length : Int) := by omega
      obtain ⟨b, rfl, hb3, hbP, hc⟩ := HG.out i hlt2
      have hx := (O.out.touch.cell (p := ⟨b, i, none⟩) hb3 hbP).trans hc
      have HT2 := hid (flat_more 1 l i hlt2 m0)
      have HBAD := hid (encU_bad i hlt2)
      have HAL := hid (all_take (p := okc 1) hlt2 HA.out)
      obtain ⟨x, hxe⟩ : ∃ x, l[i] = x := ⟨_, rfl⟩
      rw [hxe, ← HO.out] at HT2
      rw [hxe] at hx HBAD HAL
      have KS := hid (scalar_any x wr)
      cases hs : scB x
      · rw [hs] at KS
        replace HBAD := hid (HBAD.out (by unfold okc; rw [hs]; rfl))
        have TZ := hid (show Touch (fun _ => False) w wr from TW.out.trans O.out.touch (fun k hk e => by
          have h1 := HQ.out
          rcases e with e | e
          · omega
          · exact absurd e (HNW.out k hk)))
        clear hxe hc hbP HO hs HG
        go_wp2_with fail
        refine KS.out.mono ?_
        rintro e w5 ⟨rfl, rfl⟩
        clear KS
        go_wp2
        refine bodyPost_ret (results_tmp2 rfl _ _ _) rfl ?_
        exact ⟨by rw [HBAD.out]; rfl, TZ.out⟩
      have HOK := hid (show okc 1 x = true by unfold okc; rw [hs]; rfl)
      replace HAL := hid (HAL.out HOK.out)
      have KP := hid (PU.out wr v' o' x (fun k h1 h2 => O.out.touch.block k h2 (fun e => by
        rcases e with e | e
        · have := HS.out; omega
        · have := HOW.out k e; omega)) O.out.touch.size (fun g hg => by
        rcases O.out.new g hg with (p | p) | p
        · exact .inl (by have := HS.out; omega)
        · exact .inl (HOW.out g p)
        · exact .inr p) HS.out O.out.now (okc_in HOK.out) hol)
      rw [hs] at KS
      clear hxe hc hbP HO hs
      go_wp2_with fail
      refine KS.out.mono ?_
      rintro e w5 ⟨rfl, rfl⟩
      clear KS
      go_wp2_with fail
      refine KP.out.mono ?_
      rintro e w6 ⟨rfl, v6, hb6⟩
      have O6 := hid (O.out.back hb6)
      rw [← HT2.out] at O6
      clear hb6 KP O HT2
      go_wp2
      go_roundg gk
      case measure => omega
      case rel => exact ⟨i + 1, v6, by omega, by go_num, O6.out, HAL.out⟩
    · have hltI : ¬ ((i : Int) < (l.length : Int)) := by omega
      have hti : l.take i = l := List.take_of_length_le (by omega)
      have HE := hid (show encU l = .tuple #[.string (strOfNums o'), .int .i64 0] by
        have h1 := HA.out
        rw [hti] at h1
        unfold encU
        rw [if_pos h1, HO.out, hti, HM0.out, List.nil_append])
      clear hti
      obtain ⟨av', kv', hv'⟩ := own_shape O.out.own
      subst hv'
      obtain ⟨hc0, hcf⟩ := O.out.cell
      have hcv := conv_own O.out.own
      have TZ := hid (show Touch (fun _ => False) w wr from TW.out.trans O.out.touch (fun k hk e => by
        have h1 := HQ.out
        rcases e with e | e
        · omega
        · exact absurd e (HNW.out k hk)))
      clear HG
      go_wp2
      refine bodyPost_ret (results_tmp2 rfl _ _ _) rfl ?_
      exact ⟨by rw [HE.out]; rfl, TZ.out⟩
end Go.Proofs.YtmokfheckngfiaaDoor

/- bytesOf, and where a range must be cut; conditions: those told. -/
namespace Go.Proofs.YtmokfheckngfiaaDoor
open Go.RowKit
open Go.Lib

set_option maxRecDepth 100000 in
theorem bytesOf_any (r : Int) (h : okc 1 r = true) (w : World) : Calls Tryd.prog 50 #[.int .i64 r] w fun e w' => e = .returned (.string (strOfNums (en8 r))) ∧ Touch (fun _ => False) w w' := by
  have K := hid (encode_u (some ⟨w.heap.size, 0, none⟩) 1 [r] (w.alloc (.cells #[.int .i64 r] 3)) (.inr (ig_new w [r])) (by simp))
  have hall : [r].all (okc 1) = true := by rw [List.all_cons, h]; rfl
  have e : encU [r] = .tuple #[.string (strOfNums (en8 r)), .int .i64 0] := by
    unfold encU
    rw [if_pos hall, List.flatMap_cons, List.flatMap_nil, List.append_nil]
    rfl
  rw [e] at K
  have T := hid ((Touch.refl (fun _ => False) w).alloc (.cells #[.int .i64 r] 3))
  clear h hall e
  go_enter Tryd.func50, Tryd.ntmps50
  go_wp2_with fail
  refine K.out.mono ?_
  rintro e w1 ⟨rfl, t1⟩
  have T1 := hid (T.out.trans t1 (fun _ _ e => e))
  clear t1 K
  go_wp2
  go_ret
  exact ⟨rfl, T1.out⟩

/-- Where a range must be cut for so many bits. -/
def cutL (f t : Nat) (k : Nat) : Option Nat := if f / 2 ^ k = t / 2 ^ k then none else if f % 2 ^ k ≠ 0 then some ((f / 2 ^ k + 1) * 2 ^ k) else if t % 2 ^ k ≠ 2 ^ k - 1 then some (t / 2 ^ k * 2 ^ k) else none
def cutV (o : Option Nat) : Value := match o with
  | none => .tuple #[.int .i64 0, .bool false]
  | some n => .tuple #[.int .i64 (n : Nat), .bool true]
theorem and_lowest (r k : Nat) (h : r < 4194304) (hk : k ≤ 20) : bits .and .i64 (r : Int) ((2 ^ k - 1 : Nat) : Int) = ((r % 2 ^ k : Nat) : Int) := by
  have hp : 2 ^ k ≤ 2 ^ 20 := Nat.pow_le_pow_right (by decide) hk
  rw [(bits_nat .i64 62 (by decide) wraps_i64 r (2 ^ k - 1) (by omega) (by omega)).1, Nat.and_two_pow_sub_one_eq_mod]
theorem or_lowest (r k : Nat) (h : r < 4194304) (hk : k ≤ 20) : bits .or .i64 (r : Int) ((2 ^ k - 1 : Nat) : Int) = (((r / 2 ^ k + 1) * 2 ^ k - 1 : Nat) : Int) := by
  have hp : 2 ^ k ≤ 2 ^ 20 := Nat.pow_le_pow_right (by decide) hk
  have h1 : 0 < 2 ^ k := Nat.two_pow_pos _
  rw [(bits_nat .i64 62 (by decide) wraps_i64 r (2 ^ k - 1) (by omega) (by omega)).2]
  congr 1
  apply Nat.eq_of_testBit_eq
  intro i
  rw [Nat.testBit_or, Nat.testBit_two_pow_sub_one, show (r / 2 ^ k + 1) * 2 ^ k - 1 = 2 ^ k * (r / 2 ^ k) + (2 ^ k - 1) by rw [Nat.add_mul, Nat.one_mul, Nat.mul_comm]; omega, Nat.testBit_two_pow_mul_add _ (by omega), Nat.testBit_two_pow_sub_one]
  by_cases hi : i < k
  · simp [hi]
  · rw [if_neg hi]
    simp only [hi, decide_false, Bool.or_false]
    rw [Nat.testBit_div_two_pow]
    congr 1
    omega
end Go.Proofs.YtmokfheckngfiaaDoor
