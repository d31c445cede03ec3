/- Texts of this proof, one behind the other: what each says stands ahead of it. -/
import Derived.Test.YtjpmjcadnnglnaaDoorQXe
import Derived.Test.YtjpmjcadnnglnaaDoorM5
import Derived.Test.YtjpmjcadnnglnaaDoorM17
import Derived.BigQuiet
/- Reading an object, plain: numbers, spans, the object; no condition. -/
namespace Go.Proofs.YtjpmjcadnnglnaaDoor
open Go.RowKit
open Go.Lib

/-- The number that the first digits tell. -/
def dv (t : ByteArray) (i : Nat) : Nat := (t.data.toList.take i).foldl (fun n c => 10 * n + (c.toNat - 48)) 0
theorem dv_zero (t : ByteArray) : dv t 0 = 0 := rfl
theorem dv_more (t : ByteArray) (i : Nat) (h : i < t.size) : dv t (i + 1) = 10 * dv t i + (t[i].toNat - 48) := by
  unfold dv
  rw [List.take_succ_eq_append_getElem (by rw [size_list]; exact h), List.foldl_append]
  rfl
def dgAll (t : ByteArray) : Bool := t.data.toList.all digB
def dgTo (t : ByteArray) (i : Nat) : Prop := ∀ j (h : j < t.size), j < i → 48 ≤ t[j].toNat ∧ t[j].toNat ≤ 57
theorem dg_yes {t : ByteArray} (h : dgTo t t.size) : dgAll t = true := by
  unfold dgAll
  rw [List.all_eq_true]
  intro c hc
  obtain ⟨i, hi⟩ := List.getElem?_of_mem hc
  have hlt : i < t.size := by
    have := (List.getElem?_eq_some_iff.1 hi).1
    rwa [size_list] at this
  rw [at_opt t i hlt] at hi
  cases hi
  exact (dig_iff _).2 (h i hlt hlt)
theorem dg_no {t : ByteArray} {i : Nat} (h : i < t.size) (hd : ¬ (48 ≤ t[i].toNat ∧ t[i].toNat ≤ 57)) : dgAll t = false := by
  rw [Bool.eq_false_iff]
  intro e
  unfold dgAll at e
  rw [List.all_eq_true] at e
  have := e t[i] (List.mem_of_getElem? (at_opt t i h))
  exact hd ((dig_iff _).1 this)
theorem dv_lt {t : ByteArray} : ∀ i, i ≤ t.size → dgTo t i → dv t i < 10 ^ i
  | 0, _, _ => by rw [dv_zero]; decide
  | i + 1, h, hd => by
    have ih := dv_lt i (by omega) (fun j hj hji => hd j hj (by omega))
    have := hd i (by omega) (by omega)
    rw [dv_more t i (by omega), Nat.pow_succ]
    omega
theorem dv_small {t : ByteArray} {i : Nat} (h : i ≤ t.size) (hd : dgTo t i) (h18 : i ≤ 18) : dv t i ≤ 999999999999999999 := by
  have h1 := dv_lt i h hd
  have h2 : 10 ^ i ≤ 10 ^ 18 := Nat.pow_le_pow_right (by decide) h18
  have h3 : (10 : Nat) ^ 18 = 1000000000000000000 := by decide
  omega
theorem dv_small2 {t : ByteArray} {i : Nat} (h : i ≤ t.size) (hd : dgTo t i) (h17 : i ≤ 17) : dv t i ≤ 99999999999999999 := by
  have h1 := dv_lt i h hd
  have h2 : 10 ^ i ≤ 10 ^ 17 := Nat.pow_le_pow_right (by decide) h17
  have h3 : (10 : Nat) ^ 17 = 100000000000000000 := by decide
  omega
/-- Is it a number from nought on, of at most 18 digits? -/
def numB (k : Int) (t : ByteArray) : Bool := decide (k = 3) && (decide (t.size ≤ 18) && dgAll t)
def numN (k : Int) (t : ByteArray) : Nat := if numB k t = true then dv t t.size else 0
theorem num_kind {k : Int} {t : ByteArray} (h : k ≠ 3) : numB k t = false := by unfold numB; rw [decide_eq_false h]; rfl
theorem num_long {k : Int} {t : ByteArray} (h : ¬ t.size ≤ 18) : numB k t = false := by unfold numB; rw [decide_eq_false h]; simp
theorem num_dig {k : Int} {t : ByteArray} (h : dgAll t = false) : numB k t = false := by unfold numB; rw [h]; simp
theorem num_yes {t : ByteArray} (h : t.size ≤ 18) (hd : dgAll t = true) : numB 3 t = true := by unfold numB; rw [decide_eq_true h, hd]; rfl
/-- The document's way. -/
def cntI (k : Int) (t : ByteArray) : Int := if numB k t = true then (dv t t.size : Int) else -1
/-- A number that is told begins with no nought, if it has more digits. -/
theorem num_lead {t : ByteArray} (hn : NumT t) (hl : 1 < t.size) (h0 : t[0]'(by omega) = 48) : dgAll t = false := by
  obtain ⟨S, q, u, hq, e, rfl⟩ := hn
  have h1 := num_fwd hq e
  have hz := ext_sz S q u h1.1 h1.2
  have hget : ∀ i, (hi : i < u - q) → lk S (q + i) = (((S.extract q u)[i]'(by omega)).toNat : Int) := by
    intro i hi
    have g2 : (S.extract q u).data.toList[i]? = S.data.toList[q + i]? := by
      rw [ByteArray.data_extract, Array.toList_extract, List.extract_eq_take_drop, List.getElem?_take_of_lt (by omega), List.getElem?_drop]
    rw [at_opt _ i (by omega)] at g2
    unfold lk
    rw [← g2]
  have k0 := hget 0 (by omega)
  rw [h0, Nat.add_zero] at k0
  have k48 : lk S q = 48 := k0
  have k1 := hget 1 (by omega)
  unfold numE at e
  have p1 : part1 S q = .ok (q + 1) := by
    unfold part1
    rw [show stp S q 45 = q from if_neg (by omega), if_pos k48]
  rw [p1] at e
  simp only at e
  have hne : ¬ (48 ≤ lk S (q + 1) ∧ lk S (q + 1) ≤ 57) := by
    intro hd
    have p2 : part2 S (q + 1) = .ok (q + 1) := by
      unfold part2
      rw [if_neg (by omega)]
    rw [p2] at e
    simp only at e
    unfold part3 at e
    rw [if_neg (by omega), if_neg (by omega)] at e
    cases e
    omega
  exact dg_no (i := 1) hl (by omega)
def pairO : List JV → Option (Nat × Nat)
  | [.node k1 t1 _ _, .node k2 t2 _ _] => if numB k1 t1 = true ∧ numB k2 t2 = true then some (numN k1 t1, numN k2 t2) else none
  | _ => none
def spanO : JV → Option (Nat × Nat)
  | .node k _ _ kids => if k = 5 then pairO kids else none
theorem span_eq (k : Int) (t : ByteArray) (ks : List ByteArray) (kids : List JV) : spanO (.node k t ks kids) = if k = 5 then pairO kids else none := rfl
theorem pair_eq (k1 k2 : Int) (t1 t2 : ByteArray) (a b : List ByteArray) (l m : List JV) : pairO [.node k1 t1 a l, .node k2 t2 b m] = if numB k1 t1 = true ∧ numB k2 t2 = true then some (numN k1 t1, numN k2 t2) else none := rfl
def splO : List JV → Option (List (Nat × Nat))
  | [] => some []
  | x :: l => match spanO x with
    | none => none
    | some p => match splO l with
      | none => none
      | some ps => some (p :: ps)
theorem spl_app : ∀ (a b : List JV), splO (a ++ b) = match splO a with
    | none => none
    | some ps => match splO b with
      | none => none
      | some qs => some (ps ++ qs)
  | [], b => by
    show splO b = _
    rw [splO]
    cases splO b <;> rfl
  | x :: a, b => by
    rw [List.cons_append, splO, spl_app a b, splO]
    cases spanO x with
    | none => rfl
    | some p =>
      cases splO a with
      | none => rfl
      | some ps =>
        cases splO b <;> rfl
theorem spl_more {l : List JV} {i : Nat} {x : JV} {ps : List (Nat × Nat)} {p : Nat × Nat} (h : splO (l.take i) = some ps) (hx : l[i]? = some x) (hp : spanO x = some p) : splO (l.take (i + 1)) = some (ps ++ [p]) := by
  obtain ⟨hi, hx'⟩ := List.getElem?_eq_some_iff.1 hx
  rw [List.take_succ_eq_append_getElem hi, spl_app, h, hx']
  simp only [splO, hp]
theorem spl_bad {l : List JV} {i : Nat} {x : JV} {ps : List (Nat × Nat)} (h : splO (l.take i) = some ps) (hx : l[i]? = some x) (hp : spanO x = none) : splO l = none := by
  obtain ⟨hi, hx'⟩ := List.getElem?_eq_some_iff.1 hx
  have e : l = l.take i ++ (x :: l.drop (i + 1)) := by
    conv => lhs; rw [← List.take_append_drop i l, List.drop_eq_getElem_cons hi, hx']
  rw [e, spl_app, h]
  simp only [splO, hp]
theorem spl_len : ∀ {l : List JV} {ps : List (Nat × Nat)}, splO l = some ps → ps.length = l.length
  | [], ps, h => by
    rw [splO] at h
    cases h
    rfl
  | x :: l, ps, h => by
    rw [splO] at h
    split at h
    · cases h
    · split at h
      · cases h
      · rename_i qs hq
        cases h
        rw [List.length_cons, List.length_cons, spl_len hq]
def spansO : JV → Option (List (Nat × Nat))
  | .node k _ _ kids => if k = 5 then splO kids else none
def nmS : ByteArray := ⟨#[110, 97, 109, 101]⟩
def lnS : ByteArray := ⟨#[108, 105, 110, 101]⟩
def txS : ByteArray := ⟨#[116, 101, 120, 116]⟩
def spS : ByteArray := ⟨#[115, 112, 97, 110, 115]⟩
def objO : List JV → Option (ByteArray × Nat × ByteArray × List (Nat × Nat))
  | [.node ka ta _ _, .node kb tb _ _, .node kc tc _ _, d] => if ka = 4 ∧ numB kb tb = true ∧ kc = 4 then
      match spansO d with
      | none => none
      | some l => some (ta, numN kb tb, tc, l)
    else none
  | _ => none
/-- The object. -/
def readO : JV → Option (ByteArray × Nat × ByteArray × List (Nat × Nat))
  | .node k _ ks kids => if k = 6 ∧ ks = [nmS, lnS, txS, spS] then objO kids else none
theorem read_eq (k : Int) (t : ByteArray) (ks : List ByteArray) (kids : List JV) : readO (.node k t ks kids) = if k = 6 ∧ ks = [nmS, lnS, txS, spS] then objO kids else none := rfl
theorem spans_eq (k : Int) (t : ByteArray) (ks : List ByteArray) (kids : List JV) : spansO (.node k t ks kids) = if k = 5 then splO kids else none := rfl
end Go.Proofs.YtjpmjcadnnglnaaDoor

/- readNumber, and the document's count; conditions: as told. -/
namespace Go.Proofs.YtjpmjcadnnglnaaDoor
open Go.RowKit
open Go.Lib

theorem results_tmp2 {fn : Func} {t u : Tmp} (h : fn.results = #[.tmp t, .tmp u]) (tmps : Array Value) (P : Program) (w : World) :
    (results fn tmps).run P w = .ok (.tuple #[tmps.getD t undef, tmps.getD u undef]) w := by
  simp [results, h]
theorem results_tmp5 {fn : Func} {t u v x y : Tmp} (h : fn.results = #[.tmp t, .tmp u, .tmp v, .tmp x, .tmp y]) (tmps : Array Value) (P : Program) (w : World) :
    (results fn tmps).run P w = .ok (.tuple #[tmps.getD t undef, tmps.getD u undef, tmps.getD v undef, tmps.getD x undef, tmps.getD y undef]) w := by
  simp [results, h]
set_option maxRecDepth 100000 in
set_option maxHeartbeats 4000000 in
theorem readNum_no (k : Int) (t : ByteArray) (a2 a3 : Option Addr) (n2 c2 n3 c3 : Nat) (w : World) (hk : k ≠ 3 ∨ ¬ t.size ≤ 18) :
    Calls Tryd.prog 9 #[.agg #[.int .i64 k, .string t, .slice a2 n2 c2, .slice a3 n3 c3]] w fun e w' => e = .returned (.tuple #[.int .i64 0, .bool false]) ∧ Touch (fun _ => False) w w' := by
  have T0 := hid ((Touch.refl (fun _ => False) w).alloc (.cells #[.int .i64 k, .string t, .slice a2 n2 c2, .slice a3 n3 c3] 36))
  by_cases h3 : k = 3
  · have hl : (18 : Int) < (t.size : Int) := by omega
    subst h3
    clear hk
    go_enter Tryd.func9, Tryd.ntmps9
    go_wp2
    refine bodyPost_ret (results_tmp2 rfl _ _ _) rfl ?_
    exact ⟨rfl, T0.out⟩
  · have hb : (k != 3) = true := by simp; exact h3
    clear hk
    go_enter Tryd.func9, Tryd.ntmps9
    go_wp2
    refine bodyPost_ret (results_tmp2 rfl _ _ _) rfl ?_
    exact ⟨rfl, T0.out⟩
set_option maxRecDepth 100000 in
set_option maxHeartbeats 4000000 in
theorem readNum_3 (t : ByteArray) (a2 a3 : Option Addr) (n2 c2 n3 c3 : Nat) (w : World) (hs : t.size ≤ 18) :
    Calls Tryd.prog 9 #[.agg #[.int .i64 3, .string t, .slice a2 n2 c2, .slice a3 n3 c3]] w fun e w' => e = .returned (.tuple #[.int .i64 (numN 3 t : Nat), .bool (numB 3 t)]) ∧ Touch (fun _ => False) w w' := by
  have T0 := hid ((Touch.refl (fun _ => False) w).alloc (.cells #[.int .i64 3, .string t, .slice a2 n2 c2, .slice a3 n3 c3] 36))
  have B0 := hid (jfour_new (w := w) (.int .i64 3) (.string t) (.slice a2 n2 c2) (.slice a3 n3 c3) 36)
  have hl : ¬ (18 : Int) < (t.size : Int) := by omega
  have HY := hid (fun (hd : dgAll t = true) => num_yes hs hd)
  have HN := hid (fun (hd : dgAll t = false) => num_dig (k := 3) hd)
  go_enter Tryd.func9, Tryd.ntmps9
  go_upto_region 1 with fail
  generalize w.alloc (.cells #[.int .i64 3, .string t, .slice a2 n2 c2, .slice a3 n3 c3] 36) = w1 at *
  generalize w.heap.size = q at *
  obtain ⟨⟨q0, q1, q2, q3⟩, _⟩ := cells4 B0.out
  go_wp2_with fail
  go_loopg [4, 19] t.size (fun gk v4 v19 wq => ∃ i : Nat, i + gk = t.size ∧ v19 = .int .i64 (i : Nat) ∧ v4 = .int .i64 (dv t i : Nat) ∧ Hid (dgTo t i) ∧ wq = w1)
  case atStart => exact ⟨0, by omega, rfl, rfl, hid (fun j _ h => by omega), rfl⟩
  case round =>
    obtain ⟨i, hi, rfl, rfl, HD, rfl⟩ := hrel
    by_cases hlt : i < t.size
    · have hltI : (i : Int) < (t.size : Int) := by omega
      have hsm := dv_small2 (by omega) HD.out (show i ≤ 17 by omega)
      have HM := hid (dv_more t i hlt)
      have hc := t[i].toNat_lt
      by_cases hd : 48 ≤ t[i].toNat ∧ t[i].toNat ≤ 57
      · obtain ⟨hd1, hd2⟩ := hd
        have HC := hid (show 10 * (dv t i : Int) + ((t[i].toNat : Int) - 48) = ((dv t (i + 1) : Nat) : Int) from by rw [HM.out]; omega)
        have HD2 := hid (show dgTo t (i + 1) from fun j hj hji => by
          rcases Nat.lt_or_ge j i with h | h
          · exact HD.out j hj h
          · have : j = i := by omega
            subst this
            exact ⟨hd1, hd2⟩)
        have hd1I : ¬ (t[i].toNat : Int) < 48 := by omega
        have hd2I : ¬ (57 : Int) < (t[i].toNat : Int) := by omega
        have hwr := wrap8 ((t[i].toNat : Int) - 48) (by omega)
        generalize hx : t[i].toNat = x at *
        generalize hdv : dv t i = D at *
        go_wp2
        go_roundg (gk - 1)
        case measure => omega
        case rel => exact ⟨i + 1, by omega, by go_num, by rw [← HC.out], HD2, rfl⟩
      · have HX := hid (HN.out (dg_no hlt hd))
        have HX2 : Hid (numN 3 t = 0) := hid (by unfold numN; rw [HX.out]; rfl)
        by_cases hd1 : (t[i].toNat : Int) < 48
        · go_wp2
          refine bodyPost_ret (results_tmp2 rfl _ _ _) rfl ?_
          refine ⟨?_, T0.out⟩
          rw [HX.out, HX2.out]
          rfl
        · have hd2I : (57 : Int) < (t[i].toNat : Int) := by omega
          go_wp2
          refine bodyPost_ret (results_tmp2 rfl _ _ _) rfl ?_
          refine ⟨?_, T0.out⟩
          rw [HX.out, HX2.out]
          rfl
    · have hltI : ¬ (i : Int) < (t.size : Int) := by omega
      obtain rfl : i = t.size := by omega
      have HX := hid (HY.out (dg_yes HD.out))
      have HX2 : Hid (numN 3 t = dv t t.size) := hid (by unfold numN; rw [HX.out]; rfl)
      go_wp2
      refine bodyPost_ret (results_tmp2 rfl _ _ _) rfl ?_
      refine ⟨?_, T0.out⟩
      rw [HX.out, HX2.out]
      rfl
/-- readNumber, of any value. -/
theorem readNum_any (k : Int) (t : ByteArray) (a2 a3 : Option Addr) (n2 c2 n3 c3 : Nat) (w : World) :
    Calls Tryd.prog 9 #[.agg #[.int .i64 k, .string t, .slice a2 n2 c2, .slice a3 n3 c3]] w fun e w' => e = .returned (.tuple #[.int .i64 (numN k t : Nat), .bool (numB k t)]) ∧ Touch (fun _ => False) w w' := by
  by_cases h : k = 3 ∧ t.size ≤ 18
  · obtain ⟨rfl, h2⟩ := h
    exact readNum_3 t a2 a3 n2 c2 n3 c3 w h2
  · have hb : numB k t = false := by
      by_cases h3 : k = 3
      · exact num_long (fun h2 => h ⟨h3, h2⟩)
      · exact num_kind h3
    have hn : numN k t = 0 := by unfold numN; rw [hb]; rfl
    rw [hb, hn]
    exact readNum_no k t a2 a3 n2 c2 n3 c3 w (by omega)
end Go.Proofs.YtjpmjcadnnglnaaDoor
