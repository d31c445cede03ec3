/- What packed texts call of the library: Cut, CutPrefix, TrimPrefix, Itoa, Atoi; conditions: the texts fit into memory, the library's variables lie there. -/
import Derived.Test.YtmeekjfnmdbnpaaDoorOw
import Derived.Test.YtmeekjfnmdbnpaaDoorSh
import Derived.Lib.SmallJoins
import Derived.Laws.Externs
import Derived.Lib.AtoiAllCases
namespace Go.Proofs.YtmeekjfnmdbnpaaDoor
open Go.RowKit
open Go.Lib

/-- The library's variables lie there. -/
structure Sx (w : World) : Prop where
  tab : TabIs Tryd.prog w "internal/strconv.uint64pow10" .u64 pow10Tab
  syn : ∃ ev, w.cell? ⟨2, 0, none⟩ = some ev ∧ (ev = .nilIface ∨ ∃ te pe, ev = .iface te pe)
  ran : ∃ ev, w.cell? ⟨3, 0, none⟩ = some ev ∧ (ev = .nilIface ∨ ∃ te pe, ev = .iface te pe)
theorem gPow : Tryd.prog.globalNamed "internal/strconv.uint64pow10" = some 1 := by kernel_rfl
theorem Sx.below {w w' : World} (h : Sx w) (b : Below w.heap.size w w') : Sx w' := by
  refine ⟨Go.Joins.tab_stays gPow h.tab b (Nat.le_refl _), ?_, ?_⟩
  · obtain ⟨ev, h1, h2⟩ := h.syn
    exact ⟨ev, by rw [b.cell (p := ⟨2, 0, none⟩) (Lib.lt_of_cell h1)]; exact h1, h2⟩
  · obtain ⟨ev, h1, h2⟩ := h.ran
    exact ⟨ev, by rw [b.cell (p := ⟨3, 0, none⟩) (Lib.lt_of_cell h1)]; exact h1, h2⟩
theorem Sx.new {w w' : World} (h : Sx w) (t : Touch (fun _ => False) w w') : Sx w' := h.below (t.belowN _ (Nat.le_refl _))

theorem trimPrefix_any (s : ByteArray) (w : World) : Calls Tryd.prog 38 #[.string s, .string ⟨#[45]⟩] w fun e w' => e = .returned (sv (trimM s.data.toList)) ∧ w' = w := by
  exact Any.strings_TrimPrefix Tryd.lays101 s ⟨#[45]⟩ w
theorem cutPrefix_any (s : ByteArray) (w : World) : Calls Tryd.prog 30 #[.string s, .string ⟨#[44]⟩] w fun e w' => e = .returned (.tuple #[sv (if ([44] : Bs).isPrefixOf s.data.toList = true then s.data.toList.drop 1 else s.data.toList), .bool (([44] : Bs).isPrefixOf s.data.toList)]) ∧ w' = w :=
  Any.strings_CutPrefix Tryd.lays103 s ⟨#[44]⟩ w
theorem touch_grow (w : World) (k : Nat) (os : Array Obj) : Touch (fun _ => False) w (Go.Sort.grow (w.drewN k) os) := by
  refine ⟨rfl, rfl, rfl, ?_, ?_⟩
  · show w.heap.size ≤ (w.heap ++ os).size
    simp
  · intro i hi _
    show (w.heap ++ os)[i]? = _
    rw [Array.getElem?_append_left hi]
theorem itoa_any (n : Int) (h0 : -9223372036854775808 ≤ n) (h1 : n ≤ 9223372036854775807) (w : World) (hx : Sx w) :
    Calls Tryd.prog 27 #[.int .i64 n] w fun e w' => e = .returned (sv (itoa n)) ∧ Touch (fun _ => False) w w' := by
  refine (Any.strconv_Itoa Tryd.laysM171 n h0 h1 w hx.tab).mono ?_
  rintro e w' ⟨rfl, k, os, rfl⟩
  exact ⟨rfl, touch_grow w k os⟩
/-- What Atoi tells: a number, or an error. -/
def atV (s : Bs) (v : Value) : Prop := match atoiAll s with
  | .ok n => v = .tuple #[.int .i64 n, .nilIface]
  | .syntax => ∃ n a, v = .tuple #[.int .i64 n, .iface 118 (.pointer a)]
  | .range => ∃ n a, v = .tuple #[.int .i64 n, .iface 118 (.pointer a)]
theorem atoi_any (s : ByteArray) (hs : s.size ≤ 140737488355328) (w : World) (hx : Sx w) :
    Calls Tryd.prog 39 #[.string s] w fun e w' => ∃ v, e = .returned v ∧ atV s.data.toList v ∧ Touch (fun _ => False) w w' := by
  unfold atV
  cases h : atoiAll s.data.toList with
  | ok n =>
    refine (Any.strconv_Atoi_ok Tryd.laysC172 s (by omega) n h w).mono ?_
    rintro e w' ⟨rfl, hw⟩
    refine ⟨_, rfl, rfl, ?_⟩
    rcases hw with rfl | ⟨t, rfl⟩
    · exact Touch.refl _ _
    · exact Below.touch (Go.Joins.below_bytesWorld w.heap.size w _ t (Nat.le_refl _))
  | «syntax» =>
    obtain ⟨ev, hv, hev⟩ := hx.syn
    refine (Any.strconv_Atoi_syntax Tryd.laysC172 s (by omega) h ev w hv hev).mono ?_
    rintro e w' ⟨N, rfl, _, _, b⟩
    exact ⟨_, rfl, ⟨_, _, rfl⟩, Below.touch b⟩
  | range =>
    obtain ⟨ev, hv, hev⟩ := hx.ran
    refine (Any.strconv_Atoi_range Tryd.laysC172 s (by omega) h ev w hv hev).mono ?_
    rintro e w' ⟨N, rfl, _, _, b⟩
    exact ⟨_, rfl, ⟨_, _, rfl⟩, Below.touch b⟩

/-! ### Cut at a colon -/
def idxV : Option Nat → Int
  | some i => (i : Int)
  | none => -1
theorem at_opt (s : ByteArray) (i : Nat) (h : i < s.size) : s.data.toList[i]? = some s[i] := by
  rw [List.getElem?_eq_getElem (by simpa using h)]
  rfl
theorem find_idx (c : UInt8) : ∀ cs : List UInt8, (List.range cs.length).find? (fun i => decide (cs[i]? = some c)) = idxOf c cs
  | [] => rfl
  | x :: cs => by
    rw [List.length_cons, List.range_succ_eq_map, List.find?_cons, idxOf]
    by_cases h : x = c
    · simp [h]
    · have ih := find_idx c cs
      simp only [List.getElem?_cons_zero, Option.some.injEq, h, decide_false, if_false, List.find?_map]
      have e : ((fun i => decide ((x :: cs)[i]? = some c)) ∘ Nat.succ) = (fun i => decide (cs[i]? = some c)) := by
        funext i
        simp
      rw [e, ih]
theorem find_same {α : Type} {p q : α → Bool} : ∀ (l : List α), (∀ i ∈ l, p i = q i) → l.find? p = l.find? q
  | [], _ => rfl
  | x :: l, h => by
    rw [List.find?_cons, List.find?_cons, h x (by simp), find_same l (fun i hi => h i (by simp [hi]))]
theorem first_idx (s : ByteArray) (c : UInt8) : firstIdx s c = idxV (idxOf c s.data.toList) := by
  have e : (List.range s.size).find? (fun i => s[i]! == c) = (List.range s.data.toList.length).find? (fun i => decide (s.data.toList[i]? = some c)) := by
    rw [len_size]
    refine find_same _ ?_
    intro i hi
    have hi' : i < s.size := by simpa using hi
    rw [getElem!_pos s i hi', at_opt s i hi', Bool.eq_iff_iff]
    simp
  unfold firstIdx
  rw [e, find_idx]
  cases idxOf c s.data.toList <;> rfl
theorem index_ext (s : ByteArray) (w : World) : (callFunc 66 #[.string s, .int .u8 58]).run Tryd.prog w = .ok (.value (.int .i64 (idxV (idxOf 58 s.data.toList)))) w := by
  rw [run_callFunc_extern Tryd.func66 (by kernel_rfl) (by kernel_rfl) (by kernel_rfl) (e := Extern.BytealgIndexByte.indexByte) (by kernel_rfl), run_indexByte_string]
  rw [← first_idx]
  rfl
def cutV (s : ByteArray) : Value := match idxOf 58 s.data.toList with
  | some i => .tuple #[.string (s.extract 0 i), .string (s.extract (i + 1) s.size), .bool true]
  | none => .tuple #[.string s, .string ⟨#[]⟩, .bool false]
set_option maxRecDepth 100000 in
set_option maxHeartbeats 4000000 in
theorem sindex_any (s : ByteArray) (w : World) (_hs : s.size ≤ 140737488355328) : Calls Tryd.prog 43 #[.string s, .string ⟨#[58]⟩] w fun e w' => e = .returned (.int .i64 (idxV (idxOf 58 s.data.toList))) ∧ w = w' := by
  have K : ∀ w, Calls Tryd.prog 52 #[.string s, .int .u8 58] w fun e w' => e = .returned (.int .i64 (idxV (idxOf 58 s.data.toList))) ∧ w = w' := by
    intro w
    have e := index_ext s
    go_enter Tryd.func52, Tryd.ntmps52
    go_wp2
    go_ret
    exact ⟨rfl, rfl⟩
  have K2 := hid (K w)
  clear K
  cases he : ([58] == s.toList) with
  | true =>
    have hl : s.data.toList = [58] := by
      have := beq_iff_eq.1 he
      rw [toList_data] at this
      exact this.symm
    have hf : idxV (idxOf 58 s.data.toList) = 0 := by
      rw [hl]
      rfl
    have HF := hid hf
    clear hf hl
    go_enter Tryd.func43, Tryd.ntmps43
    go_wp2
    go_ret
    exact ⟨by rw [HF.out]; rfl, rfl⟩
  | false =>
    go_enter Tryd.func43, Tryd.ntmps43
    go_wp2_with fail
    refine Calls.mono (R := fun e w' => e = .returned (.int .i64 (idxV (idxOf 58 s.data.toList))) ∧ w = w') K2.out ?_
    rintro e w1 ⟨rfl, rfl⟩
    clear K2
    go_wp2
    go_ret
    exact ⟨rfl, rfl⟩

set_option maxRecDepth 100000 in
set_option maxHeartbeats 4000000 in
theorem cut_lite (s : ByteArray) (w : World) (hs : s.size ≤ 140737488355328) : Calls Tryd.prog 28 #[.string s, .string ⟨#[58]⟩] w fun e w' => e = .returned (cutV s) ∧ Touch (fun _ => False) w w' := by
  have K : Calls Tryd.prog 37 #[.string s, .string ⟨#[58]⟩] w fun e w' => e = .returned (cutV s) ∧ Touch (fun _ => False) w w' := by
    have K0 := hid (sindex_any s w hs)
    unfold cutV
    cases hi : idxOf 58 s.data.toList with
    | none =>
      rw [hi] at K0
      unfold idxV at K0
      dsimp only at K0 ⊢
      clear hi
      go_enter Tryd.func37, Tryd.ntmps37
      go_wp2_with fail
      refine K0.out.mono ?_
      rintro e w1 ⟨rfl, rfl⟩
      clear K0
      go_wp2
      refine bodyPost_ret (results_tmp3 rfl _ _ _) rfl ?_
      exact ⟨rfl, Touch.refl _ _⟩
    | some i =>
      rw [hi] at K0
      unfold idxV at K0
      dsimp only at K0 ⊢
      have hlt := (idx_some 58 _ i hi).2
      rw [len_size] at hlt
      have hI : (i : Int) ≤ (s.size : Int) := by omega
      have hI2 : (i : Int) + 1 ≤ (s.size : Int) := by omega
      have hn : ((i : Int) + 1).toNat = i + 1 := by omega
      clear hi
      go_enter Tryd.func37, Tryd.ntmps37
      go_wp2_with fail
      refine K0.out.mono ?_
      rintro e w1 ⟨rfl, rfl⟩
      clear K0
      go_wp2_with fail
      go_quiet (fail)
      go_wp2
      refine bodyPost_ret (results_tmp3 rfl _ _ _) rfl ?_
      exact ⟨rfl, (Touch.refl _ _).drewN _⟩
  have K2 := hid K
  clear K
  have hsh : ∃ a b c, cutV s = .tuple #[a, b, c] := by
    unfold cutV
    split <;> exact ⟨_, _, _, rfl⟩
  obtain ⟨a, b, c, hc⟩ := hsh
  rw [hc] at K2 ⊢
  clear hc
  go_enter Tryd.func28, Tryd.ntmps28
  go_wp2_with fail
  refine K2.out.mono ?_
  rintro e w1 ⟨rfl, t1⟩
  have T1 := hid t1
  clear K2 t1
  go_wp2
  refine bodyPost_ret (results_tmp3 rfl _ _ _) rfl ?_
  exact ⟨rfl, T1.out⟩
theorem ba_eq {a b : ByteArray} (h : a.data.toList = b.data.toList) : a = b := by
  apply ByteArray.ext
  exact Array.toList_inj.1 h
theorem cut_any (s : ByteArray) (w : World) (hs : s.size ≤ 140737488355328) : Calls Tryd.prog 28 #[.string s, .string ⟨#[58]⟩] w fun e w' => (∃ f, e = .returned (.tuple #[sv (cutD s.data.toList), sv (cutR s.data.toList), .bool f])) ∧ Touch (fun _ => False) w w' := by
  refine (cut_lite s w hs).mono ?_
  rintro e w' ⟨rfl, t⟩
  refine ⟨?_, t⟩
  unfold cutV cutD cutR
  cases hi : idxOf 58 s.data.toList with
  | none => exact ⟨false, rfl⟩
  | some i =>
    have hlt := (idx_some 58 _ i hi).2
    refine ⟨true, ?_⟩
    dsimp only
    have e1 : s.extract 0 i = ⟨(s.data.toList.take i).toArray⟩ := ba_eq (by rw [ext_list]; simp)
    have e2 : s.extract (i + 1) s.size = ⟨(s.data.toList.drop (i + 1)).toArray⟩ := ba_eq (by rw [ext_list, List.take_of_length_le (by rw [List.length_drop, len_size]; exact Nat.le_refl _)])
    rw [e1, e2]
    rfl
end Go.Proofs.YtmeekjfnmdbnpaaDoor
