/- A key is looked for among those that are left; no condition. -/
import Derived.Test.YtmeekjfnmdbnpaaDoorKy
import Derived.Test.YtmeekjfnmdbnpaaDoorVr
import Derived.Deep.MidRow
namespace Go.Proofs.YtmeekjfnmdbnpaaDoor
open Go.RowKit
open Go.Lib

/-- The keys that are left, in block g. -/
structure KL (w : World) (g b : Nat) (left : List Nat) : Prop where
  row : w.rangeAt g 0 (flatK b left)
  room : w.there g 0 36
  lt : g < w.heap.size
  len : left.length ≤ 18
theorem KL.kept {w w' : World} {S : Nat → Prop} {g b : Nat} {left : List Nat} (h : KL w g b left) (t : Touch S w w') (hs : ¬ S g) : KL w' g b left := by
  have hc : ∀ i, w'.cell? ⟨g, i, none⟩ = w.cell? ⟨g, i, none⟩ := fun i => t.cell (p := ⟨g, i, none⟩) h.lt hs
  have hf : ∀ i, w'.frozen? ⟨g, i, none⟩ = w.frozen? ⟨g, i, none⟩ := fun i => by
    unfold World.frozen?
    rw [t.block g h.lt hs]
  exact ⟨fun j v hv => by rw [hc]; exact h.row j v hv, fun i hi => by rw [hc, hf]; exact h.room i hi, Nat.lt_of_lt_of_le h.lt t.size, h.len⟩
theorem KL.new {w w' : World} {g b : Nat} {left : List Nat} (h : KL w g b left) (t : Touch (fun _ => False) w w') : KL w' g b left := h.kept t id
theorem flatK_len (b : Nat) (l : List Nat) : (flatK b l).length = l.length * 2 := by
  induction l with
  | nil => rfl
  | cons k l ih => simp only [flatK, List.flatMap_cons, List.length_append, List.length_cons] at ih ⊢; rw [ih]; simp [kcell]; omega
theorem flatK_get : ∀ (b : Nat) (l : List Nat) (j : Nat) (h : j < l.length), (flatK b l)[j * 2]? = some (sv (wordB l[j])) ∧ (flatK b l)[j * 2 + 1]? = some (kv b l[j])
  | b, k :: l, 0, _ => ⟨rfl, rfl⟩
  | b, k :: l, j + 1, h => by
    obtain ⟨h1, h2⟩ := flatK_get b l j (by simpa using h)
    have e : flatK b (k :: l) = kcell b k ++ flatK b l := rfl
    rw [e, List.getElem?_append_right (by simp [kcell]; omega), List.getElem?_append_right (by simp [kcell]; omega)]
    simp only [kcell, List.length_cons, List.length_nil, List.getElem_cons_succ]
    rw [show (j + 1) * 2 - 2 = j * 2 by omega, show (j + 1) * 2 + 1 - 2 = j * 2 + 1 by omega]
    exact ⟨h1, h2⟩
theorem KL.at {w : World} {g b : Nat} {left : List Nat} (h : KL w g b left) (j : Nat) (hj : j < left.length) : w.cell? ⟨g, j * 2, none⟩ = some (sv (wordB left[j])) ∧ w.cell? ⟨g, j * 2 + 1, none⟩ = some (kv b left[j]) := by
  obtain ⟨h1, h2⟩ := flatK_get b left j hj
  have r1 := h.row _ _ h1
  have r2 := h.row _ _ h2
  rw [Nat.zero_add] at r1 r2
  exact ⟨r1, r2⟩
set_option maxRecDepth 100000 in
set_option maxHeartbeats 4000000 in
theorem clo_any (X Wd : ByteArray) (ty : TypeId) (pv : Value) (lb ab bb oo n c at0 : Nat) (w : World) (h1 : w.cell? ⟨lb, 0, none⟩ = some (.slice (some ⟨bb, oo, none⟩) n c)) (h2 : w.cell? ⟨ab, 0, none⟩ = some (.int .i64 (at0 : Nat))) (h3 : w.cell? ⟨bb, oo + at0, none⟩ = some (.string X)) (ha : at0 < n) (_hn : n ≤ 1099511627776) :
    Calls Tryd.prog 33 #[.agg #[.string Wd, .iface ty pv], .pointer (some ⟨lb, 0, none⟩), .pointer (some ⟨ab, 0, none⟩)] w fun e w' => e = .returned (.bool (Wd.toList == X.toList)) ∧ Touch (fun _ => False) w w' := by
  have TA := hid ((Touch.refl (fun _ => False) w).alloc (.cells #[.string Wd, .iface ty pv] 87))
  have c0 := cell_two0 (two_new (w := w) (.string Wd) (.iface ty pv) 87)
  have g1 := cell?_alloc_some (.cells #[.string Wd, .iface ty pv] 87) h1
  have g2 := cell?_alloc_some (.cells #[.string Wd, .iface ty pv] 87) h2
  have g3 := cell?_alloc_some (.cells #[.string Wd, .iface ty pv] 87) h3
  have haI : (at0 : Int) < (n : Int) := by omega
  clear h1 h2 h3
  go_enter Tryd.func33, Tryd.ntmps33
  go_wp2_with fail
  generalize w.alloc (.cells #[.string Wd, .iface ty pv] 87) = wa at *
  go_quiet (fail)
  go_wp2
  go_ret
  exact ⟨rfl, TA.out.drewN _⟩
/-- Where among them the key of this word is. -/
def fidx (x : Bs) : List Nat → Option Nat
  | [] => none
  | k :: l => if wordB k = x then some 0 else (fidx x l).map (· + 1)
theorem fidx_drop (x : Bs) (left : List Nat) (j : Nat) (h : j < left.length) : fidx x (left.drop j) = if wordB left[j] = x then some 0 else (fidx x (left.drop (j + 1))).map (· + 1) := by
  rw [List.drop_eq_getElem_cons h, fidx]
set_option maxRecDepth 100000 in
set_option maxHeartbeats 4000000 in
theorem index_any (X : ByteArray) (g b lb ab bb oo n c at0 : Nat) (left : List Nat) (w : World) (hk : KL w g b left) (h1 : w.cell? ⟨lb, 0, none⟩ = some (.slice (some ⟨bb, oo, none⟩) n c)) (h2 : w.cell? ⟨ab, 0, none⟩ = some (.int .i64 (at0 : Nat))) (h3 : w.cell? ⟨bb, oo + at0, none⟩ = some (.string X)) (ha : at0 < n) (hn : n ≤ 1099511627776) (cap : Nat) :
    Calls Tryd.prog 32 #[.slice (some ⟨g, 0, none⟩) left.length cap, .func (.func 33) #[] #[.pointer (some ⟨lb, 0, none⟩), .pointer (some ⟨ab, 0, none⟩)]] w fun e w' => e = .returned (.int .i64 (idxV (fidx X.data.toList left))) ∧ Touch (fun _ => False) w w' := by
  obtain ⟨R, hR⟩ : ∃ R, R = idxV (fidx X.data.toList left) := ⟨_, rfl⟩
  rw [← hR]
  have HR := hid (show idxV ((fidx X.data.toList (left.drop 0)).map (· + 0)) = R by rw [hR, List.drop_zero]; cases fidx X.data.toList left <;> rfl)
  have HK := hid hk
  have HC := hid (And.intro h1 (And.intro h2 h3))
  have hl18 : left.length ≤ 18 := hk.len
  clear hR hk h1 h2 h3
  go_enter Tryd.func32, Tryd.ntmps32
  go_wp2_with fail
  go_loopg [8] left.length (fun gk v8 wq => ∃ j : Nat, j + gk = left.length ∧ v8 = .int .i64 (j : Nat) ∧ Hid (idxV ((fidx X.data.toList (left.drop j)).map (· + j)) = R) ∧ Touch (fun _ => False) w wq)
  case atStart => exact ⟨0, by omega, rfl, HR, Touch.refl _ _⟩
  case round =>
    clear HR
    obtain ⟨j, hjg, rfl, HR, tq⟩ := hrel
    have TQ := hid tq
    clear tq
    by_cases hlt : j < left.length
    · have hltI : (j : Int) < (left.length : Int) := by omega
      obtain ⟨G, rfl⟩ : ∃ G, gk = G + 1 := ⟨gk - 1, by omega⟩
      rw [fidx_drop _ left j hlt] at HR
      obtain ⟨r1, r2⟩ := (HK.out.new TQ.out).at j hlt
      obtain ⟨q1, q2, q3⟩ := HC.out
      have KC := hid (fun (W' : World) (t : Touch (fun _ => False) w W') (Wd : ByteArray) (ty : TypeId) (pv : Value) => clo_any X Wd ty pv lb ab bb oo n c at0 W' ((t.cell (p := ⟨lb, 0, none⟩) (Lib.lt_of_cell q1) id).trans q1) ((t.cell (p := ⟨ab, 0, none⟩) (Lib.lt_of_cell q2) id).trans q2) ((t.cell (p := ⟨bb, oo + at0, none⟩) (Lib.lt_of_cell q3) id).trans q3) ha hn)
      clear q1 q2 q3
      obtain ⟨T, hT, _, hTd⟩ := name_ba (wordB left[j])
      rw [hT] at r1
      have HB := hid (show (T.toList == X.toList) = decide (wordB left[j] = X.data.toList) by
        rw [toList_data, toList_data, hTd, Bool.eq_iff_iff]
        simp)
      unfold kv at r2
      clear hT hTd
      generalize (Value.agg #[.pointer (some ⟨b, offK left[j], none⟩)]) = pv at *
      generalize kd left[j] = ty at *
      by_cases hw : wordB left[j] = X.data.toList
      · rw [if_pos hw] at HR
        have hB : (T.toList == X.toList) = true := by rw [HB.out]; exact decide_eq_true hw
        clear hw
        go_wp2_with fail
        refine (KC.out _ TQ.out T ty pv).mono ?_
        rintro e w1 ⟨rfl, t1⟩
        have T1 := hid (TQ.out.trans t1 (fun _ _ e => e))
        clear t1 KC
        rw [hB]
        go_wp2
        go_ret
        exact ⟨by rw [← HR.out]; simp [idxV], T1.out⟩
      · rw [if_neg hw] at HR
        have hB : (T.toList == X.toList) = false := by rw [HB.out]; exact decide_eq_false hw
        clear hw
        go_wp2_with fail
        refine (KC.out _ TQ.out T ty pv).mono ?_
        rintro e w1 ⟨rfl, t1⟩
        have T1 := hid (TQ.out.trans t1 (fun _ _ e => e))
        clear t1 KC
        rw [hB]
        go_wp2
        go_roundg G
        case measure => omega
        case rel =>
          refine ⟨j + 1, by omega, by go_num, hid ?_, T1.out⟩
          rw [← HR.out, Option.map_map]
          congr 2
          funext i
          simp
          omega
    · have hltI : ¬ (j : Int) < (left.length : Int) := by omega
      rw [List.drop_eq_nil_of_le (by omega)] at HR
      go_wp2
      go_ret
      exact ⟨by rw [← HR.out]; rfl, TQ.out⟩
end Go.Proofs.YtmeekjfnmdbnpaaDoor
