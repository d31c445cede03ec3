/- What Show writes of an object of texts is read again: plain; no condition. -/
import Derived.Test.YtabhlhgfacpohaaDoorLg
namespace Go.Proofs.YtabhlhgfacpohaaDoor
open Go.RowKit
open Go.Lib

theorem ub4 (x : Nat) : (ub x).length ≤ 4 := by
  unfold ub
  split
  · exact Nat.le_of_ble_eq_true rfl
  · split
    · exact Nat.le_of_ble_eq_true rfl
    · split
      · exact Nat.le_of_ble_eq_true rfl
      · exact Nat.le_of_ble_eq_true rfl
theorem UB_len : ∀ L : List Nat, (UB L).length ≤ 4 * L.length
  | [] => by simp [UB]
  | x :: L => by
    have := UB_len L
    have := ub4 x
    unfold UB at *
    rw [List.flatMap_cons, List.length_append, List.length_cons]
    omega
theorem cl_size (s : ByteArray) : (clS s).size ≤ 4 * s.size := by
  have h1 := UB_len (scs s)
  have h2 := scs_len s
  show (UB (scs s)).toArray.size ≤ _
  rw [List.size_toArray]
  omega
theorem item_step (s : ByteArray) (t : Nat) (L M : List Nat) (R : Bs) (h : At s t (quL L ++ [58] ++ quL M ++ R)) (hR : R ≠ []) (hL : ∀ x ∈ L, isSc x) (hM : ∀ x ∈ M, isSc x) : ∃ u e, Item s t u e (UB L) (UB M) ∧ At s e R ∧ e = t + (quL L ++ [58] ++ quL M).length := by
  rw [List.append_assoc, List.append_assoc] at h
  obtain ⟨a1, a2, a3⟩ := quot_at s t L _ h hL
  obtain ⟨b1, b2⟩ := at_lk a3
  obtain ⟨c1, c2, c3⟩ := quot_at s _ M R b2 hM
  have hz := at_len c3 hR
  have hu := (lk_is (c := 58) b1).1
  refine ⟨_, _, ⟨a1, a2, by omega, b1, c1, c2, by omega⟩, c3, ?_⟩
  simp only [List.length_append, List.length_singleton]
  omega
/-- A pair's bytes. -/
def prs (xl yl : List ByteArray) (i : Nat) : Bs × Bs := (UB (scs (xl.getD i ⟨#[]⟩)), UB (scs (yl.getD i ⟨#[]⟩)))
theorem cl_getD (xl : List ByteArray) (i : Nat) (h : i < xl.length) : (xl.map clS).getD i ⟨#[]⟩ = clS (xl.getD i ⟨#[]⟩) := by
  rw [List.getD_eq_getElem?_getD, List.getD_eq_getElem?_getD, List.getElem?_map, List.getElem?_eq_getElem h]
  rfl
theorem pc_is (xl yl : List ByteArray) (i : Nat) (h : i < xl.length) (h' : i < yl.length) : pcF (xl.map clS) (yl.map clS) i = (if i = 0 then [] else [44]) ++ (quL (scs (xl.getD i ⟨#[]⟩)) ++ [58] ++ quL (scs (yl.getD i ⟨#[]⟩))) := by
  unfold pcF
  rw [cl_getD xl i h, cl_getD yl i h', quB_cl, quB_cl]
theorem items_at (s : ByteArray) (xl yl : List ByteArray) (hxy : xl.length = yl.length) : ∀ (m i t : Nat), i + m + 1 ≤ xl.length → At s t ((List.range' i (m + 1)).flatMap (pcF (xl.map clS) (yl.map clS)) ++ [125]) → Items s (t + (if i = 0 then 0 else 1)) ((List.range' i (m + 1)).map (prs xl yl)) (s.size - 1)
  | m, i, t, hi, ha => by
    rw [List.range'_succ, List.flatMap_cons, pc_is xl yl i (by omega) (by omega), List.append_assoc, List.append_assoc] at ha
    have ha1 : At s (t + (if i = 0 then 0 else 1)) (quL (scs (xl.getD i ⟨#[]⟩)) ++ [58] ++ quL (scs (yl.getD i ⟨#[]⟩)) ++ ((List.range' (i + 1) m).flatMap (pcF (xl.map clS) (yl.map clS)) ++ [125])) := by
      by_cases h0 : i = 0
      · rw [if_pos h0] at ha ⊢
        exact ha
      · rw [if_neg h0] at ha ⊢
        exact (at_lk ha).2
    obtain ⟨u, e, it, hR, _⟩ := item_step s _ _ _ _ ha1 (by simp) (scs_sc _) (scs_sc _)
    rw [List.range'_succ, List.map_cons]
    cases m with
    | zero =>
      have h1 : At s e [125] := hR
      have hz := at_len h1 (by simp)
      rw [List.length_singleton] at hz
      have := Items.last (s := s) _ u e _ _ it.h1 it.h2 it.h3 it.h4 it.h5 it.h6 it.h7 (at_lk h1).1
      rw [show s.size - 1 = e by omega]
      exact this
    | succ m =>
      have ih := items_at s xl yl hxy m (i + 1) e (by omega) hR
      rw [if_neg (by omega)] at ih
      have h44 : lk s e = 44 := by
        rw [List.range'_succ, List.flatMap_cons, pc_is xl yl (i + 1) (by omega) (by omega), if_neg (by omega)] at hR
        exact (at_lk hR).1
      exact Items.more (s := s) _ u e _ _ _ _ it.h1 it.h2 it.h3 it.h4 it.h5 it.h6 it.h7 h44 ih
/-- The text of an object. -/
def obS (xl yl : List ByteArray) : ByteArray := ⟨(objB (xl.map clS) (yl.map clS)).toArray⟩
def prL (xl yl : List ByteArray) : List (Bs × Bs) := (List.range' 0 yl.length).map (prs xl yl)
theorem ob_list (xl yl : List ByteArray) : (obS xl yl).data.toList = 123 :: ((List.range' 0 yl.length).flatMap (pcF (xl.map clS) (yl.map clS)) ++ [125]) := by
  unfold obS objB jnF
  rw [List.length_map, List.range_eq_range']
theorem ob_braces (xl yl : List ByteArray) (hxy : xl.length = yl.length) : Braces (obS xl yl) 0 (prL xl yl) ((obS xl yl).size - 1) ∧ (obS xl yl).size - 1 + 1 = (obS xl yl).size := by
  have ha : At (obS xl yl) 0 (123 :: ((List.range' 0 yl.length).flatMap (pcF (xl.map clS) (yl.map clS)) ++ [125])) := by
    unfold At
    rw [List.drop_zero, ob_list]
  have hz := at_len ha (by simp)
  simp only [List.length_cons, List.length_append] at hz
  obtain ⟨l0, h1⟩ := at_lk ha
  refine ⟨⟨l0, ?_⟩, by omega⟩
  unfold prL
  cases hn : yl.length with
  | zero =>
    left
    rw [hn] at h1 hz
    simp at hz
    exact ⟨rfl, (at_lk h1).1, by omega⟩
  | succ m =>
    right
    rw [hn] at h1
    have := items_at (obS xl yl) xl yl hxy m 0 (0 + 1) (by omega) h1
    rw [if_pos rfl, Nat.add_zero] at this
    exact this
theorem pr_keys (xl yl : List ByteArray) (hxy : xl.length = yl.length) : keysL (prL xl yl) = xl.map clS := by
  unfold keysL prL bytesL
  rw [List.map_map, List.map_map]
  apply List.ext_getElem
  · simp [hxy]
  · intro i h1 h2
    simp only [List.length_map] at h2
    simp only [List.getElem_map, List.getElem_range', Nat.one_mul, Nat.zero_add, Function.comp, prs]
    rw [List.getD_eq_getElem?_getD, List.getElem?_eq_getElem h2]
    rfl
theorem pr_texts (xl yl : List ByteArray) : textsL (prL xl yl) = yl.map clS := by
  unfold textsL prL bytesL
  rw [List.map_map, List.map_map]
  apply List.ext_getElem
  · simp
  · intro i h1 h2
    simp only [List.length_map] at h2
    simp only [List.getElem_map, List.getElem_range', Nat.one_mul, Nat.zero_add, Function.comp, prs]
    rw [List.getD_eq_getElem?_getD, List.getElem?_eq_getElem h2]
    rfl
theorem pr_len (xl yl : List ByteArray) : (prL xl yl).length = yl.length := by
  unfold prL
  simp
/-- Its scalars. -/
theorem pc_ub (xl yl : List ByteArray) (i : Nat) (h : i < xl.length) (h' : i < yl.length) : ∃ M, UB M = pcF (xl.map clS) (yl.map clS) i ∧ ∀ x ∈ M, isSc x := by
  rw [pc_is xl yl i h h']
  obtain ⟨A, a1, a2⟩ := quL_ub (scs (xl.getD i ⟨#[]⟩)) (scs_sc _)
  obtain ⟨B, b1, b2⟩ := quL_ub (scs (yl.getD i ⟨#[]⟩)) (scs_sc _)
  refine ⟨(if i = 0 then [] else [44]) ++ (A ++ [58] ++ B), ?_, ?_⟩
  · unfold UB at *
    rw [List.flatMap_append, List.flatMap_append, List.flatMap_append, a1, b1]
    split <;> rfl
  · intro x hx
    rcases List.mem_append.1 hx with hx | hx
    · split at hx
      · cases hx
      · rw [List.mem_singleton] at hx
        rw [hx]; unfold isSc; omega
    · rcases List.mem_append.1 hx with hx | hx
      · rcases List.mem_append.1 hx with hx | hx
        · exact a2 x hx
        · rw [List.mem_singleton] at hx
          rw [hx]; unfold isSc; omega
      · exact b2 x hx
theorem flat_pc (xl yl : List ByteArray) (hxy : xl.length = yl.length) : ∀ m i, i + m ≤ yl.length → ∃ M, UB M = (List.range' i m).flatMap (pcF (xl.map clS) (yl.map clS)) ∧ ∀ x ∈ M, isSc x
  | 0, i, _ => ⟨[], rfl, by simp⟩
  | m + 1, i, hi => by
    obtain ⟨A, a1, a2⟩ := pc_ub xl yl i (by omega) (by omega)
    obtain ⟨B, b1, b2⟩ := flat_pc xl yl hxy m (i + 1) (by omega)
    refine ⟨A ++ B, ?_, fun x hx => ?_⟩
    · rw [List.range'_succ, List.flatMap_cons, ← a1, ← b1]
      unfold UB
      rw [List.flatMap_append]
    · rcases List.mem_append.1 hx with hx | hx
      · exact a2 x hx
      · exact b2 x hx
theorem ob_decode (xl yl : List ByteArray) (hxy : xl.length = yl.length) (hs : (obS xl yl).size ≤ 1048576) (w : World) (ht : Tabs w) :
    Calls Tryd.prog 13 #[.string (xs (obS xl yl)), .int .i64 1, .bool true] w fun e w' => ∃ a1 n1 c1 a2 n2 c2, e = .returned (.tuple #[.agg #[.int .i64 1, .slice a1 n1 c1, .slice a2 n2 c2, .int .i64 0], .agg #[.int .i64 0, .int .i64 0]]) ∧ Touch (fun _ => False) w w' := by
  have k := decode_any (xs (obS xl yl)) 1 true w ht (by rw [xs_size]; omega) (by decide)
  rw [xs_bg] at k
  obtain ⟨M, m1, m2⟩ := flat_pc xl yl hxy yl.length 0 (by omega)
  obtain ⟨ps, hp⟩ := dec_ub (xs (obS xl yl)) (120 :: 123 :: (M ++ [125])) (by
    rw [xs_list, ob_list, ← m1]
    unfold UB
    rw [List.flatMap_cons, List.flatMap_cons, List.flatMap_append]
    rfl) (by
    intro x hx
    simp only [List.mem_cons, List.mem_append, List.not_mem_nil, or_false] at hx
    rcases hx with rfl | rfl | hx | rfl
    · unfold isSc; omega
    · unfold isSc; omega
    · exact m2 x hx
    · unfold isSc; omega) true
  refine k.mono ?_
  intro e w' hh
  rw [show (((1 : Nat), (0 : Nat)).1) = 1 from rfl, show (((1 : Nat), (0 : Nat)).2) = 0 from rfl, hp] at hh
  rcases hh with ⟨i, h1, _⟩ | ⟨_, h2⟩
  · cases h1
  · obtain ⟨v1, v2, he, o1, o2⟩ := h2.ex
    obtain ⟨a1, c1, rfl⟩ := own_shape o1.own
    obtain ⟨a2, c2, rfl⟩ := own_shape o2.own
    exact ⟨a1, _, c1, a2, _, c2, he, o1.touch⟩
theorem pc_len (xl yl : List ByteArray) (i : Nat) (h : i < xl.length) (h' : i < yl.length) (hB : (xl.getD i ⟨#[]⟩).size + (yl.getD i ⟨#[]⟩).size ≤ 1000) : (pcF (xl.map clS) (yl.map clS) i).length ≤ 6006 := by
  rw [pc_is xl yl i h h']
  have a := flat_qo (scs (xl.getD i ⟨#[]⟩))
  have b := flat_qo (scs (yl.getD i ⟨#[]⟩))
  have a' := scs_len (xl.getD i ⟨#[]⟩)
  have b' := scs_len (yl.getD i ⟨#[]⟩)
  have c : (if i = 0 then ([] : Bs) else [44]).length ≤ 1 := by split <;> simp
  unfold quL
  simp only [List.length_append, List.length_cons, List.length_nil]
  omega
theorem ob_len (xl yl : List ByteArray) (hxy : xl.length = yl.length) (hB : ∀ i, i < yl.length → (xl.getD i ⟨#[]⟩).size + (yl.getD i ⟨#[]⟩).size ≤ 1000) : (obS xl yl).size ≤ 2 + 6006 * yl.length := by
  have h : ∀ m i, i + m ≤ yl.length → ((List.range' i m).flatMap (pcF (xl.map clS) (yl.map clS))).length ≤ 6006 * m := by
    intro m
    induction m with
    | zero => intro i _; simp
    | succ m ih =>
      intro i hi
      have := ih (i + 1) (by omega)
      have := pc_len xl yl i (by omega) (by omega) (hB i (by omega))
      rw [List.range'_succ, List.flatMap_cons, List.length_append]
      omega
  have := h yl.length 0 (by omega)
  rw [← size_list, ob_list]
  simp only [List.length_cons, List.length_append, List.length_nil]
  omega
end Go.Proofs.YtabhlhgfacpohaaDoor
