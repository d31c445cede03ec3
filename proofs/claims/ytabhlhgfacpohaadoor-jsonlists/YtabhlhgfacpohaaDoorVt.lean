/- JSON, plain: texts that are UTF-8, put together, are; what Parse tells of values put together; no condition. -/
import Derived.Test.YtabhlhgfacpohaaDoorVs
import Derived.Test.YtabhlhgfacpohaaDoorVo
import Derived.Test.YtabhlhgfacpohaaDoorM19
import Derived.Test.YtabhlhgfacpohaaDoorSg
namespace Go.Proofs.YtabhlhgfacpohaaDoor
open Go.RowKit
open Go.Lib

def nums8 (l : Bs) : List Int := l.map fun c => (c.toNat : Int)
/-- Bytes that are UTF-8. -/
def Utf (l : Bs) : Prop := ∃ L : List Int, L.all (okc 1) = true ∧ nums8 l = L.flatMap (enc 1)
theorem Utf.app {a b : Bs} (h1 : Utf a) (h2 : Utf b) : Utf (a ++ b) := by
  obtain ⟨L, hL, e1⟩ := h1
  obtain ⟨M, hM, e2⟩ := h2
  refine ⟨L ++ M, by rw [List.all_append, hL, hM]; rfl, ?_⟩
  unfold nums8 at *
  rw [List.map_append, List.flatMap_append, e1, e2]
theorem Utf.nil : Utf [] := ⟨[], rfl, rfl⟩
theorem Utf.one (c : UInt8) (h : c.toNat < 128) : Utf [c] := by
  refine ⟨[(c.toNat : Int)], ?_, ?_⟩
  · unfold okc scB
    simp
    omega
  · rw [List.flatMap_cons, List.flatMap_nil, enc1]
    unfold en8 nums8
    rw [if_pos (by omega)]
    rfl
theorem byN_list {s : ByteArray} {i : Nat} (h : i < s.size) : (s.data.toList[i]?).map (fun c => (c.toNat : Int)) = some (byN s i : Int) := by
  rw [at_opt s i h]
  unfold byN
  simp [h]
theorem lays_nums {s : ByteArray} {l : List Int} (h : Lays s 0 l) (hs : s.size = l.length) : nums8 s.data.toList = l := by
  apply List.ext_getElem?
  intro i
  unfold nums8
  rw [List.getElem?_map]
  by_cases hi : i < s.size
  · rw [byN_list hi]
    have := (h i (by omega)).2
    rw [Nat.zero_add] at this
    rw [this, List.getElem?_eq_getElem (by omega)]
  · rw [List.getElem?_eq_none (by rw [size_list]; omega), List.getElem?_eq_none (by omega)]
    rfl
theorem nums_lays {s : ByteArray} {l : List Int} (h : nums8 s.data.toList = l) : Lays s 0 l ∧ s.size = l.length := by
  have hl : s.size = l.length := by
    rw [← h]
    unfold nums8
    rw [List.length_map, size_list]
  refine ⟨fun j hj => ⟨by omega, ?_⟩, hl⟩
  rw [Nat.zero_add]
  have hi : j < s.size := by omega
  have e := byN_list hi
  rw [← List.getElem?_map] at e
  have e2 : l[j]? = some (byN s j : Int) := by rw [← h]; exact e
  rw [List.getElem?_eq_getElem hj] at e2
  exact (Option.some.inj e2).symm
theorem dc_back (s : ByteArray) : ∀ (k i : Nat) (rs ps : List Int) (bad : Nat), (dcGo s 1 true k i rs ps bad).1 = none → i ≤ s.size → s.size ≤ i + k → ∃ L : List Int, L.all (okc 1) = true ∧ Lays s i (L.flatMap (enc 1)) ∧ s.size = i + (L.flatMap (enc 1)).length
  | 0, i, rs, ps, bad, _, h1, h2 => ⟨[], rfl, Lays.nil _ _, by simp; omega⟩
  | k + 1, i, rs, ps, bad, h, h1, h2 => by
    rcases Nat.lt_or_ge i s.size with hi | hi
    · rw [dc_step hi] at h
      split at h
      · rw [if_pos rfl] at h
        cases h
      · rename_i hne
        obtain ⟨b1, b2, b3⟩ := tkAt_bwd 1 (.inl rfl) s i hi hne
        have hr := tkAt_room 1 (.inl rfl) s i hi
        have hp := enc_pos 1 (tkAt s 1 i).1
        obtain ⟨L, g1, g2, g3⟩ := dc_back s k _ _ _ _ h hr (by omega)
        refine ⟨(tkAt s 1 i).1 :: L, by rw [List.all_cons, b1, g1]; rfl, ?_, ?_⟩
        · rw [List.flatMap_cons]
          exact b2.app (by rw [← b3]; exact g2)
        · rw [List.flatMap_cons, List.length_append]
          omega
    · exact ⟨[], rfl, Lays.nil _ _, by simp; omega⟩
theorem dec_utf (s : ByteArray) : decB s = none ↔ Utf s.data.toList := by
  constructor
  · intro h
    unfold decB at h
    rw [xs_size, dc_step (by rw [xs_size]; omega), tk_ascii _ 0 (by rw [xs_size]; omega) (by rw [xs_zero]; omega), xs_zero] at h
    rw [if_neg (by decide)] at h
    obtain ⟨L, g1, g2, g3⟩ := dc_back (xs s) s.size 1 _ _ _ h (by rw [xs_size]; omega) (by rw [xs_size]; omega)
    rw [xs_size] at g3
    refine ⟨L, g1, lays_nums (fun j hj => ?_) (by omega)⟩
    obtain ⟨q1, q2⟩ := g2 j hj
    rw [Nat.add_comm 1 j, xs_at] at q2
    rw [Nat.zero_add]
    exact ⟨by omega, q2⟩
  · rintro ⟨L, g1, g2⟩
    obtain ⟨h1, h2⟩ := nums_lays g2
    have e0 : enc 1 120 = [120] := by rw [enc1]; rfl
    obtain ⟨ps, e⟩ := dc_fwd 1 (.inl rfl) (xs s) true (120 :: L) (xs s).size 0 [] [] 0 (by rw [List.all_cons, g1]; rfl) (by
      intro j hj
      rw [List.flatMap_cons, e0] at hj
      simp only [List.flatMap_cons, e0]
      simp only [List.singleton_append, List.length_cons] at hj
      rw [Nat.zero_add, xs_size]
      match j with
      | 0 => exact ⟨by omega, by rw [xs_zero]; rfl⟩
      | j + 1 =>
        obtain ⟨q1, q2⟩ := h1 j (by omega)
        rw [Nat.zero_add] at q2
        rw [xs_at]
        exact ⟨by omega, q2⟩) (by rw [List.flatMap_cons, e0, xs_size, List.length_append, h2]; simp; omega) (by omega)
    unfold decB
    rw [e]
theorem parE_ok {s : ByteArray} {x : JV} (h : parE s = .ok x) : s.size ≤ 1048576 ∧ decB s = none ∧ wholeE s = .ok x := by
  unfold parE at h
  split at h
  · cases h
  · rename_i hs
    split at h
    · cases h
    · rename_i hd
      exact ⟨by omega, hd, h⟩
theorem bB_utf (bk : Bool) : Utf (bB bk) := by
  cases bk with
  | false => exact Utf.nil
  | true => exact (Utf.one 32 (by decide)).app (Utf.one 10 (by decide))
theorem rest_utf (bk : Bool) : ∀ ws : List ByteArray, (∀ w ∈ ws, Utf w.data.toList) → Utf (restB bk ws)
  | [], _ => Utf.one 93 (by decide)
  | w :: ws, h => by
    rw [restB_cons]
    exact (Utf.one 44 (by decide)).app ((bB_utf bk).app ((h w (by simp)).app (rest_utf bk ws (fun v hv => h v (by simp [hv])))))
theorem lst_utf (bk : Bool) : ∀ ws : List ByteArray, (∀ w ∈ ws, Utf w.data.toList) → Utf (lstB bk ws)
  | [], _ => (Utf.one 91 (by decide)).app (Utf.one 93 (by decide))
  | w :: ws, h => (Utf.one 91 (by decide)).app ((bB_utf bk).app ((h w (by simp)).app (rest_utf bk ws (fun v hv => h v (by simp [hv])))))
/-- Values put together, as Parse tells them. -/
theorem par_lst (S : ByteArray) (bk : Bool) (ws : List ByteArray) (xs : List JV) (hw : ws.map parE = xs.map Except.ok) (hS : S.data.toList = lstB bk ws) (hl : ws.length ≤ S.size) (hs : S.size ≤ 1048576) : parE S = .ok (.node 5 ⟨#[]⟩ [] xs) ∨ ∃ k, parE S = .error (21, k) := by
  have h1 : ∀ (ws : List ByteArray) (xs : List JV), ws.map parE = xs.map Except.ok → ws.map wholeE = xs.map Except.ok ∧ ∀ w ∈ ws, Utf w.data.toList := by
    intro ws
    induction ws with
    | nil => intro xs h; exact ⟨h, fun w hw => by simp at hw⟩
    | cons w ws ih =>
      intro xs h
      match xs, h with
      | x :: xs, h =>
        rw [List.map_cons, List.map_cons] at h
        obtain ⟨hx, hr⟩ := List.cons.inj h
        obtain ⟨_, d1, d2⟩ := parE_ok hx
        obtain ⟨i1, i2⟩ := ih xs hr
        refine ⟨by rw [List.map_cons, List.map_cons, d2, i1], fun v hv => ?_⟩
        rcases List.mem_cons.1 hv with rfl | hv
        · exact (dec_utf _).1 d1
        · exact i2 v hv
  obtain ⟨g1, g2⟩ := h1 ws xs hw
  have hd : decB S = none := (dec_utf S).2 (by rw [hS]; exact lst_utf bk ws g2)
  unfold parE
  rw [if_neg (by omega), hd]
  exact lst_whole S bk ws xs g1 hS hl
end Go.Proofs.YtabhlhgfacpohaaDoor
