/- JSON, plain: values put together in brackets are read as a list of them, or too many brackets stand around one another; no condition. -/
import Derived.Test.YtabhlhgfacpohaaDoorVr
import Derived.Test.YtabhlhgfacpohaaDoorVl
import Derived.Test.YtabhlhgfacpohaaDoorM19
namespace Go.Proofs.YtabhlhgfacpohaaDoor
open Go.RowKit
open Go.Lib

def bB (bk : Bool) : Bs := if bk = true then [32, 10] else []
def restB (bk : Bool) (ws : List ByteArray) : Bs := ws.flatMap (fun w => 44 :: (bB bk ++ w.data.toList)) ++ [93]
def lstB (bk : Bool) : List ByteArray → Bs
  | [] => [91, 93]
  | w :: ws => 91 :: (bB bk ++ (w.data.toList ++ restB bk ws))
theorem at_skip {S : ByteArray} {t : Nat} : ∀ (a : Bs) {R : Bs}, At S t (a ++ R) → At S (t + a.length) R := by
  intro a
  induction a generalizing t with
  | nil => intro R h; exact h
  | cons c a ih =>
    intro R h
    have := ih (at_lk (m := a ++ R) h).2
    rw [List.length_cons, show t + (a.length + 1) = t + 1 + a.length by omega]
    exact this
theorem win_at {w S : ByteArray} {o : Nat} {c : UInt8} {R : Bs} (h : At S o (w.data.toList ++ c :: R)) (hc : c = 44 ∨ c = 93) : Win w S o ∧ At S (o + w.size) (c :: R) ∧ o + w.size ≤ S.size := by
  have h2 := at_skip w.data.toList h
  rw [size_list] at h2
  have h3 := at_lk h2
  refine ⟨⟨fun i hi => ?_, ?_⟩, h2, ?_⟩
  · have : S.data.toList[o + i]? = w.data.toList[i]? := by
      have e := congrArg (fun l => l[i]?) h
      simp only [List.getElem?_drop] at e
      rw [e, List.getElem?_append_left (by rw [size_list]; exact hi)]
    unfold lk
    rw [this]
  · rw [h3.1]
    rcases hc with rfl | rfl
    · exact .inl rfl
    · exact .inr rfl
  · have := lk_lt' h3.1
    omega
theorem bl_skip {S : ByteArray} {t : Nat} (h : blank (lk S t)) : bl S t = bl S (t + 1) := by
  rw [bl_at, if_pos h]
theorem bl_no (S : ByteArray) (t : Nat) : ¬ blank (lk S (bl S t)) := by
  suffices h : ∀ n t, S.size ≤ t + n → ¬ blank (lk S (bl S t)) from h S.size t (by omega)
  intro n
  induction n with
  | zero =>
    intro t ht
    have : lk S t = -1 := lk_out (by omega)
    rw [bl_at, if_neg (by rw [this]; unfold blank; decide), this]
    unfold blank
    decide
  | succ n ih =>
    intro t ht
    rw [bl_at]
    split
    · exact ih (t + 1) (by omega)
    · assumption
theorem valE_bl {S : ByteArray} {sub : Option (Nat → JR (JV × Nat))} {t u : Nat} (h : bl S t = bl S u) : valE S sub t = valE S sub u := by
  unfold valE
  rw [h]
theorem valF_bl {S : ByteArray} {n t u : Nat} (h : bl S t = bl S u) : valF S n t = valF S n u := by
  match n with
  | 0 => exact valE_bl h
  | n + 1 => exact valE_bl h
theorem bl_bB {S : ByteArray} {t : Nat} {bk : Bool} {R : Bs} (h : At S t (bB bk ++ R)) : bl S t = bl S (t + (bB bk).length) ∧ At S (t + (bB bk).length) R := by
  refine ⟨?_, at_skip _ h⟩
  cases bk with
  | false => rfl
  | true =>
    have h1 := at_lk (c := 32) (m := 10 :: R) h
    have h2 := at_lk (c := 10) (m := R) h1.2
    rw [bl_skip (by rw [h1.1]; exact .inl rfl), bl_skip (t := t + 1) (by rw [h2.1]; exact .inr (.inr (.inl rfl)))]
    rfl
theorem whole_val {w : ByteArray} {x : JV} (h : wholeE w = .ok x) : valF w 32 0 = .ok (x, w.size) := by
  unfold wholeE at h
  cases hR : valF w 32 0 with
  | error e => rw [hR] at h; cases h
  | ok p =>
    obtain ⟨y, u⟩ := p
    rw [hR] at h
    unfold endsE at h
    simp only at h
    split at h
    · rename_i hu
      cases h
      rw [hu]
    · cases h
theorem item_at {w S : ByteArray} {x : JV} {t : Nat} {bk : Bool} {c : UInt8} {R : Bs} (n : Nat) (hw : wholeE w = .ok x) (h : At S t (bB bk ++ (w.data.toList ++ c :: R))) (hc : c = 44 ∨ c = 93) : Or21 (valF S n t) (x, t + (bB bk).length + w.size) ∧ At S (t + (bB bk).length + w.size) (c :: R) := by
  obtain ⟨h1, h2⟩ := bl_bB h
  obtain ⟨W, h3, h4⟩ := win_at h2 hc
  rw [valF_bl h1]
  exact ⟨W.valF h4 32 n 0 x w.size (Nat.zero_le _) (whole_val hw), h3⟩
theorem restB_cons (bk : Bool) (w : ByteArray) (ws : List ByteArray) : restB bk (w :: ws) = 44 :: (bB bk ++ (w.data.toList ++ restB bk ws)) := by
  unfold restB
  rw [List.flatMap_cons]
  simp
theorem restB_head (bk : Bool) (ws : List ByteArray) : ∃ c R, restB bk ws = c :: R ∧ (c = 44 ∨ c = 93) := by
  match ws with
  | [] => exact ⟨93, [], rfl, .inr rfl⟩
  | w :: ws => exact ⟨44, _, restB_cons bk w ws, .inl rfl⟩
def emp (x : JV) : ByteArray × JV := (⟨#[]⟩, x)
theorem one_lst (S : ByteArray) (sub : Nat → JR (JV × Nat)) : oneE S 5 sub = lstE sub := if_neg (by decide)
theorem tl_items (S : ByteArray) (bk : Bool) (n : Nat) : ∀ (ws : List ByteArray) (xs : List JV) (f u : Nat), ws.map wholeE = xs.map Except.ok → ws.length ≤ f → At S u (restB bk ws) → ∃ v, Or21 (tlF S (lstE (valF S n)) f u) (xs.map emp, v) ∧ At S v [93]
  | [], xs, f, u, hw, _, h => by
    match xs, hw with
    | [], _ =>
      have h1 := at_lk (c := 93) (m := []) h
      exact ⟨u, .inl (tl_end2 (by rw [h1.1]; decide)), h⟩
  | w :: ws, xs, f, u, hw, hf, h => by
    match xs, hw with
    | x :: xs, hw =>
      rw [List.map_cons, List.map_cons] at hw
      obtain ⟨hx, hws⟩ := List.cons.inj hw
      rw [List.length_cons] at hf
      obtain ⟨f', rfl⟩ : ∃ f', f = f' + 1 := ⟨f - 1, by omega⟩
      rw [restB_cons] at h
      have h1 := at_lk h
      obtain ⟨c, R, hR, hc⟩ := restB_head bk ws
      have h2 := h1.2
      rw [hR] at h2
      obtain ⟨g1, g2⟩ := item_at n hx h2 hc
      have h44 : lk S u = 44 := h1.1
      rw [tlF, if_pos h44]
      unfold lstE at *
      rcases g1 with e | ⟨k, e⟩
      · rw [← hR] at g2
        obtain ⟨v, q1, q2⟩ := tl_items S bk n ws xs f' _ hws (by omega) g2
        refine ⟨v, ?_, q2⟩
        rw [e]
        simp only
        exact q1.pre [emp x]
      · rw [← hR] at g2
        obtain ⟨v, q1, q2⟩ := tl_items S bk n ws xs f' _ hws (by omega) g2
        refine ⟨v, .inr ⟨k, ?_⟩, q2⟩
        rw [e]
theorem num_no {w : ByteArray} {t : Nat} (h : lk w t = 93) : ∃ k, numE w t = .error k := by
  have h1 : part1 w t = .error t := by
    unfold part1
    rw [show stp w t 45 = t from if_neg (by rw [h]; decide), if_neg (by rw [h]; decide)]
    unfold dgE
    rw [show dgn (w.data.toList.drop t) = 0 from by rw [dg_at, if_neg (by rw [h]; omega)]]
    rfl
  refine ⟨t, ?_⟩
  unfold numE
  rw [h1]
theorem at_end {S : ByteArray} {v : Nat} {c : UInt8} (h : At S v [c]) : v + 1 = S.size := by
  have h1 := at_lk h
  have := lk_lt' h1.1
  have e : (S.data.toList.drop v).length = 1 := by rw [show S.data.toList.drop v = [c] from h]; rfl
  rw [List.length_drop, size_list] at e
  omega
/-- Values put together. -/
theorem lst_whole (S : ByteArray) (bk : Bool) (ws : List ByteArray) (xs : List JV) (hw : ws.map wholeE = xs.map Except.ok) (hS : S.data.toList = lstB bk ws) (hl : ws.length ≤ S.size) : wholeE S = .ok (.node 5 ⟨#[]⟩ [] xs) ∨ ∃ k, wholeE S = .error (21, k) := by
  have h0 : At S 0 (lstB bk ws) := hS
  have key : Or21 (rowE S 93 (oneE S 5 (valF S 31)) 0) (xs.map emp, S.size) ∧ lk S 0 = 91 := by
    rw [one_lst]
    unfold rowE
    match ws, xs, hw with
    | [], [], _ =>
      have h1 := at_lk (c := 91) (m := [93]) h0
      have h2 := at_lk (c := 93) (m := []) h1.2
      have h3 := at_end (c := 93) h1.2
      refine ⟨.inl ?_, h1.1⟩
      rw [show bl S (0 + 1) = 1 from by rw [bl_at, if_neg (by rw [h2.1]; unfold blank; decide)], if_pos (show lk S 1 = 93 from h2.1), ← h3]
      rfl
    | w :: ws, x :: xs, hw =>
      rw [List.map_cons, List.map_cons] at hw
      obtain ⟨hx, hws⟩ := List.cons.inj hw
      have h1 := at_lk (c := 91) h0
      obtain ⟨c, R, hR, hc⟩ := restB_head bk ws
      have h2 := h1.2
      rw [hR] at h2
      have hwv := valF_some w 32 0 x w.size (Nat.zero_le _) (whole_val hx)
      obtain ⟨hb1, hb2⟩ := bl_bB h2
      obtain ⟨W, h3, h4⟩ := win_at hb2 hc
      have hvx := whole_val hx
      have hblw : bl w 0 < w.size := by
        have : valE w (some fun u => valF w 31 u) 0 = .ok (x, w.size) := hvx
        unfold valE at this
        split at this
        · cases this
        · rename_i y v hv
          exact bare_some w _ _ y v (bl_le w 0 (Nat.zero_le _)) hv
      have hne : lk S (bl S (0 + 1)) ≠ 93 := by
        rw [hb1]
        have hbw := W.blank (t := 0) (Nat.zero_le _)
        rw [Nat.add_zero] at hbw
        rw [hbw, W.at' _ hblw]
        intro e93
        have : valE w (some fun u => valF w 31 u) 0 = .ok (x, w.size) := hvx
        unfold valE bareE at this
        rw [e93, if_neg (by omega), if_neg (by omega), if_neg (by omega), if_neg (by omega), if_neg (by omega), if_neg (by omega)] at this
        unfold numbE at this
        obtain ⟨k, hk⟩ := num_no e93
        rw [hk] at this
        cases this
      refine ⟨?_, h1.1⟩
      rw [if_neg hne]
      have hbb : bl S (bl S (0 + 1)) = bl S (0 + 1) := by
        rw [bl_at S (bl S (0 + 1)), if_neg (bl_no S (0 + 1))]
      obtain ⟨g1, g2⟩ := item_at 31 hx h2 hc
      rw [valF_bl (n := 31) (t := 0 + 1) (u := bl S (0 + 1)) hbb.symm] at g1
      unfold lstE
      rcases g1 with e | ⟨k, e⟩
      · rw [← hR] at g2
        rw [e]
        simp only
        obtain ⟨v, q1, q2⟩ := tl_items S bk 31 ws xs S.size _ hws (by rw [List.length_cons] at hl; omega) g2
        have h93 := at_lk q2
        have hsz := at_end q2
        unfold lstE at q1
        rcases q1.pre [emp x] with e2 | ⟨k, e2⟩
        · left
          show endE S 93 (pre [emp x] _) = _
          rw [e2]
          unfold endE
          simp only
          rw [if_pos (show lk S v = 93 from h93.1), hsz]
          rfl
        · right
          refine ⟨k, ?_⟩
          show endE S 93 (pre [emp x] _) = _
          rw [e2]
          rfl
      · rw [e]
        exact .inr ⟨k, rfl⟩
  have hb0 : bl S 0 = 0 := by rw [bl_at, if_neg (by rw [key.2]; unfold blank; decide)]
  have hbe : bl S S.size = S.size := by rw [bl_at, if_neg (by rw [lk_out (Nat.le_refl _)]; unfold blank; decide)]
  have hm : (xs.map emp).map Prod.snd = xs := by
    rw [List.map_map]
    exact List.map_id xs
  have hv : Or21 (valF S 32 0) (.node 5 ⟨#[]⟩ [] xs, S.size) := by
    show Or21 (valE S (some fun u => valF S 31 u) 0) _
    unfold valE bareE nodeE
    rw [hb0, key.2, if_neg (by omega), if_neg (by omega), if_neg (by omega), if_neg (by omega), if_pos rfl]
    simp only
    rcases key.1 with e | ⟨k, e⟩
    · rw [e]
      left
      simp only
      rw [hbe, hm]
      rfl
    · rw [e]
      exact .inr ⟨k, rfl⟩
  unfold wholeE
  rcases hv with e | ⟨k, e⟩
  · rw [e]
    left
    exact if_pos rfl
  · rw [e]
    exact .inr ⟨k, rfl⟩
end Go.Proofs.YtabhlhgfacpohaaDoor
