/- Texts of this proof, one behind the other: what each says stands ahead of it. -/
import Derived.Test.YtjpmjcadnnglnaaDoorQVq
import Derived.Test.YtjpmjcadnnglnaaDoorQVl
import Derived.Test.YtjpmjcadnnglnaaDoorM11
import Derived.Test.YtjpmjcadnnglnaaDoorSg
import Derived.Test.YtjpmjcadnnglnaaDoorVp
/- JSON, plain: texts that are UTF-8, put together, are; what Parse tells of values put together; no condition. -/
namespace Go.Proofs.YtjpmjcadnnglnaaDoor
open Go.RowKit
open Go.Lib

def nums8 (l : Bs) : List Int := l.map fun c => (c.toNat : Int)
/-- Bytes that are UTF-8. -/
def Utf (l : Bs) : Prop := ∃ L : List Int, L.all (okc 1) = true ∧ nums8 l = L.flatMap (enc 1)
theorem Utf.app {a b : Bs} (h1 : Utf a) (h2 : Utf b) : Utf (a ++ b) := by
  obtain ⟨L, hL, e1⟩ := h1
  obtain ⟨M, hM, e2⟩ := h2
  refine ⟨L ++ M, by rw [List.all_append, hL, hM]; rfl, ?_⟩
  unfold nums8 at *
  rw [List.map_append, List.flatMap_append, e1, e2]
theorem Utf.nil : Utf [] := ⟨[], rfl, rfl⟩
theorem Utf.one (c : UInt8) (h : c.toNat < 128) : Utf [c] := by
  refine ⟨[(c.toNat : Int)], ?_, ?_⟩
  · unfold okc scB
    simp
    omega
  · rw [List.flatMap_cons, List.flatMap_nil, enc1]
    unfold en8 nums8
    rw [if_pos (by omega)]
    rfl
theorem byN_list {s : ByteArray} {i : Nat} (h : i < s.size) : (s.data.toList[i]?).map (fun c => (c.toNat : Int)) = some (byN s i : Int) := by
  rw [at_opt s i h]
  unfold byN
  simp [h]
theorem lays_nums {s : ByteArray} {l : List Int} (h : Lays s 0 l) (hs : s.size = l.length) : nums8 s.data.toList = l := by
  apply List.ext_getElem?
  intro i
  unfold nums8
  rw [List.getElem?_map]
  by_cases hi : i < s.size
  · rw [byN_list hi]
    have := (h i (by omega)).2
    rw [Nat.zero_add] at this
    rw [this, List.getElem?_eq_getElem (by omega)]
  · rw [List.getElem?_eq_none (by rw [size_list]; omega), List.getElem?_eq_none (by omega)]
    rfl
theorem nums_lays {s : ByteArray} {l : List Int} (h : nums8 s.data.toList = l) : Lays s 0 l ∧ s.size = l.length := by
  have hl : s.size = l.length := by
    rw [← h]
    unfold nums8
    rw [List.length_map, size_list]
  refine ⟨fun j hj => ⟨by omega, ?_⟩, hl⟩
  rw [Nat.zero_add]
  have hi : j < s.size := by omega
  have e := byN_list hi
  rw [← List.getElem?_map] at e
  have e2 : l[j]? = some (byN s j : Int) := by rw [← h]; exact e
  rw [List.getElem?_eq_getElem hj] at e2
  exact (Option.some.inj e2).symm
theorem dc_back (s : ByteArray) : ∀ (k i : Nat) (rs ps : List Int) (bad : Nat), (dcGo s 1 true k i rs ps bad).1 = none → i ≤ s.size → s.size ≤ i + k → ∃ L : List Int, L.all (okc 1) = true ∧ Lays s i (L.flatMap (enc 1)) ∧ s.size = i + (L.flatMap (enc 1)).length
  | 0, i, rs, ps, bad, _, h1, h2 => ⟨[], rfl, Lays.nil _ _, by simp; omega⟩
  | k + 1, i, rs, ps, bad, h, h1, h2 => by
    rcases Nat.lt_or_ge i s.size with hi | hi
    · rw [dc_step hi] at h
      split at h
      · rw [if_pos rfl] at h
        cases h
      · rename_i hne
        obtain ⟨b1, b2, b3⟩ := tkAt_bwd 1 (.inl rfl) s i hi hne
        have hr := tkAt_room 1 (.inl rfl) s i hi
        have hp := enc_pos 1 (tkAt s 1 i).1
        obtain ⟨L, g1, g2, g3⟩ := dc_back s k _ _ _ _ h hr (by omega)
        refine ⟨(tkAt s 1 i).1 :: L, by rw [List.all_cons, b1, g1]; rfl, ?_, ?_⟩
        · rw [List.flatMap_cons]
          exact b2.app (by rw [← b3]; exact g2)
        · rw [List.flatMap_cons, List.length_append]
          omega
    · exact ⟨[], rfl, Lays.nil _ _, by simp; omega⟩
theorem dec_utf (s : ByteArray) : decB s = none ↔ Utf s.data.toList := by
  constructor
  · intro h
    unfold decB at h
    rw [xs_size, dc_step (by rw [xs_size]; omega), tk_ascii _ 0 (by rw [xs_size]; omega) (by rw [xs_zero]; omega), xs_zero] at h
    rw [if_neg (by decide)] at h
    obtain ⟨L, g1, g2, g3⟩ := dc_back (xs s) s.size 1 _ _ _ h (by rw [xs_size]; omega) (by rw [xs_size]; omega)
    rw [xs_size] at g3
    refine ⟨L, g1, lays_nums (fun j hj => ?_) (by omega)⟩
    obtain ⟨q1, q2⟩ := g2 j hj
    rw [Nat.add_comm 1 j, xs_at] at q2
    rw [Nat.zero_add]
    exact ⟨by omega, q2⟩
  · rintro ⟨L, g1, g2⟩
    obtain ⟨h1, h2⟩ := nums_lays g2
    have e0 : enc 1 120 = [120] := by rw [enc1]; rfl
    obtain ⟨ps, e⟩ := dc_fwd 1 (.inl rfl) (xs s) true (120 :: L) (xs s).size 0 [] [] 0 (by rw [List.all_cons, g1]; rfl) (by
      intro j hj
      rw [List.flatMap_cons, e0] at hj
      simp only [List.flatMap_cons, e0]
      simp only [List.singleton_append, List.length_cons] at hj
      rw [Nat.zero_add, xs_size]
      match j with
      | 0 => exact ⟨by omega, by rw [xs_zero]; rfl⟩
      | j + 1 =>
        obtain ⟨q1, q2⟩ := h1 j (by omega)
        rw [Nat.zero_add] at q2
        rw [xs_at]
        exact ⟨by omega, q2⟩) (by rw [List.flatMap_cons, e0, xs_size, List.length_append, h2]; simp; omega) (by omega)
    unfold decB
    rw [e]
theorem parE_ok {s : ByteArray} {x : JV} (h : parE s = .ok x) : s.size ≤ 1048576 ∧ decB s = none ∧ wholeE s = .ok x := by
  unfold parE at h
  split at h
  · cases h
  · rename_i hs
    split at h
    · cases h
    · rename_i hd
      exact ⟨by omega, hd, h⟩
theorem bB_utf (bk : Bool) : Utf (bB bk) := by
  cases bk with
  | false => exact Utf.nil
  | true => exact (Utf.one 32 (by decide)).app (Utf.one 10 (by decide))
theorem rest_utf (bk : Bool) : ∀ ws : List ByteArray, (∀ w ∈ ws, Utf w.data.toList) → Utf (restB bk ws)
  | [], _ => Utf.one 93 (by decide)
  | w :: ws, h => by
    rw [restB_cons]
    exact (Utf.one 44 (by decide)).app ((bB_utf bk).app ((h w (by simp)).app (rest_utf bk ws (fun v hv => h v (by simp [hv])))))
theorem lst_utf (bk : Bool) : ∀ ws : List ByteArray, (∀ w ∈ ws, Utf w.data.toList) → Utf (lstB bk ws)
  | [], _ => (Utf.one 91 (by decide)).app (Utf.one 93 (by decide))
  | w :: ws, h => (Utf.one 91 (by decide)).app ((bB_utf bk).app ((h w (by simp)).app (rest_utf bk ws (fun v hv => h v (by simp [hv])))))
/-- Values put together, as Parse tells them. -/
theorem par_lst (S : ByteArray) (bk : Bool) (ws : List ByteArray) (xs : List JV) (hw : ws.map parE = xs.map Except.ok) (hS : S.data.toList = lstB bk ws) (hl : ws.length ≤ S.size) (hs : S.size ≤ 1048576) : parE S = .ok (.node 5 ⟨#[]⟩ [] xs) ∨ ∃ k, parE S = .error (21, k) := by
  have h1 : ∀ (ws : List ByteArray) (xs : List JV), ws.map parE = xs.map Except.ok → ws.map wholeE = xs.map Except.ok ∧ ∀ w ∈ ws, Utf w.data.toList := by
    intro ws
    induction ws with
    | nil => intro xs h; exact ⟨h, fun w hw => by simp at hw⟩
    | cons w ws ih =>
      intro xs h
      match xs, h with
      | x :: xs, h =>
        rw [List.map_cons, List.map_cons] at h
        obtain ⟨hx, hr⟩ := List.cons.inj h
        obtain ⟨_, d1, d2⟩ := parE_ok hx
        obtain ⟨i1, i2⟩ := ih xs hr
        refine ⟨by rw [List.map_cons, List.map_cons, d2, i1], fun v hv => ?_⟩
        rcases List.mem_cons.1 hv with rfl | hv
        · exact (dec_utf _).1 d1
        · exact i2 v hv
  obtain ⟨g1, g2⟩ := h1 ws xs hw
  have hd : decB S = none := (dec_utf S).2 (by rw [hS]; exact lst_utf bk ws g2)
  unfold parE
  rw [if_neg (by omega), hd]
  exact lst_whole S bk ws xs g1 hS hl
end Go.Proofs.YtjpmjcadnnglnaaDoor

/- JsonLists: what its walk asks; no condition. -/
namespace Go.Proofs.YtjpmjcadnnglnaaDoor
open Go.RowKit
open Go.Lib

/-- Texts that were handed in. -/
def SR2 (w : World) (a : Option Addr) (n : Nat) (X : Nat → ByteArray) : Prop := n = 0 ∨ ∃ x, a = some x ∧ x.block < w.heap.size ∧ ∀ i, i < n → w.cell? (x.add i) = some (.string (X i))
theorem SR2.new {w w' : World} {a : Option Addr} {n : Nat} {X : Nat → ByteArray} (h : SR2 w a n X) (t : Touch (fun _ => False) w w') : SR2 w' a n X := by
  rcases h with h | ⟨x, rfl, hb, hc⟩
  · exact .inl h
  · exact .inr ⟨x, rfl, Nat.lt_of_lt_of_le hb t.size, fun i hi => (t.cell (p := x.add i) (by rw [add_block]; exact hb) id).trans (hc i hi)⟩
/-! ### What is wrong has a number -/
def ErrN {α : Type} (r : JR α) : Prop := ∀ c k, r = .error (c, k) → c ≠ 0
theorem err_one {s : ByteArray} {kd : Int} {f : Nat → JR (JV × Nat)} (H : ∀ t, ErrN (f t)) (t : Nat) : ErrN (oneE s kd f t) := by
  intro c k h
  unfold oneE at h
  split at h
  · unfold keyE at h
    split at h
    · cases h; decide
    · split at h
      · cases h; decide
      · split at h
        · rename_i e he
          cases h
          exact H _ c k he
        · cases h
  · unfold lstE at h
    split at h
    · rename_i e he
      cases h
      exact H _ c k he
    · cases h
theorem err_tl {s : ByteArray} {one : Nat → JR (ByteArray × JV × Nat)} (H : ∀ t, ErrN (one t)) : ∀ (f u : Nat), ErrN (tlF s one f u)
  | 0, u => fun c k h => by
    rw [tlF] at h
    cases h
  | f + 1, u => fun c k h => by
    rw [tlF] at h
    split at h
    · split at h
      · rename_i e he
        cases h
        exact H _ c k he
      · rename_i k2 x v hv
        cases hr : tlF s one f v with
        | error e =>
          rw [hr] at h
          cases h
          exact err_tl H f v c k hr
        | ok p => rw [hr] at h; cases h
    · cases h
theorem err_row {s : ByteArray} {cl : Int} {one : Nat → JR (ByteArray × JV × Nat)} (H : ∀ t, ErrN (one t)) (t : Nat) : ErrN (rowE s cl one t) := by
  intro c k h
  unfold rowE at h
  split at h
  · cases h
  · split at h
    · rename_i e he
      cases h
      exact H _ c k he
    · rename_i k2 x u hu
      cases hr : tlF s one s.size u with
      | error e =>
        rw [hr] at h
        cases h
        exact err_tl H _ _ c k hr
      | ok p =>
        obtain ⟨l, v⟩ := p
        rw [hr] at h
        unfold pre endE at h
        simp only at h
        split at h
        · cases h
        · cases h; decide
theorem err_val {s : ByteArray} {sub : Option (Nat → JR (JV × Nat))} (H : ∀ f, sub = some f → ∀ t, ErrN (f t)) (t : Nat) : ErrN (valE s sub t) := by
  have hw : ∀ p kd t c k, wordE s p kd t = .error (c, k) → c ≠ 0 := by
    intro p kd t c k h
    unfold wordE at h
    split at h
    · cases h; decide
    · cases h
  have hn : ∀ kd cl t c k, nodeE s kd cl sub t = .error (c, k) → c ≠ 0 := by
    intro kd cl t c k h
    unfold nodeE at h
    split at h
    · cases h; decide
    · rename_i f
      split at h
      · rename_i e he
        cases h
        exact err_row (err_one (H f rfl)) _ c k he
      · cases h
  intro c k h
  unfold valE at h
  split at h
  · rename_i e he
    cases h
    unfold bareE at he
    split at he
    · exact hw _ _ _ _ _ he
    split at he
    · exact hw _ _ _ _ _ he
    split at he
    · exact hw _ _ _ _ _ he
    split at he
    · unfold textE at he
      split at he
      · cases he; decide
      · cases he
    split at he
    · exact hn _ _ _ _ _ he
    split at he
    · exact hn _ _ _ _ _ he
    · unfold numbE at he
      split at he
      · cases he; decide
      · cases he
  · cases h
theorem err_valF (s : ByteArray) : ∀ n t, ErrN (valF s n t)
  | 0, t => err_val (sub := none) (fun f e => by cases e) t
  | n + 1, t => err_val (sub := some fun u => valF s n u) (fun f e => by cases e; exact err_valF s n) t
theorem err_par {s : ByteArray} {c k : Nat} (h : parE s = .error (c, k)) : c ≠ 0 := by
  unfold parE at h
  split at h
  · cases h; decide
  · split at h
    · cases h; decide
    · unfold wholeE at h
      cases hv : valF s 32 0 with
      | error e =>
        rw [hv] at h
        cases h
        exact err_valF s 32 0 c k hv
      | ok p =>
        obtain ⟨x, u⟩ := p
        rw [hv] at h
        unfold endsE at h
        simp only at h
        split at h
        · cases h
        · cases h; decide

/-! ### The text that is put together -/
def preB (bk : Bool) : List ByteArray → Bs
  | [] => [91]
  | w :: ws => 91 :: (bB bk ++ (w.data.toList ++ ws.flatMap (fun w => 44 :: (bB bk ++ w.data.toList))))
theorem preB_end (bk : Bool) (ws : List ByteArray) : preB bk ws ++ [93] = lstB bk ws := by
  match ws with
  | [] => rfl
  | w :: ws =>
    unfold preB lstB restB
    simp
theorem preB_more (bk : Bool) (ws : List ByteArray) (w : ByteArray) : preB bk (ws ++ [w]) = preB bk ws ++ ((if ws = [] then [] else [44]) ++ (bB bk ++ w.data.toList)) := by
  match ws with
  | [] => simp [preB]
  | v :: ws => simp [preB]
theorem flat_len9 (bk : Bool) : ∀ ws : List ByteArray, (∀ w ∈ ws, w.size ≤ 9000) → (ws.flatMap (fun w => 44 :: (bB bk ++ w.data.toList))).length ≤ 9003 * ws.length
  | [], _ => by simp
  | w :: ws, h => by
    have h1 := flat_len9 bk ws (fun v hv => h v (by simp [hv]))
    have h2 := h w (by simp)
    have h3 : (bB bk).length ≤ 2 := by cases bk <;> decide
    have h4 := size_list w
    rw [List.flatMap_cons]
    simp only [List.length_append, List.length_cons]
    omega
theorem preB_len (bk : Bool) (ws : List ByteArray) (h : ∀ w ∈ ws, w.size ≤ 9000) : (preB bk ws).length ≤ 1 + 9003 * ws.length ∧ ws.length ≤ (preB bk ws).length := by
  have hf : ∀ l : List ByteArray, l.length ≤ (l.flatMap (fun w => 44 :: (bB bk ++ w.data.toList))).length := by
    intro l
    induction l with
    | nil => simp
    | cons a l ih =>
      rw [List.flatMap_cons]
      simp only [List.length_append, List.length_cons]
      omega
  match ws with
  | [] => simp [preB]
  | w :: ws =>
    have h1 := flat_len9 bk ws (fun v hv => h v (by simp [hv]))
    have h5 := hf ws
    have h2 := h w (by simp)
    have h3 : (bB bk).length ≤ 2 := by cases bk <;> decide
    have h4 := size_list w
    unfold preB
    simp only [List.length_append, List.length_cons]
    omega
theorem app_list (a b : ByteArray) : (a ++ b).data.toList = a.data.toList ++ b.data.toList := by simp

/-! ### The values that are wanted -/
structure WL (w0 w : World) (v7 : Value) (cs : List Cel) (xs : List JV) (B : Nat → Prop) : Prop where
  kids : CL w v7 cs
  len : cs.length = xs.length
  trees : ∀ (i : Nat) (c : Cel) (x : JV), cs[i]? = some c → xs[i]? = some x → TV w B c x
  newB : ∀ g, B g → w0.heap.size ≤ g ∧ g < w.heap.size
  apB : ∀ g, B g → v7.ownBlock ≠ some g
  new7 : ∀ g, v7.ownBlock = some g → w0.heap.size ≤ g
  touch : Touch (fun _ => False) w0 w
theorem WL.new {w0 w w' : World} {v7 : Value} {cs : List Cel} {xs : List JV} {B : Nat → Prop} (h : WL w0 w v7 cs xs B) (t : Touch (fun _ => False) w w') : WL w0 w' v7 cs xs B :=
  ⟨rowKept h.kids t (fun _ _ e => e), h.len, fun i c x e1 e2 => (h.trees i c x e1 e2).kept t (fun _ _ e => e), fun g e => by have := h.newB g e; have := t.size; omega, h.apB, h.new7, h.touch.trans t (fun _ _ e => e)⟩
/-- One more. -/
theorem WL.push {w0 w1 w2 w3 : World} {a7 : Option Addr} {n7 c7 : Nat} {cs : List Cel} {xs : List JV} {B B2 : Nat → Prop} {c : Cel} {x : JV} {v' : Value} {o : Obj} (h : WL w0 w2 (.slice a7 n7 c7) cs xs B) (h1 : ∀ g, (Value.slice a7 n7 c7).ownBlock = some g → g < w1.heap.size) (hsz : w0.heap.size ≤ w1.heap.size)
    (tv : TV w2 B2 c x) (hB2 : ∀ g, B2 g → w1.heap.size ≤ g ∧ g < w2.heap.size) (hn : n7 = cs.length) (hown : w3.ownsRow 0 36 4 v' (n7 + 1) (cs.flatMap Cel.cells ++ c.cells)) (hg : (w2.alloc o).grownBy w3 (Value.slice a7 n7 c7).ownBlock)
    (hat : v'.ownBlock = (Value.slice a7 n7 c7).ownBlock ∨ v'.ownBlock = some (w2.heap.size + 1)) : WL w0 w3 v' (cs ++ [c]) (xs ++ [x]) (fun g => B g ∨ B2 g) := by
  have T : Touch (fun k => (Value.slice a7 n7 c7).ownBlock = some k) w2 w3 := Touch.grown ((Touch.refl _ w2).alloc o) hg (fun k e _ => e)
  have hap : ∀ g, (B g ∨ B2 g) → (Value.slice a7 n7 c7).ownBlock ≠ some g := by
    intro g e e2
    rcases e with e | e
    · exact h.apB g e e2
    · have := hB2 g e
      have := h1 g e2
      omega
  have hlt : ∀ g, (B g ∨ B2 g) → w0.heap.size ≤ g ∧ g < w2.heap.size := by
    intro g e
    rcases e with e | e
    · exact h.newB g e
    · have := hB2 g e
      omega
  refine ⟨?_, by rw [List.length_append, List.length_append, h.len]; rfl, ?_, fun g e => by have := hlt g e; have := T.size; omega, ?_, ?_, Touch.trans (S := fun _ => False) h.touch T (fun i hi e => by have := h.new7 i e; omega)⟩
  · unfold CL
    rw [List.length_append, List.length_singleton, ← hn, List.flatMap_append]
    have e : [c].flatMap Cel.cells = c.cells := by simp
    rw [e]
    exact hown
  · intro i c' x' e1 e2
    by_cases hi : i < cs.length
    · rw [List.getElem?_append_left hi] at e1
      rw [List.getElem?_append_left (by rw [← h.len]; exact hi)] at e2
      exact ((h.trees i c' x' e1 e2).kept T (fun g e e2 => h.apB g e e2)).more (fun g e => .inl e)
    · have hi2 : i = cs.length := by
        obtain ⟨hlt, _⟩ := List.getElem?_eq_some_iff.1 e1
        rw [List.length_append, List.length_singleton] at hlt
        omega
      subst hi2
      rw [List.getElem?_append_right (Nat.le_refl _), Nat.sub_self] at e1
      rw [h.len, List.getElem?_append_right (Nat.le_refl _), Nat.sub_self] at e2
      cases e1
      cases e2
      exact (tv.kept T (fun g e e2 => hap g (.inr e) e2)).more (fun g e => .inr e)
  · intro g e e2
    rcases hat with e3 | e3
    · exact hap g e (by rw [← e3]; exact e2)
    · rw [e3] at e2
      cases e2
      have := hlt _ e
      omega
  · intro g e
    rcases hat with e3 | e3
    · exact h.new7 g (by rw [← e3]; exact e)
    · rw [e3] at e
      cases e
      have := h.touch.size
      omega
end Go.Proofs.YtjpmjcadnnglnaaDoor
