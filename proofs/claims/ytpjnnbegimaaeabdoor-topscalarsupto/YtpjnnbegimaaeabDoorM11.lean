/- Texts of this proof, one behind the other: what each says stands ahead of it. -/
import Derived.Test.YtpjnnbegimaaeabDoorM10
import Derived.Test.YtpjnnbegimaaeabDoorM4
import Derived.Deep.RegionHeld3
import Derived.Test.YtpjnnbegimaaeabDoorM0
/- What Decode tells, scalar by scalar, without and with strict rules: plain; no condition beside those told. -/
namespace Go.Proofs.YtpjnnbegimaaeabDoor
open Go.RowKit
open Go.Lib

theorem tk8_room (r : ByteArray) (h : 1 ≤ r.size) : (tk8 r).2 ≤ r.size := by
  rw [tk8_eq]
  by_cases c1 : byN r 0 < 128
  · rw [if_pos c1]; exact h
  rw [if_neg c1]
  by_cases c2 : byN r 0 < 194
  · rw [if_pos c2]; exact h
  rw [if_neg c2]
  by_cases c3 : byN r 0 < 224
  · rw [if_pos c3]
    split
    · exact h
    · dsimp only; omega
  rw [if_neg c3]
  by_cases c4 : byN r 0 < 240
  · rw [if_pos c4]
    generalize (if byN r 0 = 224 then 160 else 128) = lo
    generalize (if byN r 0 = 237 then 159 else 191) = hi
    by_cases d1 : 1 = r.size
    · rw [if_pos (.inl d1)]; exact h
    split
    · exact h
    · split
      · dsimp only; omega
      · dsimp only; omega
  rw [if_neg c4]
  by_cases c5 : byN r 0 < 245
  · rw [if_pos c5]
    generalize (if byN r 0 = 240 then 144 else 128) = lo
    generalize (if byN r 0 = 244 then 143 else 191) = hi
    by_cases d1 : 1 = r.size
    · rw [if_pos (.inl d1)]; exact h
    split
    · exact h
    · split
      · dsimp only; omega
      · split
        · dsimp only; omega
        · dsimp only; omega
  rw [if_neg c5]
  exact h
theorem tk16_room (f : Nat) (s : ByteArray) (i : Nat) (h : i < s.size) : i + (tk16 (unitF f s) i).2 ≤ s.size := by
  unfold tk16
  by_cases c0 : unitF f s i = -1
  · rw [if_pos c0]; exact h
  have l1 := ((unit_bwd f s i c0).1 1 (by rw [enU_len]; omega)).1
  rw [if_neg c0]
  split
  · dsimp only; omega
  · split
    · dsimp only; omega
    · rename_i c2
      have l2 := ((unit_bwd f s (i + 2) (by omega)).1 1 (by rw [enU_len]; omega)).1
      dsimp only; omega
theorem tkAt_room (c : Nat) (hc : c = 1 ∨ c = 2 ∨ c = 3 ∨ c = 4) (s : ByteArray) (i : Nat) (h : i < s.size) : i + (tkAt s c i).2 ≤ s.size := by
  rcases hc with rfl | rfl | rfl | rfl
  · rw [tkAt1]
    have := tk8_room (s.extract i s.size) (by rw [rest_size]; omega)
    rw [rest_size] at this
    omega
  · rw [tkAt2]; exact tk16_room 33 s i h
  · rw [tkAt3]; exact tk16_room 34 s i h
  · rw [tkAt4]; exact h

/-- The places at which something is told. -/
def seg (s : ByteArray) (c : Nat) : Nat → Nat → List Nat
  | 0, _ => []
  | k + 1, i => if i < s.size then i :: seg s c k (i + (tkAt s c i).2) else []
def outAt (s : ByteArray) (c i : Nat) : Int := if (tkAt s c i).1 = -1 then 65533 else (tkAt s c i).1
def badAt (s : ByteArray) (c i : Nat) : Bool := decide ((tkAt s c i).1 = -1)
theorem dc_seg (s : ByteArray) (c : Nat) : ∀ (k i : Nat) (rs ps : List Int) (bad : Nat), dcGo s c false k i rs ps bad = (none, rs ++ (seg s c k i).map (outAt s c), ps ++ (seg s c k i).map (fun (p : Nat) => (p : Int)), bad + (seg s c k i).countP (badAt s c))
  | 0, i, rs, ps, bad => by simp [dcGo, seg]
  | k + 1, i, rs, ps, bad => by
    by_cases h : i < s.size
    · rw [dc_step h]
      unfold seg
      rw [if_pos h]
      by_cases hb : (tkAt s c i).1 = -1
      · have e1 : outAt s c i = 65533 := by unfold outAt; rw [if_pos hb]
        have e2 : badAt s c i = true := decide_eq_true hb
        rw [if_pos hb, if_neg (by simp), dc_seg s c k, List.map_cons, List.map_cons, List.countP_cons_of_pos e2, e1, List.append_assoc, List.append_assoc, Nat.add_assoc, Nat.add_comm 1]
        rfl
      · have e1 : outAt s c i = (tkAt s c i).1 := by unfold outAt; rw [if_neg hb]
        have e2 : ¬ badAt s c i = true := by unfold badAt; rw [decide_eq_true_eq]; exact hb
        rw [if_neg hb, dc_seg s c k, List.map_cons, List.map_cons, List.countP_cons_of_neg e2, e1, List.append_assoc, List.append_assoc]
        rfl
    · rw [dc_end (by omega)]
      unfold seg
      rw [if_neg h]
      simp
theorem dc_strict (s : ByteArray) (c : Nat) : ∀ (k i : Nat) (rs ps : List Int) (bad : Nat), (dcGo s c true k i rs ps bad).1 = none ↔ (seg s c k i).countP (badAt s c) = 0
  | 0, i, rs, ps, bad => by simp [dcGo, seg]
  | k + 1, i, rs, ps, bad => by
    by_cases h : i < s.size
    · rw [dc_step h]
      unfold seg
      rw [if_pos h]
      by_cases hb : (tkAt s c i).1 = -1
      · have e2 : badAt s c i = true := decide_eq_true hb
        rw [if_pos hb, if_pos rfl, List.countP_cons_of_pos e2]
        simp
      · have e2 : ¬ badAt s c i = true := by unfold badAt; rw [decide_eq_true_eq]; exact hb
        rw [if_neg hb, List.countP_cons_of_neg e2]
        exact dc_strict s c k _ _ _ _
    · rw [dc_end (by omega)]
      unfold seg
      rw [if_neg h]
      simp
theorem seg_head (s : ByteArray) (c k i : Nat) (hi : i ≤ s.size) (hk : s.size ≤ i + k) : (seg s c k i ++ [s.size])[0]? = some i := by
  cases k with
  | zero =>
    obtain rfl : i = s.size := by omega
    rfl
  | succ k =>
    unfold seg
    by_cases h : i < s.size
    · rw [if_pos h]; rfl
    · rw [if_neg h]
      obtain rfl : i = s.size := by omega
      rfl
theorem seg_at (s : ByteArray) (c : Nat) (hc : c = 1 ∨ c = 2 ∨ c = 3 ∨ c = 4) : ∀ (k i : Nat), i ≤ s.size → s.size ≤ i + k → ∀ j (h : j < (seg s c k i).length), (seg s c k i)[j] < s.size ∧ (seg s c k i ++ [s.size])[j + 1]? = some ((seg s c k i)[j] + (tkAt s c (seg s c k i)[j]).2)
  | 0, i, _, _, j, h => by simp [seg] at h
  | k + 1, i, hi, hk, j, h => by
    by_cases hlt : i < s.size
    · have e : seg s c (k + 1) i = i :: seg s c k (i + (tkAt s c i).2) := by
        show (if i < s.size then i :: seg s c k (i + (tkAt s c i).2) else []) = _
        rw [if_pos hlt]
      have hz := tkAt_size s c i
      have hr := tkAt_room c hc s i hlt
      simp only [e] at h ⊢
      cases j with
      | zero =>
        refine ⟨hlt, ?_⟩
        simp only [List.getElem_cons_zero, List.cons_append, List.getElem?_cons_succ]
        exact seg_head s c k _ hr (by omega)
      | succ j =>
        simp only [List.getElem_cons_succ, List.cons_append, List.getElem?_cons_succ]
        exact seg_at s c hc k _ hr (by omega) j (by simpa using h)
    · have e : seg s c (k + 1) i = [] := by
        show (if i < s.size then i :: seg s c k (i + (tkAt s c i).2) else []) = _
        rw [if_neg hlt]
      rw [e] at h
      simp at h
theorem seg_len (s : ByteArray) (c : Nat) : ∀ k i, (seg s c k i).length ≤ k
  | 0, i => Nat.le_refl _
  | k + 1, i => by
    unfold seg
    split
    · have := seg_len s c k (i + (tkAt s c i).2)
      simp only [List.length_cons]
      omega
    · simp
theorem out_ok (c : Nat) (hc : c = 1 ∨ c = 2 ∨ c = 3 ∨ c = 4) (s : ByteArray) (i : Nat) (h : i < s.size) : okc c (outAt s c i) = true := by
  unfold outAt
  split
  · rename_i e
    rcases hc with rfl | rfl | rfl | rfl
    · decide
    · decide
    · decide
    · rw [tkAt4] at e
      exact absurd e (by dsimp only; omega)
  · rename_i e
    exact (tkAt_bwd c hc s i h e).1
/-- Bytes that lie there are what is cut out. -/
theorem lays_cut (s : ByteArray) (i : Nat) (l : List Int) (h : Lays s i l) (hi : i + l.length ≤ s.size) : strOfNums l = s.extract i (i + l.length) := by
  have hin : ∀ b ∈ l, 0 ≤ b ∧ b ≤ 255 := fun b hb => by
    obtain ⟨j, hj, rfl⟩ := List.getElem_of_mem hb
    have h1 := (h j hj).2
    have h2 := by_lt s (i + j)
    omega
  obtain ⟨h1, h2⟩ := lay_str l hin
  have hsz : (s.extract i (i + l.length)).size = l.length := by rw [ByteArray.size_extract]; omega
  apply ByteArray.ext
  apply Array.ext
  · show (strOfNums l).size = (s.extract i (i + l.length)).size
    omega
  · intro j hj1 hj2
    have hj : j < l.length := by
      have : j < (strOfNums l).size := hj1
      omega
    have a1 := (h2 j hj).2
    have a2 := (h j hj)
    rw [Nat.zero_add] at a1
    unfold byN at a1 a2
    rw [dif_pos (by omega)] at a1
    rw [dif_pos a2.1] at a2
    have a3 : (strOfNums l)[j]'(by omega) = s[i + j]'a2.1 := UInt8.toNat_inj.1 (by have := a2.2; omega)
    have a4 : (s.extract i (i + l.length))[j]'(by omega) = s[i + j]'a2.1 := by rw [ByteArray.getElem_extract]
    show (strOfNums l)[j]'(by omega) = (s.extract i (i + l.length))[j]'(by omega)
    rw [a3, a4]
end Go.Proofs.YtpjnnbegimaaeabDoor

/- CodingDecodes' walk: Decode and the document's Decode hand back the same; conditions: the text is of at most 1048576 bytes. -/
namespace Go.Proofs.YtpjnnbegimaaeabDoor
open Go.RowKit

/-- A value that shows a list of ints. -/
def Sh (w : World) (v : Value) (l : List Int) : Prop := ∃ a k, v = .slice a l.length k ∧ (l = [] ∨ Ig w a l)
theorem Sh.new {w w' : World} {v : Value} {l : List Int} (h : Sh w v l) (t : Touch (fun _ => False) w w') : Sh w' v l := by
  obtain ⟨a, k, rfl, h⟩ := h
  exact ⟨a, k, rfl, h.imp id (fun h => h.new t)⟩
theorem OwI.sh {w0 w : World} {v : Value} {l : List Int} (h : OwI w0 w v l) : Sh w v l := by
  obtain ⟨a, k, rfl⟩ := own_shape h.own
  exact ⟨a, k, rfl, h.in.1.imp (fun h => h.1) id⟩
theorem sh_nil (w : World) : Sh w (.slice none 0 0) [] := ⟨none, 0, rfl, .inl rfl⟩

theorem dc_len (s : ByteArray) (c : Nat) (strict : Bool) : ∀ (k i : Nat) (rs ps : List Int) (bad : Nat), (dcGo s c strict k i rs ps bad).2.1.length ≤ rs.length + k ∧ (dcGo s c strict k i rs ps bad).2.2.1.length ≤ ps.length + k
  | 0, i, rs, ps, bad => ⟨Nat.le_refl _, Nat.le_refl _⟩
  | k + 1, i, rs, ps, bad => by
    have key : ∀ j y b, (dcGo s c strict k j (rs ++ [y]) (ps ++ [(i : Int)]) b).2.1.length ≤ rs.length + (k + 1) ∧ (dcGo s c strict k j (rs ++ [y]) (ps ++ [(i : Int)]) b).2.2.1.length ≤ ps.length + (k + 1) := fun j y b => by
      have := dc_len s c strict k j (rs ++ [y]) (ps ++ [(i : Int)]) b
      simp only [List.length_append, List.length_singleton] at this
      omega
    unfold dcGo
    split
    · split
      · split
        · exact ⟨Nat.zero_le _, Nat.zero_le _⟩
        · exact key _ _ _
      · exact key _ _ _
    · exact ⟨Nat.le_add_right _ _, Nat.le_add_right _ _⟩
theorem dc_pre (s : ByteArray) (c : Nat) : ∀ (k i : Nat) (rs ps : List Int) (bad : Nat), (dcGo s c false k i rs ps bad).1 = none ∧ ∃ t, (dcGo s c false k i rs ps bad).2.2.1 = ps ++ t
  | 0, i, rs, ps, bad => ⟨rfl, [], by simp [dcGo]⟩
  | k + 1, i, rs, ps, bad => by
    have key : ∀ j y b, (dcGo s c false k j (rs ++ [y]) (ps ++ [(i : Int)]) b).1 = none ∧ ∃ t, (dcGo s c false k j (rs ++ [y]) (ps ++ [(i : Int)]) b).2.2.1 = ps ++ t := fun j y b => by
      obtain ⟨h, t, ht⟩ := dc_pre s c k j (rs ++ [y]) (ps ++ [(i : Int)]) b
      exact ⟨h, [(i : Int)] ++ t, by rw [ht, List.append_assoc]⟩
    unfold dcGo
    split
    · split
      · split
        · rename_i h; cases h
        · exact key _ _ _
      · exact key _ _ _
    · exact ⟨rfl, [], by simp⟩
theorem dc_head (s : ByteArray) (c i : Nat) (hi : i ≤ s.size) : ((dcGo s c false s.size i [] [] 0).2.2.1 ++ [(s.size : Int)])[0]? = some (i : Int) := by
  by_cases h : i < s.size
  · obtain ⟨k, hk⟩ : ∃ k, s.size = k + 1 := ⟨s.size - 1, by omega⟩
    have key : ∀ j y b, ((dcGo s c false k j ([] ++ [y]) ([] ++ [(i : Int)]) b).2.2.1 ++ [(s.size : Int)])[0]? = some (i : Int) := fun j y b => by
      obtain ⟨_, t, ht⟩ := dc_pre s c k j ([] ++ [y]) ([] ++ [(i : Int)]) b
      rw [ht]
      rfl
    rw [show dcGo s c false s.size i [] [] 0 = dcGo s c false (k + 1) i [] [] 0 by rw [hk], dc_step h]
    split
    · rw [if_neg (by simp)]
      exact key _ _ _
    · exact key _ _ _
  · rw [dc_end (by omega), show i = s.size by omega]
    rfl

/-- The two blocks that the law keeps. -/
structure RB2 (wz : World) (q : Nat) (b0 b1 b2 b3 f0 f1 : Value) : Prop where
  a : wz.heap[q]? = some (.cells #[b0, b1, b2, b3] 24 (0, 0))
  b : wz.heap[q + 1]? = some (.cells #[f0, f1] 27 (0, 0))
theorem RB2.made (w : World) (b0 b1 b2 b3 f0 f1 : Value) : RB2 ((w.alloc (.cells #[b0, b1, b2, b3] 24)).alloc (.cells #[f0, f1] 27)) w.heap.size b0 b1 b2 b3 f0 f1 := by
  have h := block_new w #[b0, b1, b2, b3] 24
  have t := (Touch.refl (fun _ => False) (w.alloc (.cells #[b0, b1, b2, b3] 24))).alloc (.cells #[f0, f1] 27)
  refine ⟨(t.block _ (lt_of_block h) id).trans h, ?_⟩
  have k := block_new (w.alloc (.cells #[b0, b1, b2, b3] 24)) #[f0, f1] 27
  rwa [show (w.alloc (.cells #[b0, b1, b2, b3] 24)).heap.size = w.heap.size + 1 by simp] at k
theorem RB2.kept {w w' : World} {q : Nat} {b0 b1 b2 b3 f0 f1 : Value} (h : RB2 w q b0 b1 b2 b3 f0 f1) (t : Touch (fun _ => False) w w') : RB2 w' q b0 b1 b2 b3 f0 f1 :=
  ⟨(t.block _ (lt_of_block h.a) id).trans h.a, (t.block _ (lt_of_block h.b) id).trans h.b⟩
theorem four_cells' {w : World} {g : Nat} {t : TypeId} {a0 a1 a2 a3 : Value} (h : w.heap[g]? = some (.cells #[a0, a1, a2, a3] t (0, 0))) : (w.cell? ⟨g, 0, none⟩ = some a0 ∧ w.cell? ⟨g, 1, none⟩ = some a1 ∧ w.cell? ⟨g, 2, none⟩ = some a2 ∧ w.cell? ⟨g, 3, none⟩ = some a3) ∧ ∀ i, w.frozen? ⟨g, i, none⟩ = false := by simp [World.cell?, World.frozen?, h]
theorem two_cells {w : World} {g : Nat} {t : TypeId} {a0 a1 : Value} (h : w.heap[g]? = some (.cells #[a0, a1] t (0, 0))) : (w.cell? ⟨g, 0, none⟩ = some a0 ∧ w.cell? ⟨g, 1, none⟩ = some a1) ∧ ∀ i, w.frozen? ⟨g, i, none⟩ = false := by
  simp [World.cell?, World.frozen?, h]

end Go.Proofs.YtpjnnbegimaaeabDoor

/- CodingPlaces' walk: places rise, each scalar's bytes are those between two of them, or it is bad; conditions: the text is of at most 1048576 bytes. -/
namespace Go.Proofs.YtpjnnbegimaaeabDoor
open Go.RowKit
open Go.Lib

theorem sn_le (s : ByteArray) : ∀ k c, (sn s k c).2 ≤ 3
  | 0, c => by simp [sn]
  | k + 1, c => by
    unfold sn
    split
    · exact mk_size c
    · exact sn_le s k (c + 1)
theorem bg_le (s : ByteArray) (c : Nat) : (bg s c).2 ≤ 3 := by
  unfold bg
  split
  · exact sn_le s 3 1
  · split
    · exact mk_size c
    · exact Nat.zero_le _
def outL (s : ByteArray) (c : Nat) (L : List Nat) : List Int := L.map (outAt s c)
def plL (s : ByteArray) (L : List Nat) : List Int := L.map (fun (p : Nat) => (p : Int)) ++ [(s.size : Int)]
theorem plL_eq (s : ByteArray) (L : List Nat) : plL s L = (L ++ [s.size]).map (fun (p : Nat) => (p : Int)) := by
  unfold plL
  rw [List.map_append]
  rfl
theorem outL_len (s : ByteArray) (c : Nat) (L : List Nat) : (outL s c L).length = L.length := by unfold outL; rw [List.length_map]
theorem plL_len (s : ByteArray) (L : List Nat) : (plL s L).length = L.length + 1 := by unfold plL; simp
theorem plL_at (s : ByteArray) (L : List Nat) (j p : Nat) (h : (L ++ [s.size])[j]? = some p) (hj : j < (plL s L).length) : (plL s L)[j] = (p : Int) := by
  have : (plL s L)[j]? = some (p : Int) := by rw [plL_eq, List.getElem?_map, h]; rfl
  rw [List.getElem?_eq_getElem hj] at this
  exact Option.some.inj this
theorem pl_dec1 (s : ByteArray) (c : Nat) (hc : c ≤ 4) (hs : s.size ≤ 1048576) (L : List Nat) (hL : L = seg s (bg s c).1 s.size (bg s c).2) (w : World) (ht : Tabs w) :
    Calls Tryd.prog 4 #[.string s, .int .i64 (c : Nat), .bool false] w fun e w' => ∃ a1 k1 a2 k2, e = .returned (.tuple #[.agg #[.int .i64 ((bg s c).1 : Nat), .slice a1 L.length k1, .slice a2 (L.length + 1) k2, .int .i64 (L.countP (badAt s (bg s c).1) : Nat)], .agg #[.int .i64 0, .int .i64 0]]) ∧ (outL s (bg s c).1 L = [] ∨ Ig w' a1 (outL s (bg s c).1 L)) ∧ Ig w' a2 (plL s L) ∧ Touch (fun _ => False) w w' := by
  have K := decode_any s c false w ht (by omega) hc
  rw [dc_seg, ← hL] at K
  refine K.mono ?_
  rintro e w' (⟨i, h, _⟩ | ⟨_, ⟨v1, v2, rfl, o1, o2⟩⟩)
  · cases h
  · rw [List.nil_append] at o1
    simp only [List.nil_append] at o2
    obtain ⟨a1, k1, rfl, i1⟩ := o1.sh
    obtain ⟨a2, k2, rfl, i2⟩ := o2.sh
    refine ⟨a1, k1, a2, k2, ?_, i1, i2.resolve_left (by simp), o1.touch⟩
    rw [List.length_map, show (L.map (fun (p : Nat) => (p : Int)) ++ [(s.size : Int)]).length = L.length + 1 by simp, Nat.zero_add]
theorem pl_dec2 (s : ByteArray) (c : Nat) (hc : c ≤ 4) (hs : s.size ≤ 1048576) (L : List Nat) (hL : L = seg s (bg s c).1 s.size (bg s c).2) (w : World) (ht : Tabs w) :
    Calls Tryd.prog 4 #[.string s, .int .i64 (c : Nat), .bool true] w fun e w' => ∃ er ix c2 b2 a1 n1 k1 a2 n2 k2, e = .returned (.tuple #[.agg #[.int .i64 c2, .slice a1 n1 k1, .slice a2 n2 k2, .int .i64 b2], .agg #[.int .i64 er, .int .i64 ix]]) ∧ ((er = 0 ∧ L.countP (badAt s (bg s c).1) = 0) ∨ (er = 17 ∧ L.countP (badAt s (bg s c).1) ≠ 0)) ∧ Touch (fun _ => False) w w' := by
  have K := decode_any s c true w ht (by omega) hc
  have E := dc_strict s (bg s c).1 s.size (bg s c).2 [] [] 0
  rw [← hL] at E
  refine K.mono ?_
  rintro e w' (⟨i, h, ⟨rfl, t⟩⟩ | ⟨h, ⟨v1, v2, rfl, o1, o2⟩⟩)
  · refine ⟨17, i, 0, 0, none, 0, 0, none, 0, 0, rfl, .inr ⟨rfl, fun e => ?_⟩, t⟩
    rw [E.2 e] at h
    cases h
  · obtain ⟨a1, k1, rfl⟩ := own_shape o1.own
    obtain ⟨a2, k2, rfl⟩ := own_shape o2.own
    exact ⟨0, 0, _, _, a1, _, k1, a2, _, k2, rfl, .inl ⟨rfl, E.1 h⟩, o1.touch⟩
theorem pl_enc (s : ByteArray) (c : Nat) (hc : c = 1 ∨ c = 2 ∨ c = 3 ∨ c = 4) (p : Nat) (hp : p < s.size) : ∃ e1, (∀ (w : World) (b : Nat), Tabs w → Ig w (some ⟨b, 0, none⟩) [outAt s c p] → Calls Tryd.prog 8 #[.slice (some ⟨b, 0, none⟩) 1 1, .int .i64 (c : Nat), .bool false] w fun e w' => e = .returned (.tuple #[.string e1, .int .i64 0]) ∧ Touch (fun _ => False) w w') ∧ (badAt s c p = false → e1 = s.extract p (p + (tkAt s c p).2)) := by
  have hok := out_ok c hc s p hp
  have hall : [outAt s c p].all (okc c) = true := by rw [List.all_cons, hok]; rfl
  refine ⟨encS c false [outAt s c p], fun w b ht hi => ?_, fun hb => ?_⟩
  · have K := encode_any c hc (some ⟨b, 0, none⟩) 1 [outAt s c p] false w ht (.inr hi) (by simp)
    rw [encR_yes hc hall] at K
    exact K
  · have hb' : ¬ (tkAt s c p).1 = -1 := of_decide_eq_false hb
    obtain ⟨h1, h2, h3⟩ := tkAt_bwd c hc s p hp hb'
    have hr := tkAt_room c hc s p hp
    have e : outAt s c p = (tkAt s c p).1 := by unfold outAt; rw [if_neg hb']
    unfold encS fullL
    rw [if_neg (fun e => by cases e.1), e, List.flatMap_cons, List.flatMap_nil, List.append_nil, h3]
    exact lays_cut s p _ h2 (by omega)
end Go.Proofs.YtpjnnbegimaaeabDoor

/- common of two ranges; no condition. -/
namespace Go.Proofs.YtpjnnbegimaaeabDoor.S
open Go.RowKit

theorem info33 : (Tryd.prog.info? 34).map (fun i => (i.zero, i.size, i.bytes)) = some (some (.agg #[.int .i64 0, .int .i64 0]), 2, 16) := by kernel_rfl

theorem ret_two {a b c d : Int} (h : a = c) (k : b = d) : Ending.returned (.agg #[.int .i64 a, .int .i64 b]) = .returned (.agg #[.int .i64 c, .int .i64 d]) := by rw [h, k]
theorem third_new (w : World) (o1 o2 o3 : Obj) : (((w.alloc o1).alloc o2).alloc o3).heap[w.heap.size + 1 + 1]? = some o3 := by
  show (((w.heap.push _).push _).push _)[_]? = _
  rw [Array.getElem?_push]
  simp
theorem three_new {w : World} (x y : Value) (t : TypeId) : (w.alloc (.cells #[x, y] t)).heap[w.heap.size]? = some (.cells #[x, y] t (0, 0)) := by
  show (w.heap.push _)[_]? = _
  simp

set_option maxRecDepth 100000 in
theorem common_any (a b c d : Int) (w : World) : Calls Tryd.prog 11 #[.agg #[.int .i64 a, .int .i64 b], .agg #[.int .i64 c, .int .i64 d]] w fun e w' => e = .returned (.agg #[.int .i64 (max a c), .int .i64 (min b d)]) ∧ Touch (fun _ => False) w w' := by
  go_enter Tryd.func11, Tryd.ntmps11
  go_wp2
  all_goals
    refine bodyPost_ret (results_c rfl _ _ (w.heap.size + 1 + 1) 34 _ (0, 0) _ rfl (third_new w _ _ _) Tryd.underlying34 rfl (by kernel_rfl)) rfl ⟨?_, (((Touch.refl _ w).alloc _).alloc _).alloc _⟩
    exact ret_two (by omega) (by omega)
end Go.Proofs.YtpjnnbegimaaeabDoor.S

/- Rows of ranges in memory; no condition. -/
namespace Go.Proofs.YtpjnnbegimaaeabDoor.S
open Go.RowKit

abbrev R2 := Int × Int
def encR (x : R2) : List Value := [.int .i64 x.1, .int .i64 x.2]
def flatR (l : List R2) : List Value := l.flatMap encR
theorem flatR_append (l m : List R2) : flatR (l ++ m) = flatR l ++ flatR m := by simp [flatR]
theorem length_flatR (l : List R2) : (flatR l).length = l.length * 2 := by
  induction l with
  | nil => rfl
  | cons x r ih => simp only [flatR, List.flatMap_cons, List.length_append, List.length_cons] at ih ⊢; rw [ih]; simp [encR]; omega
theorem flatR_get0 : ∀ (l : List R2) (i : Nat) (h : i < l.length), (flatR l)[2 * i]? = some (.int .i64 (l[i]).1)
  | x :: r, 0, _ => rfl
  | x :: r, i + 1, h => by
    have := flatR_get0 r i (by simpa using h)
    show (encR x ++ flatR r)[2 * (i + 1)]? = _
    rw [List.getElem?_append_right (by simp [encR]; omega)]
    simpa [encR, show 2 * (i + 1) - 2 = 2 * i by omega] using this
theorem flatR_get1 : ∀ (l : List R2) (i : Nat) (h : i < l.length), (flatR l)[2 * i + 1]? = some (.int .i64 (l[i]).2)
  | x :: r, 0, _ => rfl
  | x :: r, i + 1, h => by
    have := flatR_get1 r i (by simpa using h)
    show (encR x ++ flatR r)[2 * (i + 1) + 1]? = _
    rw [List.getElem?_append_right (by simp [encR]; omega)]
    simpa [encR, show 2 * (i + 1) + 1 - 2 = 2 * i + 1 by omega] using this
theorem flatR_one (l : List R2) : ∀ u ∈ flatR l, u.oneCell' = true := by
  intro u hu
  simp only [flatR, List.mem_flatMap, encR] at hu
  obtain ⟨x, _, hx⟩ := hu
  simp at hx
  rcases hx with rfl | rfl <;> rfl

theorem add_g (g j : Nat) : (⟨g, 0, none⟩ : Addr).add j = ⟨g, j, none⟩ := by
  unfold Addr.add
  split
  · rename_i h; rw [h]
  · rw [Nat.zero_add]

/-- A list of ranges in memory, as a walk is told of it. -/
def Rg (w : World) (a : Option Addr) (l : List R2) : Prop :=
  l = [] ∨ ∃ b o, a = some ⟨b, o, none⟩ ∧ b < w.heap.size ∧ ∀ i (h : i < l.length), w.cell? ⟨b, o + i * 2, none⟩ = some (.int .i64 (l[i]).1) ∧ w.cell? ⟨b, o + i * 2 + 1, none⟩ = some (.int .i64 (l[i]).2)

theorem Rg.kept {w w' : World} {S : Nat → Prop} {a : Option Addr} {l : List R2} (h : Rg w a l) (t : Touch S w w') (hs : ∀ b o, a = some ⟨b, o, none⟩ → b < w.heap.size → ¬ S b) : Rg w' a l := by
  rcases h with h | ⟨b, o, rfl, hb, hc⟩
  · exact .inl h
  · refine .inr ⟨b, o, rfl, Nat.lt_of_lt_of_le hb t.size, fun i hi => ?_⟩
    rw [t.cell (p := ⟨b, o + i * 2, none⟩) hb (hs b o rfl hb), t.cell (p := ⟨b, o + i * 2 + 1, none⟩) hb (hs b o rfl hb)]
    exact hc i hi
theorem Rg.new {w w' : World} {a : Option Addr} {l : List R2} (h : Rg w a l) (t : Touch (fun _ => False) w w') : Rg w' a l := h.kept t (fun _ _ _ _ e => e)
theorem own_rg {w : World} {base e : Nat} {v : Value} {l : List R2} (h : w.ownsRow base e 2 v l.length (flatR l)) : ∃ a c, v = .slice a l.length c ∧ Rg w a l := by
  rcases h.2 with ⟨rfl, h0⟩ | ⟨g, cap, cur, rfl, hg, hh, rest⟩
  · exact ⟨none, 0, by rw [h0], .inl (List.eq_nil_of_length_eq_zero h0)⟩
  · refine ⟨_, cap, rfl, .inr ⟨g, 0, rfl, lt_of_block hh, fun i hi => ?_⟩⟩
    have h1 := h.cells (g := g) rfl (2 * i) _ (flatR_get0 l i hi)
    have h2 := h.cells (g := g) rfl (2 * i + 1) _ (flatR_get1 l i hi)
    rw [add_g] at h1 h2
    rw [show 0 + i * 2 = 2 * i by omega]
    exact ⟨h1, h2⟩
end Go.Proofs.YtpjnnbegimaaeabDoor.S
