/- Texts of this proof, one behind the other: what each says stands ahead of it. -/
import Derived.Test.YtohcngiiijokkaaDoorM36
import Derived.Test.YtohcngiiijokkaaDoorM19
/- The document's told: what is wrong ahead of the lengths; conditions: the bytes fit into memory. -/
namespace Go.Proofs.YtohcngiiijokkaaDoor
open Go.RowKit Go.Lib

/-- Nineteen numbers of a list that was made. -/
def BlkI (w : World) (b : Nat) (f : Nat → Nat) : Prop := w.heap[b]? = some (.cells (arr19 f) 3 (0, 0))
theorem BlkI.cell {w : World} {b : Nat} {f : Nat → Nat} (h : BlkI w b f) (i : Nat) (hi : i < 19) : w.cell? ⟨b, i, none⟩ = some (.int .i64 (f i : Nat)) := by
  unfold BlkI at h
  simp [World.cell?, h, arr19, hi]
theorem BlkI.free {w : World} {b : Nat} {f : Nat → Nat} (h : BlkI w b f) (i : Nat) : w.frozen? ⟨b, i, none⟩ = false := by
  unfold BlkI at h
  simp [World.frozen?, h]
theorem BlkI.set {w : World} {b : Nat} {f : Nat → Nat} (h : BlkI w b f) (i x : Nat) : BlkI (w.setCell ⟨b, i, none⟩ (.int .i64 (x : Nat))) b (fun j => if j = i then x else f j) := by
  unfold BlkI at h ⊢
  rw [block_set h i]
  congr 2
  unfold arr19
  apply Array.ext'
  · simp only [Array.set!_eq_setIfInBounds, Array.toList_setIfInBounds]
    apply List.ext_getElem
    · simp
    · intro j h1 h2
      simp only [List.getElem_set, List.getElem_map, List.getElem_range]
      by_cases e : i = j
      · subst e; simp
      · rw [if_neg e, if_neg (fun h => e h.symm)]
theorem BlkI.same {w w' : World} {b : Nat} {f : Nat → Nat} (h : BlkI w b f) (e : w'.heap[b]? = w.heap[b]?) : BlkI w' b f := by
  unfold BlkI at h ⊢
  rw [e]
  exact h
theorem BlkI.ext {w : World} {b : Nat} {f g : Nat → Nat} (h : BlkI w b f) (e : ∀ i, i < 19 → f i = g i) : BlkI w b g := by
  unfold BlkI at h ⊢
  rw [h]
  congr 2
  unfold arr19
  congr 1
  apply List.map_congr_left
  intro i hi
  rw [e i (by simpa using hi)]
theorem BlkI.ints {w : World} {b : Nat} {f : Nat → Nat} (h : BlkI w b f) : Ints w (some ⟨b, 0, none⟩) 19 (fun i => (f i : Nat)) :=
  .inr ⟨b, 0, rfl, lt_of_block (show w.heap[b]? = _ from h), fun i hi => by rw [Nat.zero_add]; exact h.cell i hi⟩
theorem BlkI.lt {w : World} {b : Nat} {f : Nat → Nat} (h : BlkI w b f) : b < w.heap.size := lt_of_block (show w.heap[b]? = _ from h)

theorem Sv.other {w : World} {sb : Nat} {v : Value} {out : List Nat} {S : ByteArray} {t most er : Nat} (h : Sv w sb v out S t most er) {b : Nat} (h1 : b ≠ sb) (h2 : v.ownBlock ≠ some b) (i : Nat) (x : Value) : Sv (w.setCell ⟨b, i, none⟩ x) sb v out S t most er :=
  ⟨(Below.heap_setCell _ _ _ _ (fun e => h1 (by simpa using e.symm))).trans h.1, ownsRow_setCell_other h.2 h2 _⟩

theorem head_1 {s : ByteArray} {t : Nat} (c : 8 * s.size < t + 5) : Inf.dyHead s t = some (3, t) := by
  unfold Inf.dyHead
  rw [if_pos c]
theorem head_2 {s : ByteArray} {t : Nat} (c1 : ¬ 8 * s.size < t + 5) (c : 8 * s.size < t + 10) : Inf.dyHead s t = some (3, t + 5) := by
  unfold Inf.dyHead
  rw [if_neg c1, if_pos c]
theorem head_3 {s : ByteArray} {t : Nat} (c1 : ¬ 8 * s.size < t + 10) (c : 8 * s.size < t + 14) : Inf.dyHead s t = some (3, t + 10) := by
  unfold Inf.dyHead
  rw [if_neg (by omega), if_neg c1, if_pos c]
theorem head_4 {s : ByteArray} {t : Nat} (c1 : ¬ 8 * s.size < t + 14) (c : 29 < Bt.rval s t 5 ∨ 29 < Bt.rval s (t + 5) 5) : Inf.dyHead s t = some (5, t + 14) := by
  unfold Inf.dyHead
  rw [if_neg (by omega), if_neg (by omega), if_neg c1, if_pos c]
theorem head_5 {s : ByteArray} {t : Nat} (c1 : ¬ 8 * s.size < t + 14) (c2 : ¬ (29 < Bt.rval s t 5 ∨ 29 < Bt.rval s (t + 5) 5)) (c : 8 * s.size < t + 14 + 3 * (Bt.rval s (t + 10) 4 + 4)) : Inf.dyHead s t = some (3, t + 14 + 3 * ((8 * s.size - (t + 14)) / 3)) := by
  unfold Inf.dyHead
  rw [if_neg (by omega), if_neg (by omega), if_neg c1, if_neg c2, if_pos c]
theorem head_6 {s : ByteArray} {t : Nat} (c1 : ¬ 8 * s.size < t + 14) (c2 : ¬ (29 < Bt.rval s t 5 ∨ 29 < Bt.rval s (t + 5) 5)) (c3 : ¬ 8 * s.size < t + 14 + 3 * (Bt.rval s (t + 10) 4 + 4)) (c : errOf (Inf.dyF s t) 19 ≠ 0) : Inf.dyHead s t = some (errOf (Inf.dyF s t) 19, Inf.dyT s t) := by
  unfold Inf.dyHead
  rw [if_neg (by omega), if_neg (by omega), if_neg c1, if_neg c2, if_neg c3]
  exact if_pos c
theorem head_7 {s : ByteArray} {t : Nat} (c1 : ¬ 8 * s.size < t + 14) (c2 : ¬ (29 < Bt.rval s t 5 ∨ 29 < Bt.rval s (t + 5) 5)) (c3 : ¬ 8 * s.size < t + 14 + 3 * (Bt.rval s (t + 10) 4 + 4)) (c : errOf (Inf.dyF s t) 19 = 0) : Inf.dyHead s t = none := by
  unfold Inf.dyHead
  rw [if_neg (by omega), if_neg (by omega), if_neg c1, if_neg c2, if_neg c3]
  exact if_neg (fun h => h c)

/-- Nothing is told: an error at a place. -/
def NoTold (sb : Nat) (v : Value) (out : List Nat) (S : ByteArray) (t most er : Nat) (w : World) (e : Ending) (w' : World) : Prop :=
  e = .returned (.tuple #[.slice none 0 0, .int .i64 0]) ∧ SvStep w w' sb v out S t most er

set_option maxRecDepth 100000 in
set_option maxHeartbeats 4000000 in
theorem rtold_1 (sb : Nat) (v : Value) (out : List Nat) (S : ByteArray) (t most : Nat) (w : World) (h : Sv w sb v out S t most 0) (hs : S.size ≤ 140737488351232) (ht : t ≤ 8 * S.size) (c : 8 * S.size < t + 5) :
    Calls Tryd.prog 34 #[.pointer (some ⟨sb, 0, none⟩)] w (NoTold sb v out S t most 3 w) := by
  have K1 := hid (rtake_end sb v out S t most 5 w h (by omega) ht c (by decide))
  clear h
  go_enter Tryd.func34, Tryd.ntmps34
  go_wp2_with fail
  refine K1.out.mono ?_
  rintro e w1 ⟨rfl, st⟩
  have ST := hid st
  clear st K1
  go_wp2_with fail
  refine (rtake_err sb v out S t most 3 5 w1 ST.out.1 (by decide)).mono ?_
  rintro e w2 ⟨rfl, rfl⟩
  go_wp2_with fail
  refine (rtake_err sb v out S t most 3 4 w2 ST.out.1 (by decide)).mono ?_
  rintro e w3 ⟨rfl, rfl⟩
  have c4 := (sv_cells ST.out.1).2.2.2.2
  go_wp2
  go_ret2
  exact ⟨rfl, ST.out⟩

set_option maxRecDepth 100000 in
set_option maxHeartbeats 4000000 in
theorem rtold_2 (sb : Nat) (v : Value) (out : List Nat) (S : ByteArray) (t most : Nat) (w : World) (h : Sv w sb v out S t most 0) (hs : S.size ≤ 140737488351232) (c1 : t + 5 ≤ 8 * S.size) (c : 8 * S.size < t + 10) :
    Calls Tryd.prog 34 #[.pointer (some ⟨sb, 0, none⟩)] w (NoTold sb v out S (t + 5) most 3 w) := by
  have K1 := hid (rtake_yes sb v out S t most 5 w h hs c1 (by decide))
  have hb1 := Bt.rval_lt S t 5
  obtain ⟨x1, hx1⟩ : ∃ x1, x1 = Bt.rval S t 5 := ⟨_, rfl⟩
  rw [← hx1] at K1 hb1
  clear h hx1
  go_enter Tryd.func34, Tryd.ntmps34
  go_wp2_with fail
  refine K1.out.mono ?_
  rintro e w1 ⟨rfl, st⟩
  have ST1 := hid st
  clear st K1
  have K2 := hid (rtake_end sb v out S (t + 5) most 5 w1 ST1.out.1 (by omega) c1 (by omega) (by decide))
  go_wp2_with fail
  refine K2.out.mono ?_
  rintro e w2 ⟨rfl, st⟩
  have ST := hid (ST1.out.trans st)
  clear st K2
  go_wp2_with fail
  refine (rtake_err sb v out S (t + 5) most 3 4 w2 ST.out.1 (by decide)).mono ?_
  rintro e w3 ⟨rfl, rfl⟩
  have c4 := (sv_cells ST.out.1).2.2.2.2
  go_wp2
  go_ret2
  exact ⟨rfl, ST.out⟩

set_option maxRecDepth 100000 in
set_option maxHeartbeats 4000000 in
theorem rtold_3 (sb : Nat) (v : Value) (out : List Nat) (S : ByteArray) (t most : Nat) (w : World) (h : Sv w sb v out S t most 0) (hs : S.size ≤ 140737488351232) (c1 : t + 10 ≤ 8 * S.size) (c : 8 * S.size < t + 14) :
    Calls Tryd.prog 34 #[.pointer (some ⟨sb, 0, none⟩)] w (NoTold sb v out S (t + 10) most 3 w) := by
  have K1 := hid (rtake_yes sb v out S t most 5 w h hs (by omega) (by decide))
  have hb1 := Bt.rval_lt S t 5
  obtain ⟨x1, hx1⟩ : ∃ x1, x1 = Bt.rval S t 5 := ⟨_, rfl⟩
  rw [← hx1] at K1 hb1
  clear h hx1
  go_enter Tryd.func34, Tryd.ntmps34
  go_wp2_with fail
  refine K1.out.mono ?_
  rintro e w1 ⟨rfl, st⟩
  have ST1 := hid st
  clear st K1
  have K2 := hid (rtake_yes sb v out S (t + 5) most 5 w1 ST1.out.1 hs (by omega) (by decide))
  have hb2 := Bt.rval_lt S (t + 5) 5
  obtain ⟨x2, hx2⟩ : ∃ x2, x2 = Bt.rval S (t + 5) 5 := ⟨_, rfl⟩
  rw [← hx2] at K2 hb2
  clear hx2
  go_wp2_with fail
  refine K2.out.mono ?_
  rintro e w2 ⟨rfl, st⟩
  have ST2 := hid (ST1.out.trans st)
  clear st K2
  have K3 := hid (rtake_end sb v out S (t + 10) most 4 w2 ST2.out.1 (by omega) c1 (by omega) (by decide))
  go_wp2_with fail
  refine K3.out.mono ?_
  rintro e w3 ⟨rfl, st⟩
  have ST := hid (ST2.out.trans st)
  clear st K3
  have c4 := (sv_cells ST.out.1).2.2.2.2
  go_wp2
  go_ret2
  exact ⟨rfl, ST.out⟩

set_option maxRecDepth 100000 in
set_option maxHeartbeats 4000000 in
theorem rtold_4 (sb : Nat) (v : Value) (out : List Nat) (S : ByteArray) (t most : Nat) (w : World) (h : Sv w sb v out S t most 0) (hs : S.size ≤ 140737488351232) (c1 : t + 14 ≤ 8 * S.size) (c : 29 < Bt.rval S t 5 ∨ 29 < Bt.rval S (t + 5) 5) :
    Calls Tryd.prog 34 #[.pointer (some ⟨sb, 0, none⟩)] w (NoTold sb v out S (t + 14) most 5 w) := by
  have K1 := hid (rtake_yes sb v out S t most 5 w h hs (by omega) (by decide))
  have hb1 := Bt.rval_lt S t 5
  have hb2 := Bt.rval_lt S (t + 5) 5
  have hb3 := Bt.rval_lt S (t + 10) 4
  obtain ⟨x1, hx1⟩ : ∃ x1, x1 = Bt.rval S t 5 := ⟨_, rfl⟩
  rw [← hx1] at K1 hb1 c
  clear h hx1
  go_enter Tryd.func34, Tryd.ntmps34
  go_wp2_with fail
  refine K1.out.mono ?_
  rintro e w1 ⟨rfl, st⟩
  have ST1 := hid st
  clear st K1
  have K2 := hid (rtake_yes sb v out S (t + 5) most 5 w1 ST1.out.1 hs (by omega) (by decide))
  obtain ⟨x2, hx2⟩ : ∃ x2, x2 = Bt.rval S (t + 5) 5 := ⟨_, rfl⟩
  rw [← hx2] at K2 hb2 c
  clear hx2
  go_wp2_with fail
  refine K2.out.mono ?_
  rintro e w2 ⟨rfl, st⟩
  have ST2 := hid (ST1.out.trans st)
  clear st K2
  have K3 := hid (rtake_yes sb v out S (t + 10) most 4 w2 ST2.out.1 hs (by omega) (by decide))
  obtain ⟨x3, hx3⟩ : ∃ x3, x3 = Bt.rval S (t + 10) 4 := ⟨_, rfl⟩
  rw [← hx3] at K3 hb3
  clear hx3
  go_wp2_with fail
  refine K3.out.mono ?_
  rintro e w3 ⟨rfl, st⟩
  have ST := hid (ST2.out.trans st)
  clear st K3
  have c4 := (sv_cells ST.out.1).2.2.2.2
  have f4 := sv_free ST.out.1 4
  by_cases k1 : 29 < x1
  · clear c
    go_wp2
    go_ret2
    exact ⟨rfl, ST.out.1.err 5, ST.out.2.setCell (p := ⟨sb, 4, none⟩) (fun _ => rfl) _⟩
  · have k2 : 29 < x2 := by omega
    clear c
    go_wp2
    go_ret2
    exact ⟨rfl, ST.out.1.err 5, ST.out.2.setCell (p := ⟨sb, 4, none⟩) (fun _ => rfl) _⟩
end Go.Proofs.YtohcngiiijokkaaDoor
