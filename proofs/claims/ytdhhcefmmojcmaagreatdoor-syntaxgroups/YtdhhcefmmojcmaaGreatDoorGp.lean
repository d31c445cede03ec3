/- A parser of patterns, plain: the groups of a tree, in the order in which they begin; no condition. -/
import Derived.Test.YtdhhcefmmojcmaaGreatDoorM33
namespace Go.Proofs.YtdhhcefmmojcmaaGreatDoor
open Go.RowKit

mutual
/-- The groups of a tree: their numbers and names. -/
def gsN : Nd → List (Int × ByteArray)
  | .mk k _ _ cap _ _ _ name kids => (if k = 11 then [(cap, name)] else []) ++ gsL kids
def gsL : List Nd → List (Int × ByteArray)
  | [] => []
  | x :: l => gsN x ++ gsL l
end
theorem gsL_app : ∀ (l m : List Nd), gsL (l ++ m) = gsL l ++ gsL m
  | [], m => by simp [gsL]
  | x :: l, m => by rw [List.cons_append, gsL, gsL, gsL_app l m, List.append_assoc]
/-- Names, numbered from a number on. -/
def numd : Nat → List ByteArray → List (Int × ByteArray)
  | _, [] => []
  | n, a :: l => ((n : Int), a) :: numd (n + 1) l
theorem numd_app : ∀ (n : Nat) (l m : List ByteArray), numd n (l ++ m) = numd n l ++ numd (n + l.length) m
  | n, [], m => by simp [numd]
  | n, a :: l, m => by
    rw [List.cons_append, numd, numd, numd_app (n + 1) l m, List.cons_append, List.length_cons]
    congr 3
    omega
/-- What is read tells these groups besides. -/
def GsO (st s1 : St) (g : List (Int × ByteArray)) : Prop := ∃ nw, s1.ns = st.ns ++ nw ∧ g = numd st.ns.length nw
theorem GsO.nil {st s1 : St} (h : s1.ns = st.ns) : GsO st s1 [] := ⟨[], by rw [h, List.append_nil], rfl⟩
theorem GsO.trans {a b c : St} {g g2 : List (Int × ByteArray)} (h : GsO a b g) (k : GsO b c g2) : GsO a c (g ++ g2) := by
  obtain ⟨n1, e1, rfl⟩ := h
  obtain ⟨n2, e2, rfl⟩ := k
  refine ⟨n1 ++ n2, by rw [e2, e1, List.append_assoc], ?_⟩
  rw [numd_app, e1, List.length_append]
def OptG (st s1 : St) : Option Nd → Prop
  | none => s1.ns = st.ns
  | some x => GsO st s1 (gsN x)
def GsS (f : Sub) : Prop := ∀ st x s1, f st = .ok (x, s1) → GsO st s1 (gsN x)
theorem with_gs {R : List Int} {alt : Sub} (H : GsS alt) {k0 : Nat} {st s1 : St} {f : Fl} {x : Nd} (h : withF R alt k0 st f = .ok (x, s1)) : GsO st s1 (gsN x) := by
  unfold withF at h
  split at h
  · cases h
  rename_i y s2 e
  split at h
  · cases h
    obtain ⟨nw, h1, h2⟩ := H _ _ _ e
    exact ⟨nw, h1, h2⟩
  · cases h
theorem group_gs {R : List Int} {alt : Sub} (H : GsS alt) {k0 : Nat} {st s1 : St} {n : ByteArray} {x : Nd} (h : groupF R alt k0 st n = .ok (x, s1)) : GsO st s1 (gsN x) := by
  unfold groupF at h
  split at h
  · cases h
  rename_i y s2 e
  cases h
  obtain ⟨nw, h1, h2⟩ := with_gs H e
  refine ⟨n :: nw, ?_, ?_⟩
  · rw [h1]; simp
  · simp only [List.length_append, List.length_singleton] at h2
    show (if (11 : Int) = 11 then [((st.ns.length : Int), n)] else []) ++ gsL [y] = _
    rw [if_pos rfl, gsL, gsL, List.append_nil, h2]
    rfl
theorem brack_gs {R : List Int} {sub : Option Sub} (H : ∀ f, sub = some f → GsS f) {st s1 : St} {o : Option Nd} (h : brackF R sub st = .ok (o, s1)) :
    OptG st s1 o := by
  unfold brackF at h
  split at h
  · cases h
  rename_i alt
  have HA := H alt rfl
  split at h
  · split at h
    · split at h
      · cases h
      split at h
      · cases h
      rename_i e
      cases h
      obtain ⟨nw, h1, h2⟩ := group_gs HA e
      exact ⟨nw, h1, h2⟩
    split at h
    · split at h
      · cases h
      rename_i e
      cases h
      obtain ⟨nw, h1, h2⟩ := with_gs HA e
      exact ⟨nw, h1, h2⟩
    simp only at h
    split at h
    · split at h
      · cases h
      rename_i e
      cases h
      obtain ⟨nw, h1, h2⟩ := with_gs HA e
      exact ⟨nw, h1, h2⟩
    split at h
    · cases h
      rfl
    · cases h
  · split at h
    · cases h
    rename_i e
    cases h
    obtain ⟨nw, h1, h2⟩ := group_gs HA e
    exact ⟨nw, h1, h2⟩
theorem gs_cls (f : Fl) (s : List R2) : gsN (.cls f s) = [] := rfl
theorem gs_border {k : Int} (h : k ≠ 11) : gsN (.border k) = [] := by
  show (if k = 11 then _ else []) ++ gsL [] = []
  rw [if_neg h]
  rfl
theorem stroke_gs {R : List Int} {tab : List (ByteArray × List R2)} {st s1 : St} {o : Option Nd} (h : strokeF R tab st = .ok (o, s1)) : ∃ x, o = some x ∧ GsO st s1 (gsN x) := by
  have hn := stroke_ns h
  unfold strokeF strokeC at h
  split at h
  · cases h; exact ⟨_, rfl, GsO.nil hn⟩
  split at h
  · cases h; exact ⟨_, rfl, GsO.nil hn⟩
  split at h
  · cases h; exact ⟨_, rfl, GsO.nil hn⟩
  split at h
  · cases h; exact ⟨_, rfl, GsO.nil hn⟩
  split at h
  · cases h
  · cases h; exact ⟨_, rfl, GsO.nil hn⟩
theorem atom_gs {R : List Int} {tab : List (ByteArray × List R2)} {sub : Option Sub} (H : ∀ f, sub = some f → GsS f) {st s1 : St} {o : Option Nd} (h : atomF R tab sub st = .ok (o, s1)) :
    OptG st s1 o := by
  unfold atomF atomC at h
  split at h
  · exact brack_gs H h
  split at h
  · unfold clsF at h
    split at h
    · cases h
    · cases h; exact GsO.nil rfl
  split at h
  · obtain ⟨x, rfl, g⟩ := stroke_gs h
    exact g
  split at h
  · cases h; exact GsO.nil rfl
  split at h
  · cases h
    show GsO _ _ (gsN (.border _))
    rw [gs_border (by split <;> decide)]
    exact GsO.nil rfl
  split at h
  · cases h
    show GsO _ _ (gsN (.border _))
    rw [gs_border (by split <;> decide)]
    exact GsO.nil rfl
  · cases h; exact GsO.nil rfl
theorem rep_gs {R : List Int} {x y : Nd} {st s1 : St} (h : repF R x st = .ok (y, s1)) : s1.ns = st.ns ∧ gsN y = gsN x := by
  refine ⟨rep_ns h, ?_⟩
  unfold repF at h
  split at h
  · cases h
  · cases h; rfl
  · cases h
    show (if (10 : Int) = 11 then _ else []) ++ gsL [x] = _
    rw [if_neg (by decide), gsL, gsL, List.nil_append, List.append_nil]
theorem piece_gs {R : List Int} {tab : List (ByteArray × List R2)} {sub : Option Sub} (H : ∀ f, sub = some f → GsS f) {st s1 : St} {o : Option Nd} (h : pieceF R tab sub st = .ok (o, s1)) :
    OptG st s1 o := by
  unfold pieceF at h
  split at h
  · cases h
  split at h
  · cases h
  · rename_i e
    cases h
    exact atom_gs H e
  · rename_i x s2 e
    split at h
    · cases h
    · rename_i e2
      cases h
      obtain ⟨h1, h2⟩ := rep_gs e2
      obtain ⟨nw, g1, g2⟩ := atom_gs H e
      exact ⟨nw, by rw [h1, g1], by rw [h2, g2]⟩
theorem row_gs {R : List Int} {tab : List (ByteArray × List R2)} {sub : Option Sub} (H : ∀ f, sub = some f → GsS f) : ∀ (f : Nat) (st : St) (l m : List Nd) (s1 : St), rowF R tab sub f st l = .ok (m, s1) → ∃ g, GsO st s1 g ∧ gsL m = gsL l ++ g
  | 0, st, l, m, s1, h => by
    rw [rowF] at h
    cases h
    exact ⟨[], GsO.nil rfl, by simp⟩
  | f + 1, st, l, m, s1, h => by
    rw [rowF] at h
    split at h
    · cases h
      exact ⟨[], GsO.nil rfl, by simp⟩
    split at h
    · cases h
    · rename_i s2 e
      have e2 : s2.ns = st.ns := piece_gs H e
      obtain ⟨g, ⟨nw, h1, h2⟩, h3⟩ := row_gs H f s2 l m s1 h
      exact ⟨g, ⟨nw, by rw [h1, e2], by rw [h2, e2]⟩, h3⟩
    · rename_i x s2 e
      have e2 : GsO st s2 (gsN x) := piece_gs H e
      obtain ⟨g, h2, h3⟩ := row_gs H f s2 _ m s1 h
      refine ⟨gsN x ++ g, e2.trans h2, ?_⟩
      rw [h3, gsL_app, gsL, gsL, List.append_nil, List.append_assoc]
theorem toge_gs {kind : Int} (hk : kind ≠ 11) : ∀ (l : List Nd), gsN (togeF kind l) = gsL l
  | [] => rfl
  | [x] => by rw [togeF, gsL, gsL, List.append_nil]
  | x :: y :: l => by
    show (if kind = 11 then _ else []) ++ gsL (x :: y :: l) = _
    rw [if_neg hk, List.nil_append]
theorem cat_gs {R : List Int} {tab : List (ByteArray × List R2)} {sub : Option Sub} (H : ∀ f, sub = some f → GsS f) : GsS (catF R tab sub) := by
  intro st x s1 h
  unfold catF at h
  split at h
  · cases h
  · rename_i l s2 e
    cases h
    obtain ⟨g, h1, h2⟩ := row_gs H _ _ _ _ _ e
    rw [toge_gs (by decide), h2, gsL, List.nil_append]
    exact h1
theorem alts_gs {R : List Int} {tab : List (ByteArray × List R2)} {sub : Option Sub} (H : ∀ f, sub = some f → GsS f) : ∀ (f : Nat) (st : St) (l : List Nd) (x : Nd) (s1 : St), altsF R tab sub f st l = .ok (x, s1) → ∃ g, GsO st s1 g ∧ gsN x = gsL l ++ g
  | 0, st, l, x, s1, h => by
    rw [altsF] at h
    cases h
    exact ⟨[], GsO.nil rfl, by rw [toge_gs (by decide), List.append_nil]⟩
  | f + 1, st, l, x, s1, h => by
    rw [altsF] at h
    split at h
    · split at h
      · cases h
      · rename_i y s2 e
        obtain ⟨nw, g1, g2⟩ := cat_gs H _ _ _ e
        obtain ⟨g, h2, h3⟩ := alts_gs H f s2 _ x s1 h
        refine ⟨gsN y ++ g, GsO.trans (b := s2) ⟨nw, g1, g2⟩ h2, ?_⟩
        rw [h3, gsL_app, gsL, gsL, List.append_nil, List.append_assoc]
    · cases h
      exact ⟨[], GsO.nil rfl, by rw [toge_gs (by decide), List.append_nil]⟩
theorem altB_gs {R : List Int} {tab : List (ByteArray × List R2)} {sub : Option Sub} (H : ∀ f, sub = some f → GsS f) : GsS (altB R tab sub) := by
  intro st x s1 h
  unfold altB at h
  split at h
  · cases h
  · rename_i y s2 e
    have g1 := cat_gs H _ _ _ e
    obtain ⟨g, h2, h3⟩ := alts_gs H _ s2 _ x s1 h
    rw [h3, gsL, gsL, List.append_nil]
    exact g1.trans h2
theorem altN_gs (R : List Int) (tab : List (ByteArray × List R2)) : ∀ n, GsS (altN R tab n)
  | 0 => fun st x s1 h => altB_gs (sub := none) (fun f e => by cases e) st x s1 (by rw [altN] at h; exact h)
  | n + 1 => fun st x s1 h => altB_gs (sub := some (altN R tab n)) (fun f e => by cases e; exact altN_gs R tab n) st x s1 (by rw [altN] at h; exact h)
/-- The groups of a pattern's tree are its names behind the first, in their order. -/
theorem pat_gs {R : List Int} {tab : List (ByteArray × List R2)} {f : Fl} {x : Nd} {ns : List ByteArray} (h : patF R tab f = .ok (x, ns)) : ∃ nw, ns = ⟨#[]⟩ :: nw ∧ gsN x = numd 1 nw := by
  unfold patF at h
  split at h
  · cases h
  · rename_i y s1 e
    split at h
    · cases h
      obtain ⟨nw, h1, h2⟩ := altN_gs R tab 32 _ _ _ e
      exact ⟨nw, by rw [h1]; rfl, h2⟩
    · cases h
end Go.Proofs.YtdhhcefmmojcmaaGreatDoor
