/- Texts of this proof, one behind the other: what each says stands ahead of it. -/
import Derived.Test.YtpjnnbegimaaeabM1
import Derived.Deep.RegionLaw
/- Plain facts on lists of ranges: joined ranges rise and don't touch, and such a list is told by its numbers; no condition beside those told. -/
namespace Go.Proofs.Ytpjnnbegimaaeab

def In (x : Int) (l : List R2) : Prop := ∃ r ∈ l, r.1 ≤ x ∧ x ≤ r.2
structure Canon (s : List R2) : Prop where
  in_ : ∀ r ∈ s, inB r
  up : s.Pairwise (fun a b => a.2 + 1 < b.1)

theorem in_nil (x : Int) : ¬ In x [] := fun ⟨_, h, _⟩ => by simp at h
theorem in_append {x : Int} {l m : List R2} : In x (l ++ m) ↔ In x l ∨ In x m := by
  unfold In
  constructor
  · rintro ⟨r, hr, h⟩
    rcases List.mem_append.1 hr with k | k
    · exact .inl ⟨r, k, h⟩
    · exact .inr ⟨r, k, h⟩
  · rintro (⟨r, hr, h⟩ | ⟨r, hr, h⟩)
    · exact ⟨r, List.mem_append.2 (.inl hr), h⟩
    · exact ⟨r, List.mem_append.2 (.inr hr), h⟩
theorem in_one {x : Int} {r : R2} : In x [r] ↔ r.1 ≤ x ∧ x ≤ r.2 := by
  unfold In
  simp
theorem in_cons {x : Int} {r : R2} {l : List R2} : In x (r :: l) ↔ (r.1 ≤ x ∧ x ≤ r.2) ∨ In x l := by
  have := @in_append x [r] l
  rw [in_one] at this
  simpa using this
theorem in_perm {x : Int} {l m : List R2} (h : l.Perm m) : In x l ↔ In x m := by
  unfold In
  constructor
  · rintro ⟨r, hr, k⟩; exact ⟨r, h.mem_iff.1 hr, k⟩
  · rintro ⟨r, hr, k⟩; exact ⟨r, h.mem_iff.2 hr, k⟩

theorem jstep_good {s : List R2} {r : R2} (hs : Canon s) (hr : inB r) (hle : ∀ a ∈ s, a.1 ≤ r.1) : Canon (jstep s r) ∧ (∀ x, In x (jstep s r) ↔ In x s ∨ (r.1 ≤ x ∧ x ≤ r.2)) ∧ (∀ q : Int, r.1 ≤ q → ∀ a ∈ jstep s r, a.1 ≤ q) := by
  rcases List.eq_nil_or_concat s with h | ⟨s0, t, h⟩
  · subst h
    have e : jstep [] r = [r] := rfl
    rw [e]
    refine ⟨⟨by simpa using hr, List.pairwise_singleton _ _⟩, fun x => ?_, fun q hq a ha => ?_⟩
    · rw [in_one]
      constructor
      · exact .inr
      · rintro (h | h)
        · exact absurd h (in_nil x)
        · exact h
    · simp only [List.mem_singleton] at ha
      rw [ha]
      exact hq
  · rw [List.concat_eq_append] at h
    subst h
    obtain ⟨t1, t2⟩ := t
    obtain ⟨x1, x2⟩ := r
    have ht := hs.in_ (t1, t2) (by simp)
    have hl := hle (t1, t2) (by simp)
    have hup := List.pairwise_append.1 hs.up
    unfold inB at ht hr
    dsimp only at ht hr hl
    by_cases c : x1 ≤ t2 + 1
    · have e := jstep_join s0 t1 t2 x1 x2 c
      refine ⟨⟨jstep_in hs.in_ hr, ?_⟩, fun x => ?_, fun q hq a ha => ?_⟩
      · rw [e, List.pairwise_append]
        refine ⟨hup.1, List.pairwise_singleton _ _, fun a ha b hb => ?_⟩
        simp only [List.mem_singleton] at hb
        have := hup.2.2 a ha (t1, t2) (by simp)
        rw [hb]
        exact this
      · rw [e, in_append, in_append, in_one, in_one]
        dsimp only
        constructor
        · rintro (h | h)
          · exact .inl (.inl h)
          · rcases Int.lt_or_le t2 x with k | k
            · exact .inr ⟨by omega, by omega⟩
            · exact .inl (.inr ⟨h.1, k⟩)
        · rintro ((h | h) | h)
          · exact .inl h
          · exact .inr ⟨h.1, by omega⟩
          · exact .inr ⟨by omega, by omega⟩
      · rw [e] at ha
        dsimp only at hq
        rcases List.mem_append.1 ha with h | h
        · have := hle a (List.mem_append.2 (.inl h))
          dsimp only at this
          omega
        · simp only [List.mem_singleton] at h
          rw [h]
          dsimp only
          omega
    · have e := jstep_more s0 t1 t2 x1 x2 c
      refine ⟨⟨jstep_in hs.in_ hr, ?_⟩, fun x => ?_, fun q hq a ha => ?_⟩
      · rw [e, List.pairwise_append]
        refine ⟨hs.up, List.pairwise_singleton _ _, fun a ha b hb => ?_⟩
        simp only [List.mem_singleton] at hb
        rw [hb]
        dsimp only
        rcases List.mem_append.1 ha with h | h
        · have := hup.2.2 a h (t1, t2) (by simp)
          dsimp only at this
          omega
        · simp only [List.mem_singleton] at h
          rw [h]
          dsimp only
          omega
      · rw [e, in_append, in_one]
      · rw [e] at ha
        dsimp only at hq
        rcases List.mem_append.1 ha with h | h
        · have := hle a h
          dsimp only at this
          omega
        · simp only [List.mem_singleton] at h
          rw [h]
          exact hq

theorem fold_good : ∀ (m s : List R2), Canon s → (∀ r ∈ m, inB r) → m.Pairwise (fun a b => a.1 ≤ b.1) → (∀ a ∈ s, ∀ r ∈ m, a.1 ≤ r.1) → Canon (m.foldl jstep s) ∧ ∀ x, In x (m.foldl jstep s) ↔ In x s ∨ In x m
  | [], s, h, _, _, _ => ⟨h, fun x => by simp [in_nil]⟩
  | r :: m, s, h, hin, hup, hle => by
    have hp := List.pairwise_cons.1 hup
    obtain ⟨g1, g2, g3⟩ := jstep_good h (hin r (by simp)) (fun a ha => hle a ha r (by simp))
    have ih := fold_good m (jstep s r) g1 (fun q hq => hin q (by simp [hq])) hp.2 (fun a ha q hq => g3 q.1 (hp.1 q hq) a ha)
    refine ⟨ih.1, fun x => ?_⟩
    rw [List.foldl_cons, ih.2 x, g2 x, in_cons, or_assoc]

theorem joined_good {m : List R2} (hin : ∀ r ∈ m, inB r) (hup : m.Pairwise (fun a b => a.1 ≤ b.1)) : Canon (joinedL m) ∧ ∀ x, In x (joinedL m) ↔ In x m := by
  have := fold_good m [] ⟨by simp, .nil⟩ hin hup (by simp)
  refine ⟨this.1, fun x => ?_⟩
  rw [show joinedL m = m.foldl jstep [] from rfl, this.2 x]
  simp [in_nil]

theorem in_within (l : List R2) (x : Int) : In x (withinL l) ↔ (0 ≤ x ∧ x ≤ 1114111) ∧ In x l := by
  unfold In withinL
  simp only [List.mem_map, List.mem_filter, keeps, clip]
  constructor
  · rintro ⟨r, ⟨y, ⟨hy, _⟩, rfl⟩, h1, h2⟩
    dsimp only at h1 h2
    exact ⟨by omega, y, hy, by omega, by omega⟩
  · rintro ⟨h, y, hy, h1, h2⟩
    exact ⟨_, ⟨y, ⟨hy, decide_eq_true (by omega)⟩, rfl⟩, by dsimp only; omega, by dsimp only; omega⟩

/-- Two such lists that have the same numbers are one. -/
theorem canon_one : ∀ {s t : List R2}, Canon s → Canon t → (∀ x, In x s ↔ In x t) → s = t
  | [], [], _, _, _ => rfl
  | [], (c, d) :: t, _, ht, h => by
    have := ht.in_ (c, d) (by simp)
    unfold inB at this
    dsimp only at this
    exact absurd ((h c).2 (in_cons.2 (.inl ⟨Int.le_refl _, by dsimp only; omega⟩))) (in_nil c)
  | (a, b) :: s, [], hs, _, h => by
    have := hs.in_ (a, b) (by simp)
    unfold inB at this
    dsimp only at this
    exact absurd ((h a).1 (in_cons.2 (.inl ⟨Int.le_refl _, by dsimp only; omega⟩))) (in_nil a)
  | (a, b) :: s, (c, d) :: t, hs, ht, h => by
    have ha := hs.in_ (a, b) (by simp)
    have hc := ht.in_ (c, d) (by simp)
    have ps := List.pairwise_cons.1 hs.up
    have pt := List.pairwise_cons.1 ht.up
    unfold inB at ha hc
    dsimp only at ha hc ps pt
    have above_s : ∀ x, In x s → b + 1 < x := fun x ⟨r, hr, h1, _⟩ => by have := ps.1 r hr; omega
    have above_t : ∀ x, In x t → d + 1 < x := fun x ⟨r, hr, h1, _⟩ => by have := pt.1 r hr; omega
    have low_s : ∀ x, In x ((a, b) :: s) → a ≤ x := fun x hx => by
      rcases in_cons.1 hx with h | h
      · exact h.1
      · have := above_s x h; omega
    have low_t : ∀ x, In x ((c, d) :: t) → c ≤ x := fun x hx => by
      rcases in_cons.1 hx with h | h
      · exact h.1
      · have := above_t x h; omega
    have e1 : a = c := by
      have h1 := low_t a ((h a).1 (in_cons.2 (.inl ⟨Int.le_refl _, by dsimp only; omega⟩)))
      have h2 := low_s c ((h c).2 (in_cons.2 (.inl ⟨Int.le_refl _, by dsimp only; omega⟩)))
      omega
    subst e1
    have e2 : b = d := by
      rcases Int.lt_trichotomy b d with k | k | k
      · have := (h (b + 1)).2 (in_cons.2 (.inl ⟨by dsimp only; omega, by dsimp only; omega⟩))
        rcases in_cons.1 this with q | q
        · dsimp only at q; omega
        · have := above_s _ q; omega
      · exact k
      · have := (h (d + 1)).1 (in_cons.2 (.inl ⟨by dsimp only; omega, by dsimp only; omega⟩))
        rcases in_cons.1 this with q | q
        · dsimp only at q; omega
        · have := above_t _ q; omega
    subst e2
    have := canon_one (s := s) (t := t) ⟨fun r hr => hs.in_ r (by simp [hr]), ps.2⟩ ⟨fun r hr => ht.in_ r (by simp [hr]), pt.2⟩ (fun x => by
      constructor
      · intro hx
        have h1 := above_s x hx
        rcases in_cons.1 ((h x).1 (in_cons.2 (.inr hx))) with q | q
        · dsimp only at q; omega
        · exact q
      · intro hx
        have h1 := above_t x hx
        rcases in_cons.1 ((h x).2 (in_cons.2 (.inr hx))) with q | q
        · dsimp only at q; omega
        · exact q)
    rw [this]

/-- What Of answers. -/
theorem of_says (a : Option Addr) (cap : Nat) (l : List R2) (w : World) (hl : Rg w a l) (hb : l.length * 16 ≤ 140737488351232) :
    Calls Try.prog 14 #[.slice a l.length cap] w fun e w' => ∃ v s, e = .returned v ∧ Canon s ∧ (∀ x, In x s ↔ (0 ≤ x ∧ x ≤ 1114111) ∧ In x l) ∧ Ow w w' 25 v s := by
  refine (of_any a cap l w hl hb).mono ?_
  rintro e w' ⟨v, m, rfl, hp, hsd, ow⟩
  have hg := joined_good (m := m) (fun r hr => within_in l r (hp.mem_iff.1 hr)) hsd
  exact ⟨v, joinedL m, rfl, hg.1, fun x => by rw [hg.2 x, in_perm hp, in_within], ow⟩
end Go.Proofs.Ytpjnnbegimaaeab

/- made and speaks of the laws on sets; conditions: the ranges fit into memory. -/
namespace Go.Proofs.Ytpjnnbegimaaeab
open Go.RowKit

/-- Ranges of a type in a list of the call's own. -/
structure OwE (W0 wr : World) (e : TypeId) (v : Value) (s : List R2) : Prop where
  own : wr.ownsRow 0 e 2 v s.length (flatR s)
  new : ∀ g, v.ownBlock = some g → W0.heap.size ≤ g
  touch : Touch (fun _ => False) W0 wr

theorem OwE.ow {W0 wr : World} {v : Value} {s : List R2} (h : OwE W0 wr 33 v s) (ty : TypeId) : Ow W0 wr ty v s := ⟨h.own, h.new, h.touch⟩
theorem OwE.nil (w : World) (e : TypeId) : OwE w w e (.slice none 0 0) [] := ⟨by simpa [flatR] using World.ownsRow_nil _ _ _ _, by intro g h; simp [Value.ownBlock] at h, Touch.refl _ _⟩
theorem OwE.rg {W0 wr : World} {e : TypeId} {v : Value} {s : List R2} (h : OwE W0 wr e v s) : ∃ a c, v = .slice a s.length c ∧ Rg wr a s := own_rg h.own
theorem OwE.still {W0 wr w' : World} {e : TypeId} {v : Value} {s : List R2} (h : OwE W0 wr e v s) (tc : Touch (fun _ => False) wr w') : OwE W0 w' e v s := by
  refine ⟨⟨h.own.1, ?_⟩, h.new, h.touch.trans tc (fun _ _ e => e)⟩
  rcases h.own.2 with h0 | ⟨g, cap, cur, hv, hg, hh, rest⟩
  · exact .inl h0
  · exact .inr ⟨g, cap, cur, hv, hg, (tc.block g (lt_of_block hh) id).trans hh, rest⟩
theorem OwE.more {W0 wr w1 : World} {e : TypeId} {v v' : Value} {s : List R2} {xs : List R2} {o : Obj} (h : OwE W0 wr e v s) (hown : w1.ownsRow 0 e 2 v' (s.length + xs.length) (flatR s ++ flatR xs)) (hg : (wr.alloc o).grownBy w1 v.ownBlock) (hat : v'.ownBlock = v.ownBlock ∨ v'.ownBlock = some (wr.heap.size + 1)) : OwE W0 w1 e v' (s ++ xs) := by
  refine ⟨?_, fun g hg' => ?_, (h.touch.alloc o).grown hg (fun k e hk => by have := h.new k e; omega)⟩
  · rw [List.length_append, flatR_append]
    exact hown
  · rcases hat with e | e
    · exact h.new g (by rw [← e]; exact hg')
    · rw [e] at hg'
      simp at hg'
      have := h.touch.size
      omega
/-- A list of another type stays. -/
theorem OwE.beside {W0 wr w1 : World} {e e' : TypeId} {v v4 : Value} {s s4 : List R2} {o : Obj} (h : OwE W0 wr e v s) (h4 : OwE W0 wr e' v4 s4) (hne : e ≠ e') (hg : (wr.alloc o).grownBy w1 v4.ownBlock) : OwE W0 w1 e v s := by
  refine ⟨⟨h.own.1, ?_⟩, h.new, (h.touch.alloc o).grown hg (fun k e hk => by have := h4.new k e; omega)⟩
  rcases h.own.2 with h0 | ⟨g, cap, cur, hv, hg', hh, rest⟩
  · exact .inl h0
  · have hlt := lt_of_block hh
    refine .inr ⟨g, cap, cur, hv, hg', ?_, rest⟩
    rw [hg.block g (by simp; omega) (fun k => ?_), Below.heap_alloc _ _ _ hlt]
    · exact hh
    · rcases h4.own.2 with ⟨rfl, _⟩ | ⟨g4, cap4, cur4, rfl, _, hh4, _⟩
      · simp [Value.ownBlock] at k
      · simp [Value.ownBlock] at k
        subst k
        rw [hh] at hh4
        simp at hh4
        exact hne hh4.2

theorem info47 : (Try.prog.info? 47).map (fun i => (i.zero, i.size, i.bytes)) = some (some (.agg #[.int .i64 0, .int .i64 0]), 2, 16) := by kernel_rfl
theorem info35 : (Try.prog.info? 35).map (fun i => (i.zero, i.size, i.bytes)) = some (some (.agg #[.int .i64 0, .int .i64 0]), 2, 16) := by kernel_rfl

set_option maxRecDepth 100000 in
set_option maxHeartbeats 4000000 in
theorem made_any (a : Option Addr) (cap : Nat) (l : List R2) (w : World) (hl : Rg w a l) (hb : l.length * 16 ≤ 140737488351232) :
    Calls Try.prog 9 #[.slice a l.length cap] w fun e w' => ∃ v v2 s, e = .returned (.tuple #[v, v2]) ∧ Canon s ∧ (∀ x, In x s ↔ (0 ≤ x ∧ x ≤ 1114111) ∧ In x l) ∧ OwE w w' 33 v s ∧ OwE w w' 47 v2 l := by
  obtain ⟨i0, hi33, hz0, hz1, hz2⟩ := info_parts info33
  obtain ⟨j0, hi47, hy0, hy1, hy2⟩ := info_parts info47
  have HL := hid hl
  clear hl
  go_enter Try.func9, Try.ntmps9
  go_wp2_with fail
  go_loopg [4, 5, 6] l.length (fun gk v4 v5 i wr => ∃ k : Nat, k + gk = l.length ∧ i = .int .i64 (k : Nat) ∧ OwE w wr 33 v4 (l.take k) ∧ OwE w wr 47 v5 (l.take k))
  case atStart => exact ⟨0, by omega, rfl, OwE.nil _ _, OwE.nil _ _⟩
  case round =>
    obtain ⟨k, hk, rfl, h4, h5⟩ := hrel
    have O4 := hid h4
    have O5 := hid h5
    have HLR := hid (HL.out.new h4.touch)
    obtain ⟨a4, c4, hv4⟩ := own_shape h4.own
    obtain ⟨a5, c5, hv5⟩ := own_shape h5.own
    subst hv4
    subst hv5
    clear h4 h5
    have htl : (l.take k).length = k := by rw [List.length_take]; omega
    rw [htl] at O4 O5 ⊢
    by_cases hlt : k < l.length
    · obtain ⟨b, o, ha, hbl, hcell⟩ : ∃ b o, a = some ⟨b, o, none⟩ ∧ b < wr.heap.size ∧ ∀ i (h : i < l.length), wr.cell? ⟨b, o + i * 2, none⟩ = some (.int .i64 (l[i]).1) ∧ wr.cell? ⟨b, o + i * 2 + 1, none⟩ = some (.int .i64 (l[i]).2) := by
        rcases HLR.out with h | h
        · rw [h] at hlt; simp at hlt
        · exact h
      subst ha
      obtain ⟨d0, d1⟩ := hcell k hlt
      obtain ⟨r, hr⟩ : ∃ r, r = l[k] := ⟨_, rfl⟩
      have HT := hid (show l.take (k + 1) = l.take k ++ [r] from by rw [hr, List.take_succ_eq_append_getElem hlt])
      rw [← hr] at d0 d1
      obtain ⟨x, y⟩ := r
      dsimp only at d0 d1
      have HRK := hid hr.symm
      clear hcell hr htl
      obtain ⟨s, hs⟩ : ∃ s, s = l.take k := ⟨_, rfl⟩
      have hsl : s.length ≤ k := by rw [hs, List.length_take]; omega
      rw [← hs] at O4 O5 HT
      clear hs
      go_wp2_with (at_builtin; refine wpList_append_own_at _ rfl _ _ 24 rfl 0 33 i0 (.agg #[.int .i64 0, .int .i64 0]) 2 16 Try.underlying24 hi33 hz0 hz1 hz2 rfl (by decide) _ _ _ rfl (O4.out.own.alloc _) ⟨wr.heap.size, 0, none⟩ 1 1 [.int .i64 x, .int .i64 y] rfl rfl (row_new wr [.int .i64 x, .int .i64 y] 33) (by intro u hu; simp at hu; rcases hu with rfl | rfl <;> rfl) (by unfold maxLen; omega) (by omega) (Nat.zero_le _) ?_)
      intro v4' w4 hown hgrow _ hat
      have P4 := hid (O4.out.more (xs := [(x, y)]) hown hgrow hat)
      have P5 := hid (O5.out.beside O4.out (by decide) hgrow)
      have HLR2 := hid (show Rg w4 (some ⟨b, o, none⟩) l from HL.out.new P4.out.touch)
      clear hown hgrow hat d0 d1
      obtain ⟨a4', c4', hv4⟩ := own_shape P4.out.own
      subst hv4
      obtain ⟨d0, d1⟩ : w4.cell? ⟨b, o + k * 2, none⟩ = some (.int .i64 x) ∧ w4.cell? ⟨b, o + k * 2 + 1, none⟩ = some (.int .i64 y) := by
        rcases HLR2.out with h | ⟨b', o', e, _, hc⟩
        · rw [h] at hlt; simp at hlt
        · simp only [Option.some.injEq, Addr.mk.injEq, and_true] at e
          obtain ⟨rfl, rfl⟩ := e
          have hq := hc k hlt
          rw [HRK.out] at hq
          exact hq
      clear HLR HLR2
      go_wp2_with (at_builtin; refine wpList_append_own_at _ rfl _ _ 26 rfl 0 47 j0 (.agg #[.int .i64 0, .int .i64 0]) 2 16 Try.underlying26 hi47 hy0 hy1 hy2 rfl (by decide) _ _ _ rfl (P5.out.own.alloc _) ⟨w4.heap.size, 0, none⟩ 1 1 [.int .i64 x, .int .i64 y] rfl rfl (row_new w4 [.int .i64 x, .int .i64 y] 47) (by intro u hu; simp at hu; rcases hu with rfl | rfl <;> rfl) (by unfold maxLen; omega) (by omega) (Nat.zero_le _) ?_)
      intro v5' w5 hown hgrow _ hat
      have Q5 := hid (P5.out.more (xs := [(x, y)]) hown hgrow hat)
      have Q4 := hid (P4.out.beside P5.out (by decide) hgrow)
      clear hown hgrow hat
      go_wp2
      go_roundg (gk - 1)
      case measure => omega
      case rel =>
        refine ⟨k + 1, by omega, by go_num, ?_, ?_⟩
        · rw [HT.out]
          have := Q4.out
          rw [List.length_append] at this
          exact this
        · rw [HT.out]
          exact Q5.out
    · obtain rfl : k = l.length := by omega
      rw [List.take_length] at O4 O5
      obtain ⟨a4', c4', hv4, hrg⟩ := O4.out.rg
      simp only [Value.slice.injEq] at hv4
      obtain ⟨rfl, _, rfl⟩ := hv4
      have K := hid (of_says a4 c4 l wr hrg hb)
      clear hrg
      go_wp2_with fail
      refine K.out.mono ?_
      rintro e w1 ⟨v, s, rfl, hcn, hin, ow⟩
      have OW := hid ow
      have HCN := hid hcn
      have HIN := hid hin
      obtain ⟨a2, c2, hav⟩ := own_shape ow.own
      subst hav
      clear ow hcn hin K
      go_wp2
      go_ret2
      exact ⟨_, _, s, rfl, HCN.out, HIN.out, ⟨OW.out.own, fun g e => Nat.le_trans O4.out.touch.size (OW.out.new g e), O4.out.touch.trans OW.out.touch (fun _ _ e => e)⟩, O5.out.still OW.out.touch⟩
end Go.Proofs.Ytpjnnbegimaaeab

/- speaks of the laws on sets, and an append as a step; no condition. -/
namespace Go.Proofs.Ytpjnnbegimaaeab
open Go.RowKit

theorem step_append_own {P : Program} (w : World) {ops : Array Oper} {o : Oper} {a : Act} {K : Act → World → Prop} {Q : Exit → Act → World → Prop} {E : Prop} (hgd : o.guard = none) (s x : Operand) (t : TypeId)
    (ho : o.op = .call { callee := .builtin .append, args := #[s, x], argTypes := #[t, t] })
    (base : Nat) (e : TypeId) (i : TypeInfo) (z : Value) (size bytes : Nat) (ht : P.underlying t = some (.slice e)) (hi : P.info? e = some i) (hz : i.zero = some z)
    (hsize : i.size = size) (hby : i.bytes = bytes) (hzs : z.cells.size = size) (hsz : 0 < size)
    (v : Value) (n : Nat) (xs : List Value) (hs : a.eval s = v) (hown : w.ownsRow base e size v n xs)
    (ad : Addr) (m c : Nat) (news : List Value) (hx : a.eval x = .slice (some ad) m c) (hl : news.length = m * size) (hnews : ∀ j u, news[j]? = some u → w.cell? (ad.add j) = some u) (h1 : ∀ u ∈ news, u.oneCell' = true)
    (h63 : n + m ≤ maxLen) (hbytes : (n + m) * bytes ≤ 140737488355328) (hbase : base ≤ w.heap.size) (H : Nat) (hH : w.heap.size = H)
    (h : ∀ v' w', w'.ownsRow base e size v' (n + m) (xs ++ news) → w.grownBy w' v.ownBlock → (v'.ownBlock = v.ownBlock ∨ v'.ownBlock = some H) → K (a.put o.dst v') w') :
    if Region.wanted o (yielded ops a.tmps) = true then Oper.wp P o a w K Q else E := by
  have hw : Region.wanted o (yielded ops a.tmps) = true := by simp [Region.wanted, hgd]
  rw [if_pos hw]
  obtain ⟨v', w', hr, h2, h3, h4, h5⟩ := run_append_own_at (P := P) w base t o.type e i z size bytes ht hi hz hsize hby hzs hsz v n xs hown ad m c news hl hnews h1 h63 hbytes hbase
  unfold Oper.wp execOp
  simp only [ho, resolve, invoke, builtin, Sem.run_bind, Sem.run_pure, Result.andThen_ok, List.map_toArray, List.map_cons, List.map_nil, hs, hx, hr]
  exact h v' w' h2 h3 (by rw [← hH]; exact h5)

theorem nine : ∀ x, In x [((1 : Int), (9 : Int))] ↔ (0 ≤ x ∧ x ≤ 1114111) ∧ In x [((5 : Int), (9 : Int)), (1, 2), (3, 4)] := by
  intro x
  simp only [in_cons, in_nil, or_false]
  omega
theorem nine_canon : Canon [((1 : Int), (9 : Int))] := ⟨by simp [inB], List.pairwise_singleton _ _⟩

set_option maxRecDepth 100000 in
set_option maxHeartbeats 4000000 in
theorem speaks_yes (w : World) : Calls Try.prog 8 #[] w fun e w' => e = .returned (.bool true) ∧ Touch (fun _ => False) w w' := by
  have RG := hid (show Rg (w.alloc (.cells #[.int .i64 5, .int .i64 9, .int .i64 1, .int .i64 2, .int .i64 3, .int .i64 4] 33)) (some ⟨w.heap.size, 0, none⟩) [(5, 9), (1, 2), (3, 4)] from by
    have hb : (w.alloc (.cells #[.int .i64 5, .int .i64 9, .int .i64 1, .int .i64 2, .int .i64 3, .int .i64 4] 33)).heap[w.heap.size]? = some (.cells #[.int .i64 5, .int .i64 9, .int .i64 1, .int .i64 2, .int .i64 3, .int .i64 4] 33 (0, 0)) := by
      show (w.heap.push _)[_]? = _
      simp
    refine .inr ⟨w.heap.size, 0, rfl, by simp, fun i hi => ?_⟩
    simp only [List.length_cons, List.length_nil] at hi
    match i, hi with
    | 0, _ => exact ⟨by unfold World.cell?; rw [hb]; rfl, by unfold World.cell?; rw [hb]; rfl⟩
    | 1, _ => exact ⟨by unfold World.cell?; rw [hb]; rfl, by unfold World.cell?; rw [hb]; rfl⟩
    | 2, _ => exact ⟨by unfold World.cell?; rw [hb]; rfl, by unfold World.cell?; rw [hb]; rfl⟩)
  have T0 := hid ((Touch.refl (fun _ => False) w).alloc (.cells #[.int .i64 5, .int .i64 9, .int .i64 1, .int .i64 2, .int .i64 3, .int .i64 4] 33))
  go_enter Try.func8, Try.ntmps8
  go_wp2_with fail
  generalize (w.alloc (.cells #[.int .i64 5, .int .i64 9, .int .i64 1, .int .i64 2, .int .i64 3, .int .i64 4] 33)) = w1 at *
  refine (of_says (some ⟨w.heap.size, 0, none⟩) 3 [(5, 9), (1, 2), (3, 4)] w1 RG.out (by decide)).mono ?_
  rintro e w2 ⟨v, s, rfl, hcn, hin, ow⟩
  obtain rfl : s = [(1, 9)] := canon_one hcn nine_canon (fun x => by rw [hin x, nine x])
  obtain ⟨a, c, hv, hrg⟩ := own_rg ow.own
  subst hv
  have TC := hid (T0.out.trans ow.touch (fun _ _ e => e))
  rcases hrg with h | ⟨b, o, rfl, _, hc⟩
  · simp at h
  · obtain ⟨d0, d1⟩ := hc 0 (by simp)
    simp only [Nat.zero_mul, Nat.add_zero, List.getElem_cons_zero] at d0 d1
    clear hc ow hcn hin
    go_wp2
    go_ret
    exact ⟨rfl, TC.out⟩
end Go.Proofs.Ytpjnnbegimaaeab

/- How many ranges a set has at the most; no condition. -/
namespace Go.Proofs.Ytpjnnbegimaaeab

theorem canon_len_at : ∀ (s : List R2) (q : Int), (∀ r ∈ s, inB r) → s.Pairwise (fun a b => a.2 + 1 < b.1) → (∀ r ∈ s, q ≤ r.1) → 2 * (s.length : Int) ≤ 1114113 - q ∨ s = []
  | [], _, _, _, _ => .inr rfl
  | r :: s, q, hin, hup, hq => by
    have hp := List.pairwise_cons.1 hup
    have hr := hin r (by simp)
    have h1 := hq r (by simp)
    unfold inB at hr
    rcases canon_len_at s (r.2 + 2) (fun a ha => hin a (by simp [ha])) hp.2 (fun a ha => by have := hp.1 a ha; omega) with h | h
    · left
      simp only [List.length_cons]
      omega
    · left
      subst h
      simp
      omega
theorem canon_len {s : List R2} (h : Canon s) : s.length ≤ 557057 := by
  rcases canon_len_at s 0 h.in_ h.up (fun r hr => (h.in_ r hr).1) with k | k
  · omega
  · subst k
    simp
end Go.Proofs.Ytpjnnbegimaaeab
