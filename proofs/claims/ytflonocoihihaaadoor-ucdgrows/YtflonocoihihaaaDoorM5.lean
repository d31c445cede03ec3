/- Texts of this proof, one behind the other: what each says stands ahead of it. -/
import Derived.Test.YtflonocoihihaaaDoorM4
import Derived.Test.YtflonocoihihaaaDoorM0
/- Of: any ranges, cut to the numbers that there are; conditions: the ranges fit into memory. -/
namespace Go.Proofs.YtflonocoihihaaaDoor
open Go.RowKit

def clip (x : R2) : R2 := (max x.1 0, min x.2 1114111)
def keeps (x : R2) : Bool := decide ((clip x).1 ≤ (clip x).2)
def withinL (l : List R2) : List R2 := (l.filter keeps).map clip
theorem within_yes (l : List R2) (k : Nat) (h : k < l.length) (hk : (clip l[k]).1 ≤ (clip l[k]).2) : withinL (l.take (k + 1)) = withinL (l.take k) ++ [clip l[k]] := by
  unfold withinL
  rw [List.take_succ_eq_append_getElem h, List.filter_append, List.map_append]
  simp [keeps, hk]
theorem within_no (l : List R2) (k : Nat) (h : k < l.length) (hk : ¬ (clip l[k]).1 ≤ (clip l[k]).2) : withinL (l.take (k + 1)) = withinL (l.take k) := by
  unfold withinL
  rw [List.take_succ_eq_append_getElem h, List.filter_append, List.map_append]
  simp [keeps, hk]
theorem within_len (l : List R2) (k : Nat) (h : k ≤ l.length) : (withinL (l.take k)).length ≤ k := by
  unfold withinL
  rw [List.length_map]
  have := List.length_filter_le keeps (l.take k)
  rw [List.length_take] at this
  omega
theorem within_in (l : List R2) : ∀ x ∈ withinL l, inB x := by
  intro x hx
  unfold withinL at hx
  simp only [List.mem_map, List.mem_filter, keeps, decide_eq_true_eq] at hx
  obtain ⟨y, ⟨_, h⟩, rfl⟩ := hx
  unfold clip at *
  unfold inB
  dsimp only at *
  omega

set_option maxRecDepth 100000 in
set_option maxHeartbeats 4000000 in
theorem of_any (a : Option Addr) (cap : Nat) (l : List R2) (w : World) (hl : Rg w a l) (hb : l.length * 16 ≤ 140737488351232) :
    Calls Tryd.prog 5 #[.slice a l.length cap] w fun e w' => ∃ v m, e = .returned v ∧ m.Perm (withinL l) ∧ m.Pairwise (fun a b => a.1 ≤ b.1) ∧ Ow w w' 28 v (joinedL m) := by
  obtain ⟨i0, hi33, hz0, hz1, hz2⟩ := info_parts info33
  have HL := hid hl
  clear hl
  go_enter Tryd.func5, Tryd.ntmps5
  go_wp2_with fail
  go_loopg [3, 8] l.length (fun gk v i wr => ∃ k : Nat, k + gk = l.length ∧ i = .int .i64 (k : Nat) ∧ Ow w wr 24 v (withinL (l.take k)))
  case atStart => exact ⟨0, by omega, rfl, ⟨by simpa [withinL, flatR] using World.ownsRow_nil _ _ _ _, by intro g h; simp [Value.ownBlock] at h, Touch.refl _ _⟩⟩
  case round =>
    obtain ⟨k, hk, rfl, how⟩ := hrel
    have OW := hid how
    have HLR := hid (HL.out.new how.touch)
    have hlen := within_len l k (by omega)
    obtain ⟨av, cv, hav⟩ := own_shape how.own
    subst hav
    clear how
    by_cases hlt : k < l.length
    · obtain ⟨b, o, ha, hbl, hcell⟩ : ∃ b o, a = some ⟨b, o, none⟩ ∧ b < wr.heap.size ∧ ∀ i (h : i < l.length), wr.cell? ⟨b, o + i * 2, none⟩ = some (.int .i64 (l[i]).1) ∧ wr.cell? ⟨b, o + i * 2 + 1, none⟩ = some (.int .i64 (l[i]).2) := by
        rcases HLR.out with h | h
        · rw [h] at hlt; simp at hlt
        · exact h
      subst ha
      obtain ⟨d0, d1⟩ := hcell k hlt
      obtain ⟨r, hr⟩ : ∃ r, r = l[k] := ⟨_, rfl⟩
      rw [← hr] at d0 d1
      have WY := hid (fun hk => within_yes l k hlt hk)
      have WN := hid (fun hk => within_no l k hlt hk)
      rw [← hr] at WY WN
      obtain ⟨x, y⟩ := r
      dsimp only at d0 d1
      clear hcell hr
      obtain ⟨s, hs⟩ : ∃ s, s = withinL (l.take k) := ⟨_, rfl⟩
      rw [← hs] at OW WY WN hlen ⊢
      clear hs
      obtain ⟨M, hM⟩ : ∃ M, M = s.length := ⟨_, rfl⟩
      rw [← hM] at OW ⊢
      have HM := hid hM
      have hMk : M ≤ k := by omega
      clear hM
      obtain ⟨rb, hrb⟩ : ∃ rb, rb = wr.heap.size := ⟨_, rfl⟩
      have OA := hid (OW.out.alloc (.cells #[.int .i64 x, .int .i64 y] 26))
      have RB := hid (show (wr.alloc (.cells #[.int .i64 x, .int .i64 y] 26)).heap[rb]? = some (.cells #[.int .i64 x, .int .i64 y] 26 (0, 0)) from by rw [hrb]; exact three_new _ _ _)
      go_wp2_with fail
      rw [← hrb]
      have hown : ∀ g, (Value.slice av M cv).ownBlock = some g → g ≠ rb := fun g e => by
        have := (OW.out.own.lt g e).2
        omega
      have hwrb : w.heap.size ≤ rb := by rw [hrb]; exact OW.out.touch.size
      have HOWN := hid hown
      clear hrb hown OW
      generalize wr.alloc (.cells #[.int .i64 x, .int .i64 y] 26) = wA at *
      refine (common_any x y 0 1114111 wA).mono ?_
      rintro e w1 ⟨rfl, tc⟩
      have OB := hid (OA.out.still tc)
      have RC := hid (show w1.heap[rb]? = some (.cells #[.int .i64 x, .int .i64 y] 26 (0, 0)) from (tc.block rb (lt_of_block RB.out) id).trans RB.out)
      have q0 := cell_two0 RC.out
      have q1 := cell_two1 RC.out
      have qf0 := free_two (i := 0) RC.out
      have qf1 := free_two (i := 1) RC.out
      clear tc d0 d1
      obtain ⟨cx, hcx⟩ : ∃ cx, cx = max x 0 := ⟨_, rfl⟩
      obtain ⟨cy, hcy⟩ : ∃ cy, cy = min y 1114111 := ⟨_, rfl⟩
      rw [← hcx, ← hcy]
      have HCX := hid hcx
      have HCY := hid hcy
      clear hcx hcy
      have RD := hid (two_set1 (x := .int .i64 cy) (two_set0 (x := .int .i64 cx) RC.out))
      have OC := hid (show Ow w ((w1.setCell ⟨rb, 0, none⟩ (.int .i64 cx)).setCell ⟨rb, 1, none⟩ (.int .i64 cy)) 24 (.slice av M cv) s from ⟨ownsRow_setCell_other (ownsRow_setCell_other OB.out.own (fun e => HOWN.out _ e rfl) _) (fun e => HOWN.out _ e rfl) _, OB.out.new, (OB.out.touch.setCell (p := ⟨rb, 0, none⟩) (fun h => by simp at h; omega) _).setCell (p := ⟨rb, 1, none⟩) (fun h => by simp at h; omega) _⟩)
      by_cases hcc : cx ≤ cy
      · go_upto_region 7 with fail
        generalize ((w1.setCell ⟨rb, 0, none⟩ (.int .i64 cx)).setCell ⟨rb, 1, none⟩ (.int .i64 cy)) = wD at *
        have z0 := cell_two0 RD.out
        have z1 := cell_two1 RD.out
        clear q0 q1 qf0 qf1
        go_wp2_with (at_builtin; refine wpList_append_own_at _ rfl _ _ 24 rfl 0 26 i0 (.agg #[.int .i64 0, .int .i64 0]) 2 16 Tryd.underlying24 hi33 hz0 hz1 hz2 rfl (by decide) _ _ _ rfl (OC.out.own.alloc _) ⟨wD.heap.size, 0, none⟩ 1 1 [.int .i64 cx, .int .i64 cy] rfl rfl (row_new wD [.int .i64 cx, .int .i64 cy] 26) (by intro u hu; simp at hu; rcases hu with rfl | rfl <;> rfl) (by unfold maxLen; omega) (by omega) (Nat.zero_le _) ?_)
        intro v' w4 hown hgrow _ hat
        have OE := hid (OC.out.more (x := (cx, cy)) hown hgrow hat)
        have HCC := hid hcc
        clear hown hgrow hat
        go_wp2
        go_roundg (gk - 1)
        case measure => omega
        case rel =>
          refine ⟨k + 1, by omega, by go_num, ?_⟩
          have := WY.out (by unfold clip; dsimp only; rw [← HCX.out, ← HCY.out]; exact HCC.out)
          rw [this]
          unfold clip
          dsimp only
          rw [← HCX.out, ← HCY.out]
          exact OE.out
      · go_wp2
        go_roundg (gk - 1)
        case measure => omega
        case rel =>
          refine ⟨k + 1, by omega, by go_num, ?_⟩
          have := WN.out (by unfold clip; dsimp only; rw [← HCX.out, ← HCY.out]; exact hcc)
          rw [this]
          exact OC.out
    · obtain rfl : k = l.length := by omega
      rw [List.take_length] at OW hlen ⊢
      obtain ⟨s, hs⟩ : ∃ s, s = withinL l := ⟨_, rfl⟩
      have HWI := hid (within_in l)
      rw [← hs] at OW hlen HWI ⊢
      have HSS := hid hs
      clear hs
      have K := hid (sort_any OW.out (by omega))
      go_wp2_with fail
      refine K.out.mono ?_
      rintro e w1 ⟨rfl, s', hp, hsd, ⟨a1, c1, hv, hrg⟩, tc⟩
      have hl1 := hp.length_eq
      have KJ := hid (joined_any a1 c1 s' w1 hrg (fun x hx => HWI.out x (hp.mem_iff.1 hx)) (by omega))
      have HP := hid hp
      have HSD := hid hsd
      have TC := hid tc
      simp only [Value.slice.injEq] at hv
      obtain ⟨rfl, h2, rfl⟩ := hv
      rw [← h2] at KJ
      clear hp hsd hrg tc K hl1 h2
      go_wp2_with fail
      refine KJ.out.mono ?_
      rintro e w2 ⟨v2, rfl, ow⟩
      have OW2 := hid ow
      obtain ⟨a2, c2, hav⟩ := own_shape ow.own
      subst hav
      clear ow KJ
      go_wp2
      go_ret
      exact ⟨_, s', rfl, HSS.out ▸ HP.out, HSD.out, ⟨OW2.out.own, fun g e => Nat.le_trans TC.out.size (OW2.out.new g e), TC.out.trans OW2.out.touch (fun _ _ e => e)⟩⟩
end Go.Proofs.YtflonocoihihaaaDoor

/- Plain facts on lists of ranges: joined ranges rise and don't touch, and such a list is told by its numbers; no condition beside those told. -/
namespace Go.Proofs.YtflonocoihihaaaDoor

def In (x : Int) (l : List R2) : Prop := ∃ r ∈ l, r.1 ≤ x ∧ x ≤ r.2
structure Canon (s : List R2) : Prop where
  in_ : ∀ r ∈ s, inB r
  up : s.Pairwise (fun a b => a.2 + 1 < b.1)

theorem in_nil (x : Int) : ¬ In x [] := fun ⟨_, h, _⟩ => by simp at h
theorem in_append {x : Int} {l m : List R2} : In x (l ++ m) ↔ In x l ∨ In x m := by
  unfold In
  constructor
  · rintro ⟨r, hr, h⟩
    rcases List.mem_append.1 hr with k | k
    · exact .inl ⟨r, k, h⟩
    · exact .inr ⟨r, k, h⟩
  · rintro (⟨r, hr, h⟩ | ⟨r, hr, h⟩)
    · exact ⟨r, List.mem_append.2 (.inl hr), h⟩
    · exact ⟨r, List.mem_append.2 (.inr hr), h⟩
theorem in_one {x : Int} {r : R2} : In x [r] ↔ r.1 ≤ x ∧ x ≤ r.2 := by
  unfold In
  simp
theorem in_cons {x : Int} {r : R2} {l : List R2} : In x (r :: l) ↔ (r.1 ≤ x ∧ x ≤ r.2) ∨ In x l := by
  have := @in_append x [r] l
  rw [in_one] at this
  simpa using this
theorem in_perm {x : Int} {l m : List R2} (h : l.Perm m) : In x l ↔ In x m := by
  unfold In
  constructor
  · rintro ⟨r, hr, k⟩; exact ⟨r, h.mem_iff.1 hr, k⟩
  · rintro ⟨r, hr, k⟩; exact ⟨r, h.mem_iff.2 hr, k⟩

theorem jstep_good {s : List R2} {r : R2} (hs : Canon s) (hr : inB r) (hle : ∀ a ∈ s, a.1 ≤ r.1) : Canon (jstep s r) ∧ (∀ x, In x (jstep s r) ↔ In x s ∨ (r.1 ≤ x ∧ x ≤ r.2)) ∧ (∀ q : Int, r.1 ≤ q → ∀ a ∈ jstep s r, a.1 ≤ q) := by
  rcases List.eq_nil_or_concat s with h | ⟨s0, t, h⟩
  · subst h
    have e : jstep [] r = [r] := rfl
    rw [e]
    refine ⟨⟨by simpa using hr, List.pairwise_singleton _ _⟩, fun x => ?_, fun q hq a ha => ?_⟩
    · rw [in_one]
      constructor
      · exact .inr
      · rintro (h | h)
        · exact absurd h (in_nil x)
        · exact h
    · simp only [List.mem_singleton] at ha
      rw [ha]
      exact hq
  · rw [List.concat_eq_append] at h
    subst h
    obtain ⟨t1, t2⟩ := t
    obtain ⟨x1, x2⟩ := r
    have ht := hs.in_ (t1, t2) (by simp)
    have hl := hle (t1, t2) (by simp)
    have hup := List.pairwise_append.1 hs.up
    unfold inB at ht hr
    dsimp only at ht hr hl
    by_cases c : x1 ≤ t2 + 1
    · have e := jstep_join s0 t1 t2 x1 x2 c
      refine ⟨⟨jstep_in hs.in_ hr, ?_⟩, fun x => ?_, fun q hq a ha => ?_⟩
      · rw [e, List.pairwise_append]
        refine ⟨hup.1, List.pairwise_singleton _ _, fun a ha b hb => ?_⟩
        simp only [List.mem_singleton] at hb
        have := hup.2.2 a ha (t1, t2) (by simp)
        rw [hb]
        exact this
      · rw [e, in_append, in_append, in_one, in_one]
        dsimp only
        constructor
        · rintro (h | h)
          · exact .inl (.inl h)
          · rcases Int.lt_or_le t2 x with k | k
            · exact .inr ⟨by omega, by omega⟩
            · exact .inl (.inr ⟨h.1, k⟩)
        · rintro ((h | h) | h)
          · exact .inl h
          · exact .inr ⟨h.1, by omega⟩
          · exact .inr ⟨by omega, by omega⟩
      · rw [e] at ha
        dsimp only at hq
        rcases List.mem_append.1 ha with h | h
        · have := hle a (List.mem_append.2 (.inl h))
          dsimp only at this
          omega
        · simp only [List.mem_singleton] at h
          rw [h]
          dsimp only
          omega
    · have e := jstep_more s0 t1 t2 x1 x2 c
      refine ⟨⟨jstep_in hs.in_ hr, ?_⟩, fun x => ?_, fun q hq a ha => ?_⟩
      · rw [e, List.pairwise_append]
        refine ⟨hs.up, List.pairwise_singleton _ _, fun a ha b hb => ?_⟩
        simp only [List.mem_singleton] at hb
        rw [hb]
        dsimp only
        rcases List.mem_append.1 ha with h | h
        · have := hup.2.2 a h (t1, t2) (by simp)
          dsimp only at this
          omega
        · simp only [List.mem_singleton] at h
          rw [h]
          dsimp only
          omega
      · rw [e, in_append, in_one]
      · rw [e] at ha
        dsimp only at hq
        rcases List.mem_append.1 ha with h | h
        · have := hle a h
          dsimp only at this
          omega
        · simp only [List.mem_singleton] at h
          rw [h]
          exact hq

theorem fold_good : ∀ (m s : List R2), Canon s → (∀ r ∈ m, inB r) → m.Pairwise (fun a b => a.1 ≤ b.1) → (∀ a ∈ s, ∀ r ∈ m, a.1 ≤ r.1) → Canon (m.foldl jstep s) ∧ ∀ x, In x (m.foldl jstep s) ↔ In x s ∨ In x m
  | [], s, h, _, _, _ => ⟨h, fun x => by simp [in_nil]⟩
  | r :: m, s, h, hin, hup, hle => by
    have hp := List.pairwise_cons.1 hup
    obtain ⟨g1, g2, g3⟩ := jstep_good h (hin r (by simp)) (fun a ha => hle a ha r (by simp))
    have ih := fold_good m (jstep s r) g1 (fun q hq => hin q (by simp [hq])) hp.2 (fun a ha q hq => g3 q.1 (hp.1 q hq) a ha)
    refine ⟨ih.1, fun x => ?_⟩
    rw [List.foldl_cons, ih.2 x, g2 x, in_cons, or_assoc]

theorem joined_good {m : List R2} (hin : ∀ r ∈ m, inB r) (hup : m.Pairwise (fun a b => a.1 ≤ b.1)) : Canon (joinedL m) ∧ ∀ x, In x (joinedL m) ↔ In x m := by
  have := fold_good m [] ⟨by simp, .nil⟩ hin hup (by simp)
  refine ⟨this.1, fun x => ?_⟩
  rw [show joinedL m = m.foldl jstep [] from rfl, this.2 x]
  simp [in_nil]

theorem in_within (l : List R2) (x : Int) : In x (withinL l) ↔ (0 ≤ x ∧ x ≤ 1114111) ∧ In x l := by
  unfold In withinL
  simp only [List.mem_map, List.mem_filter, keeps, clip]
  constructor
  · rintro ⟨r, ⟨y, ⟨hy, _⟩, rfl⟩, h1, h2⟩
    dsimp only at h1 h2
    exact ⟨by omega, y, hy, by omega, by omega⟩
  · rintro ⟨h, y, hy, h1, h2⟩
    exact ⟨_, ⟨y, ⟨hy, decide_eq_true (by omega)⟩, rfl⟩, by dsimp only; omega, by dsimp only; omega⟩

/-- Two such lists that have the same numbers are one. -/
theorem canon_one : ∀ {s t : List R2}, Canon s → Canon t → (∀ x, In x s ↔ In x t) → s = t
  | [], [], _, _, _ => rfl
  | [], (c, d) :: t, _, ht, h => by
    have := ht.in_ (c, d) (by simp)
    unfold inB at this
    dsimp only at this
    exact absurd ((h c).2 (in_cons.2 (.inl ⟨Int.le_refl _, by dsimp only; omega⟩))) (in_nil c)
  | (a, b) :: s, [], hs, _, h => by
    have := hs.in_ (a, b) (by simp)
    unfold inB at this
    dsimp only at this
    exact absurd ((h a).1 (in_cons.2 (.inl ⟨Int.le_refl _, by dsimp only; omega⟩))) (in_nil a)
  | (a, b) :: s, (c, d) :: t, hs, ht, h => by
    have ha := hs.in_ (a, b) (by simp)
    have hc := ht.in_ (c, d) (by simp)
    have ps := List.pairwise_cons.1 hs.up
    have pt := List.pairwise_cons.1 ht.up
    unfold inB at ha hc
    dsimp only at ha hc ps pt
    have above_s : ∀ x, In x s → b + 1 < x := fun x ⟨r, hr, h1, _⟩ => by have := ps.1 r hr; omega
    have above_t : ∀ x, In x t → d + 1 < x := fun x ⟨r, hr, h1, _⟩ => by have := pt.1 r hr; omega
    have low_s : ∀ x, In x ((a, b) :: s) → a ≤ x := fun x hx => by
      rcases in_cons.1 hx with h | h
      · exact h.1
      · have := above_s x h; omega
    have low_t : ∀ x, In x ((c, d) :: t) → c ≤ x := fun x hx => by
      rcases in_cons.1 hx with h | h
      · exact h.1
      · have := above_t x h; omega
    have e1 : a = c := by
      have h1 := low_t a ((h a).1 (in_cons.2 (.inl ⟨Int.le_refl _, by dsimp only; omega⟩)))
      have h2 := low_s c ((h c).2 (in_cons.2 (.inl ⟨Int.le_refl _, by dsimp only; omega⟩)))
      omega
    subst e1
    have e2 : b = d := by
      rcases Int.lt_trichotomy b d with k | k | k
      · have := (h (b + 1)).2 (in_cons.2 (.inl ⟨by dsimp only; omega, by dsimp only; omega⟩))
        rcases in_cons.1 this with q | q
        · dsimp only at q; omega
        · have := above_s _ q; omega
      · exact k
      · have := (h (d + 1)).1 (in_cons.2 (.inl ⟨by dsimp only; omega, by dsimp only; omega⟩))
        rcases in_cons.1 this with q | q
        · dsimp only at q; omega
        · have := above_t _ q; omega
    subst e2
    have := canon_one (s := s) (t := t) ⟨fun r hr => hs.in_ r (by simp [hr]), ps.2⟩ ⟨fun r hr => ht.in_ r (by simp [hr]), pt.2⟩ (fun x => by
      constructor
      · intro hx
        have h1 := above_s x hx
        rcases in_cons.1 ((h x).1 (in_cons.2 (.inr hx))) with q | q
        · dsimp only at q; omega
        · exact q
      · intro hx
        have h1 := above_t x hx
        rcases in_cons.1 ((h x).2 (in_cons.2 (.inr hx))) with q | q
        · dsimp only at q; omega
        · exact q)
    rw [this]

/-- What Of answers. -/
theorem of_says (a : Option Addr) (cap : Nat) (l : List R2) (w : World) (hl : Rg w a l) (hb : l.length * 16 ≤ 140737488351232) :
    Calls Tryd.prog 5 #[.slice a l.length cap] w fun e w' => ∃ v s, e = .returned v ∧ Canon s ∧ (∀ x, In x s ↔ (0 ≤ x ∧ x ≤ 1114111) ∧ In x l) ∧ Ow w w' 28 v s := by
  refine (of_any a cap l w hl hb).mono ?_
  rintro e w' ⟨v, m, rfl, hp, hsd, ow⟩
  have hg := joined_good (m := m) (fun r hr => within_in l r (hp.mem_iff.1 hr)) hsd
  exact ⟨v, joinedL m, rfl, hg.1, fun x => by rw [hg.2 x, in_perm hp, in_within], ow⟩
end Go.Proofs.YtflonocoihihaaaDoor

/- How many ranges a set has at the most; no condition. -/
namespace Go.Proofs.YtflonocoihihaaaDoor

theorem canon_len_at : ∀ (s : List R2) (q : Int), (∀ r ∈ s, inB r) → s.Pairwise (fun a b => a.2 + 1 < b.1) → (∀ r ∈ s, q ≤ r.1) → 2 * (s.length : Int) ≤ 1114113 - q ∨ s = []
  | [], _, _, _, _ => .inr rfl
  | r :: s, q, hin, hup, hq => by
    have hp := List.pairwise_cons.1 hup
    have hr := hin r (by simp)
    have h1 := hq r (by simp)
    unfold inB at hr
    rcases canon_len_at s (r.2 + 2) (fun a ha => hin a (by simp [ha])) hp.2 (fun a ha => by have := hp.1 a ha; omega) with h | h
    · left
      simp only [List.length_cons]
      omega
    · left
      subst h
      simp
      omega
theorem canon_len {s : List R2} (h : Canon s) : s.length ≤ 557057 := by
  rcases canon_len_at s 0 h.in_ h.up (fun r hr => (h.in_ r hr).1) with k | k
  · omega
  · subst k
    simp
end Go.Proofs.YtflonocoihihaaaDoor

/- The search for the range in which a number may be; no condition. -/
namespace Go.Proofs.YtflonocoihihaaaDoor
open Go.RowKit

set_option maxRecDepth 100000 in
set_option maxHeartbeats 4000000 in
theorem closure29 (br bs : Nat) (r : Int) (a : Option Addr) (cap : Nat) (s : List R2) (i : Nat) (hi : i < s.length) (y : Int) (hy : y = s[i].2) (w : World) (hr : w.cell? ⟨br, 0, none⟩ = some (.int .i64 r)) (hs : w.cell? ⟨bs, 0, none⟩ = some (.slice a s.length cap)) (hl : Rg w a s) :
    Calls Tryd.prog 30 (#[.int .i64 i] ++ #[.pointer (some ⟨br, 0, none⟩), .pointer (some ⟨bs, 0, none⟩)]) w fun e w' => e = .returned (.bool (decide (r ≤ y))) ∧ Touch (fun _ => False) w w' := by
  obtain ⟨b, o, rfl, _, hcell⟩ : ∃ b o, a = some ⟨b, o, none⟩ ∧ b < w.heap.size ∧ ∀ i (h : i < s.length), w.cell? ⟨b, o + i * 2, none⟩ = some (.int .i64 (s[i]).1) ∧ w.cell? ⟨b, o + i * 2 + 1, none⟩ = some (.int .i64 (s[i]).2) := by
    rcases hl with h | h
    · rw [h] at hi; simp at hi
    · exact h
  obtain ⟨d0, d1⟩ := hcell i hi
  generalize s[i].1 = x at d0
  rw [← hy] at d1
  clear hy
  have hiI : (i : Int) < (s.length : Int) := by omega
  clear hcell
  go_enter Tryd.func30, Tryd.ntmps30
  go_wp2_with fail
  go_quiet (fail)
  go_wp2
  go_ret
  exact ⟨rfl, (Touch.refl _ _).drewN _⟩

set_option maxRecDepth 100000 in
set_option maxHeartbeats 4000000 in
theorem search_any (br bs : Nat) (r : Int) (a : Option Addr) (cap : Nat) (s : List R2) (w : World) (hbr : br < w.heap.size) (hbs : bs < w.heap.size) (hr : w.cell? ⟨br, 0, none⟩ = some (.int .i64 r)) (hs : w.cell? ⟨bs, 0, none⟩ = some (.slice a s.length cap)) (hl : Rg w a s)
    (hmono : ∀ i j (hi : i < s.length) (hj : j < s.length), i ≤ j → s[i].2 ≤ s[j].2) (hb : s.length ≤ 4194304) :
    Calls Tryd.prog 29 #[.int .i64 s.length, .func (.func 30) #[] #[.pointer (some ⟨br, 0, none⟩), .pointer (some ⟨bs, 0, none⟩)]] w fun e w' => ∃ k : Nat, e = .returned (.int .i64 k) ∧ k ≤ s.length ∧ (∀ t (_ : t < k) (hl : t < s.length), ¬ r ≤ s[t].2) ∧ (∀ t (_ : k ≤ t) (hl : t < s.length), r ≤ s[t].2) ∧ Touch (fun _ => False) w w' := by
  have HC := hid (fun (wq : World) (tc : Touch (fun _ => False) w wq) (i : Nat) (hi : i < s.length) (y : Int) (hy : y = s[i].2) => closure29 br bs r a cap s i hi y hy wq ((tc.cell (p := ⟨br, 0, none⟩) hbr id).trans hr) ((tc.cell (p := ⟨bs, 0, none⟩) hbs id).trans hs) (hl.new tc))
  have M := hid hmono
  clear hr hs hl hmono hbr hbs
  go_enter Tryd.func29, Tryd.ntmps29
  go_wp2_with fail
  go_loopg [5, 6] s.length (fun gk x y wr => ∃ lo hi : Nat, x = .int .i64 lo ∧ y = .int .i64 hi ∧ lo ≤ hi ∧ hi ≤ s.length ∧ hi - lo ≤ gk ∧ Hid ((∀ t (_ : t < lo) (hl : t < s.length), ¬ r ≤ s[t].2) ∧ (∀ t (_ : hi ≤ t) (hl : t < s.length), r ≤ s[t].2)) ∧ Touch (fun _ => False) w wr)
  case atStart => exact ⟨0, s.length, rfl, rfl, Nat.zero_le _, Nat.le_refl _, by omega, hid ⟨fun t ht => absurd ht (Nat.not_lt_zero _), fun t h1 h2 => by omega⟩, Touch.refl _ _⟩
  case round =>
    obtain ⟨lo, hi, rfl, rfl, hlh, hin, hg, I, htc⟩ := hrel
    have TC := hid htc
    clear htc
    by_cases hlt : lo < hi
    · have hmid : (lo + hi) / 2 < s.length := by omega
      have HMID := hid hmid
      obtain ⟨y, hy⟩ : ∃ y, y = s[(lo + hi) / 2].2 := ⟨_, rfl⟩
      have hc := HC.out wr TC.out ((lo + hi) / 2) hmid y hy
      rw [show (((lo + hi) / 2 : Nat) : Int) = ((lo : Int) + (hi : Int)) / 2 by omega] at hc
      have HY := hid hy
      clear hy hmid
      by_cases hp : r ≤ y
      · rw [decide_eq_true hp] at hc
        have HP := hid hp
        clear hp
        go_wp2_with fail
        refine hc.mono ?_
        rintro e w' ⟨rfl, tc⟩
        have T2 := hid (TC.out.trans tc (fun _ _ e => e))
        clear tc hc
        go_wp2_with fail
        go_roundg ((lo + hi) / 2 - lo)
        case measure => omega
        case rel =>
          exact ⟨lo, (lo + hi) / 2, rfl, by rw [show ((lo : Int) + (hi : Int)) / 2 = (((lo + hi) / 2 : Nat) : Int) by omega], by omega, by omega, Nat.le_refl _, hid ⟨I.out.1, fun t ht htl => by have h1 := M.out _ t HMID.out htl ht; have h2 := HP.out; rw [HY.out] at h2; omega⟩, T2.out⟩
      · rw [decide_eq_false hp] at hc
        have HP := hid hp
        clear hp
        go_wp2_with fail
        refine hc.mono ?_
        rintro e w' ⟨rfl, tc⟩
        have T2 := hid (TC.out.trans tc (fun _ _ e => e))
        clear tc hc
        go_wp2_with fail
        go_roundg (hi - ((lo + hi) / 2 + 1))
        case measure => omega
        case rel =>
          exact ⟨(lo + hi) / 2 + 1, hi, by rw [show ((lo : Int) + (hi : Int)) / 2 + 1 = (((lo + hi) / 2 + 1 : Nat) : Int) by omega], rfl, by omega, hin, Nat.le_refl _, hid ⟨fun t ht htl => by have h1 := M.out t _ htl HMID.out (by omega); have h2 := HP.out; rw [HY.out] at h2; omega, I.out.2⟩, T2.out⟩
    · obtain rfl : hi = lo := by omega
      go_wp2
      go_ret
      exact ⟨hi, rfl, hin, I.out.1, I.out.2, TC.out⟩
end Go.Proofs.YtflonocoihihaaaDoor

/- How many numbers a list of ranges has, plain facts; no condition beside those told. -/
namespace Go.Proofs.YtflonocoihihaaaDoor

def hasB (x : Int) (s : List R2) : Bool := s.any fun r => decide (r.1 ≤ x) && decide (x ≤ r.2)
theorem hasB_iff {x : Int} {s : List R2} : hasB x s = true ↔ In x s := by
  unfold hasB In
  simp [List.any_eq_true]
theorem hasB_eq {x : Int} {s : List R2} {p : Bool} (h : In x s ↔ p = true) : hasB x s = p := by
  rw [Bool.eq_iff_iff, hasB_iff, h]

def cnt (N : Nat) (p : Nat → Bool) : Nat := (List.range N).countP p
theorem cnt_zero (p : Nat → Bool) : cnt 0 p = 0 := rfl
theorem cnt_succ (N : Nat) (p : Nat → Bool) : cnt (N + 1) p = cnt N p + (if p N = true then 1 else 0) := by
  unfold cnt
  rw [List.range_succ, List.countP_append, List.countP_singleton]
theorem cnt_or (p q : Nat → Bool) : ∀ N, cnt N (fun i => p i || q i) + cnt N (fun i => p i && q i) = cnt N p + cnt N q
  | 0 => rfl
  | N + 1 => by
    have := cnt_or p q N
    rw [cnt_succ, cnt_succ, cnt_succ, cnt_succ]
    cases p N <;> cases q N <;> simp <;> omega
theorem cnt_not (p : Nat → Bool) : ∀ N, cnt N p + cnt N (fun i => !p i) = N
  | 0 => rfl
  | N + 1 => by
    have := cnt_not p N
    rw [cnt_succ, cnt_succ]
    cases p N <;> simp <;> omega
theorem cnt_none (p : Nat → Bool) (h : ∀ i, p i = false) : ∀ N, cnt N p = 0
  | 0 => rfl
  | N + 1 => by rw [cnt_succ, cnt_none p h N, h N]; rfl
theorem cnt_same (p q : Nat → Bool) : ∀ N, (∀ i, i < N → p i = q i) → cnt N p = cnt N q
  | 0, _ => rfl
  | N + 1, h => by rw [cnt_succ, cnt_succ, cnt_same p q N (fun i hi => h i (by omega)), h N (by omega)]
theorem cnt_le (p q : Nat → Bool) : ∀ N, (∀ i, i < N → p i = true → q i = true) → cnt N p ≤ cnt N q
  | 0, _ => Nat.le_refl _
  | N + 1, h => by
    have h1 := cnt_le p q N (fun i hi => h i (by omega))
    have h2 := h N (by omega)
    rw [cnt_succ, cnt_succ]
    cases hp : p N
    · simp; omega
    · rw [h2 hp]; simp; omega
theorem cnt_iv_at (a b : Int) (ha : 0 ≤ a) (hab : a ≤ b + 1) : ∀ N : Nat, (cnt N (fun i => decide (a ≤ (i : Int)) && decide ((i : Int) ≤ b)) : Int) = min (N : Int) (b + 1) - min (N : Int) a
  | 0 => by rw [cnt_zero]; omega
  | N + 1 => by
    have := cnt_iv_at a b ha hab N
    rw [cnt_succ]
    by_cases h1 : a ≤ (N : Int) <;> by_cases h2 : (N : Int) ≤ b
    · simp only [h1, h2, decide_true, Bool.and_self, if_true]
      omega
    · simp only [h1, h2, decide_true, decide_false, Bool.and_false, Bool.false_eq_true, if_false]
      omega
    · simp only [h1, h2, decide_true, decide_false, Bool.false_and, Bool.false_eq_true, if_false]
      omega
    · simp only [h1, h2, decide_false, Bool.false_and, Bool.false_eq_true, if_false]
      omega
def sizeL (s : List R2) : Int := (s.map fun r => r.2 - r.1 + 1).sum
theorem sizeL_nil : sizeL [] = 0 := rfl
theorem sizeL_cons (r : R2) (s : List R2) : sizeL (r :: s) = (r.2 - r.1 + 1) + sizeL s := by simp [sizeL]
theorem sizeL_append (s t : List R2) : sizeL (s ++ t) = sizeL s + sizeL t := by simp [sizeL]

theorem size_cnt_at (N : Nat) : ∀ s : List R2, (∀ r ∈ s, 0 ≤ r.1 ∧ r.1 ≤ r.2 ∧ r.2 < N) → s.Pairwise (fun a b => a.2 + 1 < b.1) → sizeL s = (cnt N (fun i => hasB i s) : Nat)
  | [], _, _ => by
    rw [cnt_none _ (fun i => by simp [hasB]) N]
    rfl
  | r :: s, hin, hup => by
    have hp := List.pairwise_cons.1 hup
    have hr := hin r (by simp)
    have ih := size_cnt_at N s (fun a ha => hin a (by simp [ha])) hp.2
    have h1 := cnt_or (fun i => decide (r.1 ≤ (i : Int)) && decide ((i : Int) ≤ r.2)) (fun i => hasB i s) N
    have h2 : cnt N (fun i => (decide (r.1 ≤ (i : Int)) && decide ((i : Int) ≤ r.2)) && hasB i s) = 0 := by
      refine cnt_none _ (fun i => ?_) N
      by_cases h : (decide (r.1 ≤ (i : Int)) && decide ((i : Int) ≤ r.2)) = true
      · by_cases k : hasB (i : Int) s = true
        · obtain ⟨q, hq, h3, _⟩ := hasB_iff.1 k
          have := hp.1 q hq
          simp only [Bool.and_eq_true, decide_eq_true_eq] at h
          omega
        · simp [k]
      · rw [Bool.not_eq_true] at h
        simp [h]
    have h3 := cnt_iv_at r.1 r.2 hr.1 (by omega) N
    have h4 : cnt N (fun i => hasB i (r :: s)) = cnt N (fun i => (decide (r.1 ≤ (i : Int)) && decide ((i : Int) ≤ r.2)) || hasB i s) := by
      refine cnt_same _ _ N (fun i _ => ?_)
      simp [hasB]
    rw [sizeL_cons, h4, ih]
    rw [h2] at h1
    omega

theorem size_cnt {s : List R2} (h : Canon s) : sizeL s = (cnt 1114112 (fun i => hasB i s) : Nat) := by
  refine size_cnt_at 1114112 s (fun r hr => ?_) h.up
  have := h.in_ r hr
  unfold inB at this
  exact ⟨this.1, by omega, by omega⟩
theorem cnt_top (N : Nat) (p : Nat → Bool) : cnt N p ≤ N := by
  have := cnt_not p N
  omega
theorem sizeL_pos {s : List R2} (h : Canon s) : 0 ≤ sizeL s ∧ sizeL s ≤ 1114112 := by
  rw [size_cnt h]
  have := cnt_top 1114112 (fun i => hasB i s)
  omega
theorem size_not {s n : List R2} (h : Canon s) (k : Canon n) (hn : ∀ x, In x n ↔ (0 ≤ x ∧ x ≤ 1114111) ∧ ¬ In x s) : sizeL s + sizeL n = 1114112 := by
  rw [size_cnt h, size_cnt k, cnt_same (fun i => hasB i n) (fun i => !hasB i s) 1114112 (fun i hi => ?_)]
  · have := cnt_not (fun i => hasB i s) 1114112
    omega
  · refine hasB_eq ?_
    rw [hn, Bool.not_eq_true', ← Bool.not_eq_true, hasB_iff]
    constructor
    · exact fun h => h.2
    · exact fun h => ⟨by omega, h⟩
theorem size_or {s t o a : List R2} (hs : Canon s) (ht : Canon t) (ho : Canon o) (ha : Canon a) (h1 : ∀ x, In x o ↔ In x s ∨ In x t) (h2 : ∀ x, In x a ↔ In x s ∧ In x t) : sizeL o = sizeL s + sizeL t - sizeL a := by
  have := cnt_or (fun i => hasB i s) (fun i => hasB i t) 1114112
  rw [size_cnt hs, size_cnt ht, size_cnt ho, size_cnt ha,
    cnt_same (fun i => hasB i o) (fun i => hasB i s || hasB i t) 1114112 (fun i hi => hasB_eq (by rw [h1, Bool.or_eq_true, hasB_iff, hasB_iff])),
    cnt_same (fun i => hasB i a) (fun i => hasB i s && hasB i t) 1114112 (fun i hi => hasB_eq (by rw [h2, Bool.and_eq_true, hasB_iff, hasB_iff]))]
  omega
end Go.Proofs.YtflonocoihihaaaDoor
