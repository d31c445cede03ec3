/- Texts of this proof, one behind the other: what each says stands ahead of it. -/
import Derived.Test.YtdhhcefmmojcmaaGreatDoorSa
/- Of: any ranges, cut to the numbers that there are; conditions: the ranges fit into memory. -/
namespace Go.Proofs.YtdhhcefmmojcmaaGreatDoor
open Go.RowKit

def clip (x : R2) : R2 := (max x.1 0, min x.2 1114111)
def keeps (x : R2) : Bool := decide ((clip x).1 ≤ (clip x).2)
def withinL (l : List R2) : List R2 := (l.filter keeps).map clip
theorem within_yes (l : List R2) (k : Nat) (h : k < l.length) (hk : (clip l[k]).1 ≤ (clip l[k]).2) : withinL (l.take (k + 1)) = withinL (l.take k) ++ [clip l[k]] := by
  unfold withinL
  rw [List.take_succ_eq_append_getElem h, List.filter_append, List.map_append]
  simp [keeps, hk]
theorem within_no (l : List R2) (k : Nat) (h : k < l.length) (hk : ¬ (clip l[k]).1 ≤ (clip l[k]).2) : withinL (l.take (k + 1)) = withinL (l.take k) := by
  unfold withinL
  rw [List.take_succ_eq_append_getElem h, List.filter_append, List.map_append]
  simp [keeps, hk]
theorem within_len (l : List R2) (k : Nat) (h : k ≤ l.length) : (withinL (l.take k)).length ≤ k := by
  unfold withinL
  rw [List.length_map]
  have := List.length_filter_le keeps (l.take k)
  rw [List.length_take] at this
  omega
theorem within_in (l : List R2) : ∀ x ∈ withinL l, inB x := by
  intro x hx
  unfold withinL at hx
  simp only [List.mem_map, List.mem_filter, keeps, decide_eq_true_eq] at hx
  obtain ⟨y, ⟨_, h⟩, rfl⟩ := hx
  unfold clip at *
  unfold inB
  dsimp only at *
  omega

set_option maxRecDepth 100000 in
set_option maxHeartbeats 4000000 in
theorem of_any (a : Option Addr) (cap : Nat) (l : List R2) (w : World) (hl : Rg w a l) (hb : l.length * 16 ≤ 140737488351232) :
    Calls Tryz.prog 22 #[.slice a l.length cap] w fun e w' => ∃ v m, e = .returned v ∧ m.Perm (withinL l) ∧ m.Pairwise (fun a b => a.1 ≤ b.1) ∧ Ow w w' 25 v (joinedL m) := by
  obtain ⟨i0, hi33, hz0, hz1, hz2⟩ := info_parts info33
  have HL := hid hl
  clear hl
  go_enter Tryz.func22, Tryz.ntmps22
  go_wp2_with fail
  go_loopg [3, 8] l.length (fun gk v i wr => ∃ k : Nat, k + gk = l.length ∧ i = .int .i64 (k : Nat) ∧ Ow w wr 24 v (withinL (l.take k)))
  case atStart => exact ⟨0, by omega, rfl, ⟨by simpa [withinL, flatR] using World.ownsRow_nil _ _ _ _, by intro g h; simp [Value.ownBlock] at h, Touch.refl _ _⟩⟩
  case round =>
    obtain ⟨k, hk, rfl, how⟩ := hrel
    have OW := hid how
    have HLR := hid (HL.out.new how.touch)
    have hlen := within_len l k (by omega)
    obtain ⟨av, cv, hav⟩ := own_shape how.own
    subst hav
    clear how
    by_cases hlt : k < l.length
    · obtain ⟨b, o, ha, hbl, hcell⟩ : ∃ b o, a = some ⟨b, o, none⟩ ∧ b < wr.heap.size ∧ ∀ i (h : i < l.length), wr.cell? ⟨b, o + i * 2, none⟩ = some (.int .i64 (l[i]).1) ∧ wr.cell? ⟨b, o + i * 2 + 1, none⟩ = some (.int .i64 (l[i]).2) := by
        rcases HLR.out with h | h
        · rw [h] at hlt; simp at hlt
        · exact h
      subst ha
      obtain ⟨d0, d1⟩ := hcell k hlt
      obtain ⟨r, hr⟩ : ∃ r, r = l[k] := ⟨_, rfl⟩
      rw [← hr] at d0 d1
      have WY := hid (fun hk => within_yes l k hlt hk)
      have WN := hid (fun hk => within_no l k hlt hk)
      rw [← hr] at WY WN
      obtain ⟨x, y⟩ := r
      dsimp only at d0 d1
      clear hcell hr
      obtain ⟨s, hs⟩ : ∃ s, s = withinL (l.take k) := ⟨_, rfl⟩
      rw [← hs] at OW WY WN hlen ⊢
      clear hs
      obtain ⟨M, hM⟩ : ∃ M, M = s.length := ⟨_, rfl⟩
      rw [← hM] at OW ⊢
      have HM := hid hM
      have hMk : M ≤ k := by omega
      clear hM
      obtain ⟨rb, hrb⟩ : ∃ rb, rb = wr.heap.size := ⟨_, rfl⟩
      have OA := hid (OW.out.alloc (.cells #[.int .i64 x, .int .i64 y] 60))
      have RB := hid (show (wr.alloc (.cells #[.int .i64 x, .int .i64 y] 60)).heap[rb]? = some (.cells #[.int .i64 x, .int .i64 y] 60 (0, 0)) from by rw [hrb]; exact three_new _ _ _)
      go_wp2_with fail
      rw [← hrb]
      have hown : ∀ g, (Value.slice av M cv).ownBlock = some g → g ≠ rb := fun g e => by
        have := (OW.out.own.lt g e).2
        omega
      have hwrb : w.heap.size ≤ rb := by rw [hrb]; exact OW.out.touch.size
      have HOWN := hid hown
      clear hrb hown OW
      generalize wr.alloc (.cells #[.int .i64 x, .int .i64 y] 60) = wA at *
      refine (common_any x y 0 1114111 wA).mono ?_
      rintro e w1 ⟨rfl, tc⟩
      have OB := hid (OA.out.still tc)
      have RC := hid (show w1.heap[rb]? = some (.cells #[.int .i64 x, .int .i64 y] 60 (0, 0)) from (tc.block rb (lt_of_block RB.out) id).trans RB.out)
      have q0 := cell_two0 RC.out
      have q1 := cell_two1 RC.out
      have qf0 := free_two (i := 0) RC.out
      have qf1 := free_two (i := 1) RC.out
      clear tc d0 d1
      obtain ⟨cx, hcx⟩ : ∃ cx, cx = max x 0 := ⟨_, rfl⟩
      obtain ⟨cy, hcy⟩ : ∃ cy, cy = min y 1114111 := ⟨_, rfl⟩
      rw [← hcx, ← hcy]
      have HCX := hid hcx
      have HCY := hid hcy
      clear hcx hcy
      have RD := hid (two_set1 (x := .int .i64 cy) (two_set0 (x := .int .i64 cx) RC.out))
      have OC := hid (show Ow w ((w1.setCell ⟨rb, 0, none⟩ (.int .i64 cx)).setCell ⟨rb, 1, none⟩ (.int .i64 cy)) 24 (.slice av M cv) s from ⟨ownsRow_setCell_other (ownsRow_setCell_other OB.out.own (fun e => HOWN.out _ e rfl) _) (fun e => HOWN.out _ e rfl) _, OB.out.new, (OB.out.touch.setCell (p := ⟨rb, 0, none⟩) (fun h => by simp at h; omega) _).setCell (p := ⟨rb, 1, none⟩) (fun h => by simp at h; omega) _⟩)
      by_cases hcc : cx ≤ cy
      · go_upto_region 7 with fail
        generalize ((w1.setCell ⟨rb, 0, none⟩ (.int .i64 cx)).setCell ⟨rb, 1, none⟩ (.int .i64 cy)) = wD at *
        have z0 := cell_two0 RD.out
        have z1 := cell_two1 RD.out
        clear q0 q1 qf0 qf1
        go_wp2_with (at_builtin; refine wpList_append_own_at _ rfl _ _ 24 rfl 0 60 i0 (.agg #[.int .i64 0, .int .i64 0]) 2 16 Tryz.underlying24 hi33 hz0 hz1 hz2 rfl (by decide) _ _ _ rfl (OC.out.own.alloc _) ⟨wD.heap.size, 0, none⟩ 1 1 [.int .i64 cx, .int .i64 cy] rfl rfl (row_new wD [.int .i64 cx, .int .i64 cy] 60) (by intro u hu; simp at hu; rcases hu with rfl | rfl <;> rfl) (by unfold maxLen; omega) (by omega) (Nat.zero_le _) ?_)
        intro v' w4 hown hgrow _ hat
        have OE := hid (OC.out.more (x := (cx, cy)) hown hgrow hat)
        have HCC := hid hcc
        clear hown hgrow hat
        go_wp2
        go_roundg (gk - 1)
        case measure => omega
        case rel =>
          refine ⟨k + 1, by omega, by go_num, ?_⟩
          have := WY.out (by unfold clip; dsimp only; rw [← HCX.out, ← HCY.out]; exact HCC.out)
          rw [this]
          unfold clip
          dsimp only
          rw [← HCX.out, ← HCY.out]
          exact OE.out
      · go_wp2
        go_roundg (gk - 1)
        case measure => omega
        case rel =>
          refine ⟨k + 1, by omega, by go_num, ?_⟩
          have := WN.out (by unfold clip; dsimp only; rw [← HCX.out, ← HCY.out]; exact hcc)
          rw [this]
          exact OC.out
    · obtain rfl : k = l.length := by omega
      rw [List.take_length] at OW hlen ⊢
      obtain ⟨s, hs⟩ : ∃ s, s = withinL l := ⟨_, rfl⟩
      have HWI := hid (within_in l)
      rw [← hs] at OW hlen HWI ⊢
      have HSS := hid hs
      clear hs
      have K := hid (sort_any OW.out (by omega))
      go_wp2_with fail
      refine K.out.mono ?_
      rintro e w1 ⟨rfl, s', hp, hsd, ⟨a1, c1, hv, hrg⟩, tc⟩
      have hl1 := hp.length_eq
      have KJ := hid (joined_any a1 c1 s' w1 hrg (fun x hx => HWI.out x (hp.mem_iff.1 hx)) (by omega))
      have HP := hid hp
      have HSD := hid hsd
      have TC := hid tc
      simp only [Value.slice.injEq] at hv
      obtain ⟨rfl, h2, rfl⟩ := hv
      rw [← h2] at KJ
      clear hp hsd hrg tc K hl1 h2
      go_wp2_with fail
      refine KJ.out.mono ?_
      rintro e w2 ⟨v2, rfl, ow⟩
      have OW2 := hid ow
      obtain ⟨a2, c2, hav⟩ := own_shape ow.own
      subst hav
      clear ow KJ
      go_wp2
      go_ret
      exact ⟨_, s', rfl, HSS.out ▸ HP.out, HSD.out, ⟨OW2.out.own, fun g e => Nat.le_trans TC.out.size (OW2.out.new g e), TC.out.trans OW2.out.touch (fun _ _ e => e)⟩⟩
end Go.Proofs.YtdhhcefmmojcmaaGreatDoor

/- Plain facts on lists of ranges: joined ranges rise and don't touch, and such a list is told by its numbers; no condition beside those told. -/
namespace Go.Proofs.YtdhhcefmmojcmaaGreatDoor

def In (x : Int) (l : List R2) : Prop := ∃ r ∈ l, r.1 ≤ x ∧ x ≤ r.2
structure Canon (s : List R2) : Prop where
  in_ : ∀ r ∈ s, inB r
  up : s.Pairwise (fun a b => a.2 + 1 < b.1)

theorem in_nil (x : Int) : ¬ In x [] := fun ⟨_, h, _⟩ => by simp at h
theorem in_append {x : Int} {l m : List R2} : In x (l ++ m) ↔ In x l ∨ In x m := by
  unfold In
  constructor
  · rintro ⟨r, hr, h⟩
    rcases List.mem_append.1 hr with k | k
    · exact .inl ⟨r, k, h⟩
    · exact .inr ⟨r, k, h⟩
  · rintro (⟨r, hr, h⟩ | ⟨r, hr, h⟩)
    · exact ⟨r, List.mem_append.2 (.inl hr), h⟩
    · exact ⟨r, List.mem_append.2 (.inr hr), h⟩
theorem in_one {x : Int} {r : R2} : In x [r] ↔ r.1 ≤ x ∧ x ≤ r.2 := by
  unfold In
  simp
theorem in_cons {x : Int} {r : R2} {l : List R2} : In x (r :: l) ↔ (r.1 ≤ x ∧ x ≤ r.2) ∨ In x l := by
  have := @in_append x [r] l
  rw [in_one] at this
  simpa using this
theorem in_perm {x : Int} {l m : List R2} (h : l.Perm m) : In x l ↔ In x m := by
  unfold In
  constructor
  · rintro ⟨r, hr, k⟩; exact ⟨r, h.mem_iff.1 hr, k⟩
  · rintro ⟨r, hr, k⟩; exact ⟨r, h.mem_iff.2 hr, k⟩

theorem jstep_good {s : List R2} {r : R2} (hs : Canon s) (hr : inB r) (hle : ∀ a ∈ s, a.1 ≤ r.1) : Canon (jstep s r) ∧ (∀ x, In x (jstep s r) ↔ In x s ∨ (r.1 ≤ x ∧ x ≤ r.2)) ∧ (∀ q : Int, r.1 ≤ q → ∀ a ∈ jstep s r, a.1 ≤ q) := by
  rcases List.eq_nil_or_concat s with h | ⟨s0, t, h⟩
  · subst h
    have e : jstep [] r = [r] := rfl
    rw [e]
    refine ⟨⟨by simpa using hr, List.pairwise_singleton _ _⟩, fun x => ?_, fun q hq a ha => ?_⟩
    · rw [in_one]
      constructor
      · exact .inr
      · rintro (h | h)
        · exact absurd h (in_nil x)
        · exact h
    · simp only [List.mem_singleton] at ha
      rw [ha]
      exact hq
  · rw [List.concat_eq_append] at h
    subst h
    obtain ⟨t1, t2⟩ := t
    obtain ⟨x1, x2⟩ := r
    have ht := hs.in_ (t1, t2) (by simp)
    have hl := hle (t1, t2) (by simp)
    have hup := List.pairwise_append.1 hs.up
    unfold inB at ht hr
    dsimp only at ht hr hl
    by_cases c : x1 ≤ t2 + 1
    · have e := jstep_join s0 t1 t2 x1 x2 c
      refine ⟨⟨jstep_in hs.in_ hr, ?_⟩, fun x => ?_, fun q hq a ha => ?_⟩
      · rw [e, List.pairwise_append]
        refine ⟨hup.1, List.pairwise_singleton _ _, fun a ha b hb => ?_⟩
        simp only [List.mem_singleton] at hb
        have := hup.2.2 a ha (t1, t2) (by simp)
        rw [hb]
        exact this
      · rw [e, in_append, in_append, in_one, in_one]
        dsimp only
        constructor
        · rintro (h | h)
          · exact .inl (.inl h)
          · rcases Int.lt_or_le t2 x with k | k
            · exact .inr ⟨by omega, by omega⟩
            · exact .inl (.inr ⟨h.1, k⟩)
        · rintro ((h | h) | h)
          · exact .inl h
          · exact .inr ⟨h.1, by omega⟩
          · exact .inr ⟨by omega, by omega⟩
      · rw [e] at ha
        dsimp only at hq
        rcases List.mem_append.1 ha with h | h
        · have := hle a (List.mem_append.2 (.inl h))
          dsimp only at this
          omega
        · simp only [List.mem_singleton] at h
          rw [h]
          dsimp only
          omega
    · have e := jstep_more s0 t1 t2 x1 x2 c
      refine ⟨⟨jstep_in hs.in_ hr, ?_⟩, fun x => ?_, fun q hq a ha => ?_⟩
      · rw [e, List.pairwise_append]
        refine ⟨hs.up, List.pairwise_singleton _ _, fun a ha b hb => ?_⟩
        simp only [List.mem_singleton] at hb
        rw [hb]
        dsimp only
        rcases List.mem_append.1 ha with h | h
        · have := hup.2.2 a h (t1, t2) (by simp)
          dsimp only at this
          omega
        · simp only [List.mem_singleton] at h
          rw [h]
          dsimp only
          omega
      · rw [e, in_append, in_one]
      · rw [e] at ha
        dsimp only at hq
        rcases List.mem_append.1 ha with h | h
        · have := hle a h
          dsimp only at this
          omega
        · simp only [List.mem_singleton] at h
          rw [h]
          exact hq

theorem fold_good : ∀ (m s : List R2), Canon s → (∀ r ∈ m, inB r) → m.Pairwise (fun a b => a.1 ≤ b.1) → (∀ a ∈ s, ∀ r ∈ m, a.1 ≤ r.1) → Canon (m.foldl jstep s) ∧ ∀ x, In x (m.foldl jstep s) ↔ In x s ∨ In x m
  | [], s, h, _, _, _ => ⟨h, fun x => by simp [in_nil]⟩
  | r :: m, s, h, hin, hup, hle => by
    have hp := List.pairwise_cons.1 hup
    obtain ⟨g1, g2, g3⟩ := jstep_good h (hin r (by simp)) (fun a ha => hle a ha r (by simp))
    have ih := fold_good m (jstep s r) g1 (fun q hq => hin q (by simp [hq])) hp.2 (fun a ha q hq => g3 q.1 (hp.1 q hq) a ha)
    refine ⟨ih.1, fun x => ?_⟩
    rw [List.foldl_cons, ih.2 x, g2 x, in_cons, or_assoc]

theorem joined_good {m : List R2} (hin : ∀ r ∈ m, inB r) (hup : m.Pairwise (fun a b => a.1 ≤ b.1)) : Canon (joinedL m) ∧ ∀ x, In x (joinedL m) ↔ In x m := by
  have := fold_good m [] ⟨by simp, .nil⟩ hin hup (by simp)
  refine ⟨this.1, fun x => ?_⟩
  rw [show joinedL m = m.foldl jstep [] from rfl, this.2 x]
  simp [in_nil]

theorem in_within (l : List R2) (x : Int) : In x (withinL l) ↔ (0 ≤ x ∧ x ≤ 1114111) ∧ In x l := by
  unfold In withinL
  simp only [List.mem_map, List.mem_filter, keeps, clip]
  constructor
  · rintro ⟨r, ⟨y, ⟨hy, _⟩, rfl⟩, h1, h2⟩
    dsimp only at h1 h2
    exact ⟨by omega, y, hy, by omega, by omega⟩
  · rintro ⟨h, y, hy, h1, h2⟩
    exact ⟨_, ⟨y, ⟨hy, decide_eq_true (by omega)⟩, rfl⟩, by dsimp only; omega, by dsimp only; omega⟩

/-- Two such lists that have the same numbers are one. -/
theorem canon_one : ∀ {s t : List R2}, Canon s → Canon t → (∀ x, In x s ↔ In x t) → s = t
  | [], [], _, _, _ => rfl
  | [], (c, d) :: t, _, ht, h => by
    have := ht.in_ (c, d) (by simp)
    unfold inB at this
    dsimp only at this
    exact absurd ((h c).2 (in_cons.2 (.inl ⟨Int.le_refl _, by dsimp only; omega⟩))) (in_nil c)
  | (a, b) :: s, [], hs, _, h => by
    have := hs.in_ (a, b) (by simp)
    unfold inB at this
    dsimp only at this
    exact absurd ((h a).1 (in_cons.2 (.inl ⟨Int.le_refl _, by dsimp only; omega⟩))) (in_nil a)
  | (a, b) :: s, (c, d) :: t, hs, ht, h => by
    have ha := hs.in_ (a, b) (by simp)
    have hc := ht.in_ (c, d) (by simp)
    have ps := List.pairwise_cons.1 hs.up
    have pt := List.pairwise_cons.1 ht.up
    unfold inB at ha hc
    dsimp only at ha hc ps pt
    have above_s : ∀ x, In x s → b + 1 < x := fun x ⟨r, hr, h1, _⟩ => by have := ps.1 r hr; omega
    have above_t : ∀ x, In x t → d + 1 < x := fun x ⟨r, hr, h1, _⟩ => by have := pt.1 r hr; omega
    have low_s : ∀ x, In x ((a, b) :: s) → a ≤ x := fun x hx => by
      rcases in_cons.1 hx with h | h
      · exact h.1
      · have := above_s x h; omega
    have low_t : ∀ x, In x ((c, d) :: t) → c ≤ x := fun x hx => by
      rcases in_cons.1 hx with h | h
      · exact h.1
      · have := above_t x h; omega
    have e1 : a = c := by
      have h1 := low_t a ((h a).1 (in_cons.2 (.inl ⟨Int.le_refl _, by dsimp only; omega⟩)))
      have h2 := low_s c ((h c).2 (in_cons.2 (.inl ⟨Int.le_refl _, by dsimp only; omega⟩)))
      omega
    subst e1
    have e2 : b = d := by
      rcases Int.lt_trichotomy b d with k | k | k
      · have := (h (b + 1)).2 (in_cons.2 (.inl ⟨by dsimp only; omega, by dsimp only; omega⟩))
        rcases in_cons.1 this with q | q
        · dsimp only at q; omega
        · have := above_s _ q; omega
      · exact k
      · have := (h (d + 1)).1 (in_cons.2 (.inl ⟨by dsimp only; omega, by dsimp only; omega⟩))
        rcases in_cons.1 this with q | q
        · dsimp only at q; omega
        · have := above_t _ q; omega
    subst e2
    have := canon_one (s := s) (t := t) ⟨fun r hr => hs.in_ r (by simp [hr]), ps.2⟩ ⟨fun r hr => ht.in_ r (by simp [hr]), pt.2⟩ (fun x => by
      constructor
      · intro hx
        have h1 := above_s x hx
        rcases in_cons.1 ((h x).1 (in_cons.2 (.inr hx))) with q | q
        · dsimp only at q; omega
        · exact q
      · intro hx
        have h1 := above_t x hx
        rcases in_cons.1 ((h x).2 (in_cons.2 (.inr hx))) with q | q
        · dsimp only at q; omega
        · exact q)
    rw [this]

/-- What Of answers. -/
theorem of_says (a : Option Addr) (cap : Nat) (l : List R2) (w : World) (hl : Rg w a l) (hb : l.length * 16 ≤ 140737488351232) :
    Calls Tryz.prog 22 #[.slice a l.length cap] w fun e w' => ∃ v s, e = .returned v ∧ Canon s ∧ (∀ x, In x s ↔ (0 ≤ x ∧ x ≤ 1114111) ∧ In x l) ∧ Ow w w' 25 v s := by
  refine (of_any a cap l w hl hb).mono ?_
  rintro e w' ⟨v, m, rfl, hp, hsd, ow⟩
  have hg := joined_good (m := m) (fun r hr => within_in l r (hp.mem_iff.1 hr)) hsd
  exact ⟨v, joinedL m, rfl, hg.1, fun x => by rw [hg.2 x, in_perm hp, in_within], ow⟩
end Go.Proofs.YtdhhcefmmojcmaaGreatDoor

/- How many ranges a set has at the most; no condition. -/
namespace Go.Proofs.YtdhhcefmmojcmaaGreatDoor

theorem canon_len_at : ∀ (s : List R2) (q : Int), (∀ r ∈ s, inB r) → s.Pairwise (fun a b => a.2 + 1 < b.1) → (∀ r ∈ s, q ≤ r.1) → 2 * (s.length : Int) ≤ 1114113 - q ∨ s = []
  | [], _, _, _, _ => .inr rfl
  | r :: s, q, hin, hup, hq => by
    have hp := List.pairwise_cons.1 hup
    have hr := hin r (by simp)
    have h1 := hq r (by simp)
    unfold inB at hr
    rcases canon_len_at s (r.2 + 2) (fun a ha => hin a (by simp [ha])) hp.2 (fun a ha => by have := hp.1 a ha; omega) with h | h
    · left
      simp only [List.length_cons]
      omega
    · left
      subst h
      simp
      omega
theorem canon_len {s : List R2} (h : Canon s) : s.length ≤ 557057 := by
  rcases canon_len_at s 0 h.in_ h.up (fun r hr => (h.in_ r hr).1) with k | k
  · omega
  · subst k
    simp
end Go.Proofs.YtdhhcefmmojcmaaGreatDoor

/- Plain facts: what isn't in a set, and what is in both; no condition beside those told. -/
namespace Go.Proofs.YtdhhcefmmojcmaaGreatDoor

def nstep (p : List R2 × Int) (r : R2) : List R2 × Int := (if p.2 < r.1 then p.1 ++ [(p.2, r.1 - 1)] else p.1, r.2 + 1)
def notAcc (s : List R2) : List R2 × Int := s.foldl nstep ([], 0)
def notL (s : List R2) : List R2 := if (notAcc s).2 ≤ 1114111 then (notAcc s).1 ++ [((notAcc s).2, 1114111)] else (notAcc s).1

theorem canon_snoc {o : List R2} {r : R2} (h : Canon o) (hr : inB r) (hq : ∀ q ∈ o, q.2 + 1 < r.1) : Canon (o ++ [r]) := by
  refine ⟨fun q hq' => ?_, ?_⟩
  · rcases List.mem_append.1 hq' with k | k
    · exact h.in_ q k
    · simp only [List.mem_singleton] at k
      rw [k]
      exact hr
  · rw [List.pairwise_append]
    refine ⟨h.up, List.pairwise_singleton _ _, fun a ha b hb => ?_⟩
    simp only [List.mem_singleton] at hb
    rw [hb]
    exact hq a ha

theorem not_good : ∀ (m o : List R2) (n : Int), Canon o → (∀ q ∈ o, q.2 + 1 < n) → 0 ≤ n → n ≤ 1114112 → (∀ r ∈ m, inB r) → m.Pairwise (fun a b => a.2 + 1 < b.1) → (∀ r ∈ m, n ≤ r.1) →
    Canon (m.foldl nstep (o, n)).1 ∧ (∀ q ∈ (m.foldl nstep (o, n)).1, q.2 + 1 < (m.foldl nstep (o, n)).2) ∧ n ≤ (m.foldl nstep (o, n)).2 ∧ (m.foldl nstep (o, n)).2 ≤ 1114112 ∧ (∀ r ∈ m, r.2 < (m.foldl nstep (o, n)).2) ∧
      ∀ x, In x (m.foldl nstep (o, n)).1 ↔ In x o ∨ (n ≤ x ∧ x < (m.foldl nstep (o, n)).2 ∧ ¬ In x m)
  | [], o, n, hc, hq, h0, h1, _, _, _ => ⟨hc, hq, Int.le_refl _, h1, by simp, fun x => by
      simp only [List.foldl_nil]
      constructor
      · exact .inl
      · rintro (h | h)
        · exact h
        · omega⟩
  | (a, b) :: m, o, n, hc, hq, h0, h1, hin, hup, hle => by
    have hp := List.pairwise_cons.1 hup
    have hr := hin (a, b) (by simp)
    have hn := hle (a, b) (by simp)
    unfold inB at hr
    dsimp only at hr hn hp
    have key : Canon (nstep (o, n) (a, b)).1 ∧ (∀ q ∈ (nstep (o, n) (a, b)).1, q.2 + 1 < b + 1) ∧ ∀ x, In x (nstep (o, n) (a, b)).1 ↔ In x o ∨ (n ≤ x ∧ x < a) := by
      unfold nstep
      dsimp only
      by_cases c : n < a
      · rw [if_pos c]
        refine ⟨canon_snoc hc (by unfold inB; dsimp only; omega) hq, fun q hq' => ?_, fun x => ?_⟩
        · rcases List.mem_append.1 hq' with k | k
          · have := hq q k
            omega
          · simp only [List.mem_singleton] at k
            rw [k]
            dsimp only
            omega
        · rw [in_append, in_one]
          dsimp only
          constructor
          · rintro (h | h)
            · exact .inl h
            · exact .inr (by omega)
          · rintro (h | h)
            · exact .inl h
            · exact .inr (by omega)
      · rw [if_neg c]
        refine ⟨hc, fun q hq' => by have := hq q hq'; omega, fun x => ?_⟩
        constructor
        · exact .inl
        · rintro (h | h)
          · exact h
          · omega
    obtain ⟨k1, k2, k3⟩ := key
    have ih := not_good m (nstep (o, n) (a, b)).1 (b + 1) k1 k2 (by omega) (by omega) (fun r hr' => hin r (by simp [hr'])) hp.2 (fun r hr' => by have := hp.1 r hr'; omega)
    have e : ((a, b) :: m).foldl nstep (o, n) = m.foldl nstep ((nstep (o, n) (a, b)).1, b + 1) := rfl
    rw [e]
    obtain ⟨i1, i2, i3, i4, i5, i6⟩ := ih
    refine ⟨i1, i2, by omega, i4, fun r hr' => ?_, fun x => ?_⟩
    · rcases List.mem_cons.1 hr' with k | k
      · rw [k]
        dsimp only
        omega
      · exact i5 r k
    · rw [i6 x, k3 x, in_cons]
      dsimp only
      have above : In x m → b + 1 < x := fun ⟨r, hr', h1', _⟩ => by have := hp.1 r hr'; omega
      constructor
      · rintro ((h | h) | h)
        · exact .inl h
        · refine .inr ⟨h.1, by omega, ?_⟩
          rintro (k | k)
          · omega
          · have := above k; omega
        · refine .inr ⟨by omega, h.2.1, ?_⟩
          rintro (k | k)
          · omega
          · exact h.2.2 k
      · rintro (h | h)
        · exact .inl (.inl h)
        · rcases Int.lt_or_le x a with k | k
          · exact .inl (.inr ⟨h.1, k⟩)
          · rcases Int.lt_or_le b x with q | q
            · exact .inr ⟨by omega, h.2.1, fun hm => h.2.2 (.inr hm)⟩
            · exact absurd (.inl ⟨k, q⟩) h.2.2

theorem notL_good {s : List R2} (hs : Canon s) : Canon (notL s) ∧ ∀ x, In x (notL s) ↔ (0 ≤ x ∧ x ≤ 1114111) ∧ ¬ In x s := by
  obtain ⟨h1, h2, h3, h4, h5, h6⟩ := not_good s [] 0 ⟨by simp, .nil⟩ (by simp) (by omega) (by omega) hs.in_ hs.up (fun r hr => (hs.in_ r hr).1)
  have up : ∀ x, In x s → x < (notAcc s).2 ∧ 0 ≤ x := fun x ⟨r, hr, k1, k2⟩ => by
    have := h5 r hr
    have := (hs.in_ r hr).1
    unfold notAcc
    omega
  have h6' : ∀ x, In x (notAcc s).1 ↔ (0 ≤ x ∧ x < (notAcc s).2 ∧ ¬ In x s) := fun x => by
    have := h6 x
    simp only [in_nil, false_or] at this
    exact this
  have h4' : (notAcc s).2 ≤ 1114112 := h4
  have h3' : 0 ≤ (notAcc s).2 := h3
  unfold notL
  by_cases c : (notAcc s).2 ≤ 1114111
  · rw [if_pos c]
    refine ⟨canon_snoc h1 (by unfold inB; dsimp only; omega) h2, fun x => ?_⟩
    rw [in_append, in_one, h6' x]
    dsimp only
    constructor
    · rintro (h | h)
      · exact ⟨by omega, h.2.2⟩
      · exact ⟨by omega, fun k => by have := up x k; omega⟩
    · rintro ⟨h, k⟩
      rcases Int.lt_or_le x (notAcc s).2 with q | q
      · exact .inl ⟨h.1, q, k⟩
      · exact .inr (by omega)
  · rw [if_neg c]
    refine ⟨h1, fun x => ?_⟩
    rw [h6' x]
    constructor
    · intro h
      exact ⟨by omega, h.2.2⟩
    · intro h
      exact ⟨by omega, by omega, h.2⟩

/-- What is in both. -/
def andL : List R2 → List R2 → List R2
  | [], _ => []
  | _ :: _, [] => []
  | a :: s, b :: t => (if max a.1 b.1 ≤ min a.2 b.2 then [(max a.1 b.1, min a.2 b.2)] else []) ++ (if a.2 < b.2 then andL s (b :: t) else andL (a :: s) t)
termination_by s t => s.length + t.length

theorem Canon.tail {a : R2} {s : List R2} (h : Canon (a :: s)) : Canon s := ⟨fun r hr => h.in_ r (by simp [hr]), (List.pairwise_cons.1 h.up).2⟩
theorem Canon.above {a : R2} {s : List R2} (h : Canon (a :: s)) {x : Int} (hx : In x s) : a.2 + 1 < x := by
  obtain ⟨r, hr, h1, _⟩ := hx
  have := (List.pairwise_cons.1 h.up).1 r hr
  omega

theorem andL_good : ∀ (s t : List R2), Canon s → Canon t → Canon (andL s t) ∧ ∀ x, In x (andL s t) ↔ In x s ∧ In x t
  | [], t, _, _ => by
    rw [andL]
    exact ⟨⟨by simp, .nil⟩, fun x => ⟨fun h => absurd h (in_nil x), fun h => absurd h.1 (in_nil x)⟩⟩
  | _ :: _, [], _, _ => by
    rw [andL]
    exact ⟨⟨by simp, .nil⟩, fun x => ⟨fun h => absurd h (in_nil x), fun h => absurd h.2 (in_nil x)⟩⟩
  | (a, b) :: s, (c, d) :: t, hs, ht => by
    have hi := hs.in_ (a, b) (by simp)
    have hj := ht.in_ (c, d) (by simp)
    unfold inB at hi hj
    dsimp only at hi hj
    have aS : ∀ x, In x s → b + 1 < x := fun x h => hs.above h
    have aT : ∀ x, In x t → d + 1 < x := fun x h => ht.above h
    rw [andL]
    dsimp only
    obtain ⟨R, hR, g1, g2⟩ : ∃ R, R = (if b < d then andL s ((c, d) :: t) else andL ((a, b) :: s) t) ∧ Canon R ∧ ∀ x, In x R ↔ (In x ((a, b) :: s) ∧ In x ((c, d) :: t)) ∧ min b d < x := by
      by_cases k : b < d
      · obtain ⟨h1, h2⟩ := andL_good s ((c, d) :: t) hs.tail ht
        refine ⟨_, rfl, by rw [if_pos k]; exact h1, fun x => ?_⟩
        rw [if_pos k, h2 x, in_cons, in_cons]
        dsimp only
        constructor
        · rintro ⟨p, q⟩
          have := aS x p
          exact ⟨⟨.inr p, q⟩, by omega⟩
        · rintro ⟨⟨p, q⟩, r⟩
          rcases p with p | p
          · omega
          · exact ⟨p, q⟩
      · obtain ⟨h1, h2⟩ := andL_good ((a, b) :: s) t hs ht.tail
        refine ⟨_, rfl, by rw [if_neg k]; exact h1, fun x => ?_⟩
        rw [if_neg k, h2 x, in_cons, in_cons]
        dsimp only
        constructor
        · rintro ⟨p, q⟩
          have := aT x q
          exact ⟨⟨p, .inr q⟩, by omega⟩
        · rintro ⟨⟨p, q⟩, r⟩
          rcases q with q | q
          · omega
          · exact ⟨p, q⟩
    rw [← hR]
    have low : ∀ x, In x R → min b d + 1 < x := fun x h => by
      obtain ⟨⟨p, q⟩, r⟩ := (g2 x).1 h
      rcases in_cons.1 p with p | p <;> rcases in_cons.1 q with q | q
      · dsimp only at p q; omega
      · have := aT x q; dsimp only at p; omega
      · have := aS x p; dsimp only at q; omega
      · have := aS x p; have := aT x q; omega
    have iff : ∀ x, (In x ((a, b) :: s) ∧ In x ((c, d) :: t)) ↔ (max a c ≤ x ∧ x ≤ min b d) ∨ In x R := fun x => by
      rw [g2 x]
      constructor
      · rintro ⟨p, q⟩
        rcases Int.lt_or_le (min b d) x with k | k
        · exact .inr ⟨⟨p, q⟩, k⟩
        · left
          rcases in_cons.1 p with p' | p'
          · rcases in_cons.1 q with q' | q'
            · dsimp only at p' q'; omega
            · have := aT x q'; dsimp only at p'; omega
          · have := aS x p'
            rcases in_cons.1 q with q' | q'
            · dsimp only at q'; omega
            · have := aT x q'; omega
      · rintro (h | h)
        · exact ⟨in_cons.2 (.inl (by dsimp only; omega)), in_cons.2 (.inl (by dsimp only; omega))⟩
        · exact h.1
    by_cases e : max a c ≤ min b d
    · rw [if_pos e]
      refine ⟨⟨fun r hr => ?_, ?_⟩, fun x => ?_⟩
      · rcases List.mem_append.1 hr with k | k
        · simp only [List.mem_singleton] at k
          rw [k]
          unfold inB
          dsimp only
          omega
        · exact g1.in_ r k
      · rw [List.singleton_append, List.pairwise_cons]
        refine ⟨fun r hr => ?_, g1.up⟩
        have hri := g1.in_ r hr
        unfold inB at hri
        exact low r.1 ⟨r, hr, Int.le_refl _, hri.2.1⟩
      · rw [in_append, in_one, iff x]
    · rw [if_neg e, List.nil_append]
      refine ⟨g1, fun x => ?_⟩
      rw [iff x]
      constructor
      · exact .inr
      · rintro (h | h)
        · omega
        · exact h
termination_by s t => s.length + t.length
end Go.Proofs.YtdhhcefmmojcmaaGreatDoor
