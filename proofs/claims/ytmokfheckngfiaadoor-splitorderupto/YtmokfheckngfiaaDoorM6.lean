/- Texts of this proof, one behind the other: what each says stands ahead of it. -/
import Derived.Test.YtmokfheckngfiaaDoorM5
/- Ranges in a list of the call's own, sorted by From; condition: they fit into memory. -/
namespace Go.Proofs.YtmokfheckngfiaaDoor.S
open Go.Shelf Go.RowKit Go.Lib Go.Sort

set_option maxRecDepth 100000 in
set_option maxHeartbeats 4000000 in
theorem ins_none (f : Value) (w : World) : Calls Tryd.prog 67 #[.slice none 0 0, .int .i64 0, .int .i64 0, f] w fun e w' => e = .returned (.tuple #[]) ∧ w' = w := by
  go_enter Tryd.func67, Tryd.ntmps67
  go_wp2_with fail
  go_loopg [8] 1 (fun gk i wr => gk = 1 ∧ i = .int .i64 1 ∧ wr = w)
  case atStart => exact ⟨rfl, rfl, rfl⟩
  case round =>
    obtain ⟨_, rfl, rfl⟩ := hrel
    go_wp2
    go_end0
    exact ⟨rfl, rfl⟩

set_option maxRecDepth 100000 in
set_option maxHeartbeats 4000000 in
theorem pdq_none (n : Int) (f : Value) (w : World) : Calls Tryd.prog 52 #[.slice none 0 0, .int .i64 0, .int .i64 0, .int .i64 n, f] w fun e w' => e = .returned (.tuple #[]) ∧ w' = w := by
  have K := hid (fun wq => ins_none f wq)
  go_enter Tryd.func52, Tryd.ntmps52
  go_wp2_with fail
  go_loopg [1, 2] 1 (fun gk a b wr => gk = 1 ∧ a = .int .i64 0 ∧ b = .int .i64 0 ∧ wr = w)
  case atStart => exact ⟨rfl, rfl, rfl, rfl⟩
  case round =>
    obtain ⟨_, rfl, rfl, rfl⟩ := hrel
    go_wp2_with fail
    refine (K.out _).mono ?_
    rintro e w1 ⟨rfl, rfl⟩
    go_wp2
    exact bodyPost_ret (results_none (fn := Tryd.f52) rfl _ Tryd.prog _) rfl ⟨rfl, rfl⟩

set_option maxRecDepth 100000 in
set_option maxHeartbeats 4000000 in
theorem sort_none (w : World) : Calls Tryd.prog 37 #[.slice none 0 0, .func (.func 38) #[] #[]] w fun e w' => e = .returned (.tuple #[]) ∧ w' = w := by
  have hlen := fun wq => Any.bits_Len Tryd.bitsLen2 0 wq (by omega) (by omega)
  change ∀ wq, Calls Tryd.prog 53 _ _ _ at hlen
  have K := hid (fun n wq => pdq_none n (.func (.func 38) #[] #[]) wq)
  have HLN := hid hlen
  clear hlen
  go_enter Tryd.func37, Tryd.ntmps37
  go_wp2_with fail
  refine (HLN.out _).mono ?_
  rintro e w1 ⟨rfl, rfl⟩
  go_wp2_with fail
  refine (K.out _ _).mono ?_
  rintro e w2 ⟨rfl, rfl⟩
  go_wp2
  go_end0
  exact ⟨rfl, rfl⟩

theorem touch_sort (w : World) (blk off m : Nat) (d : Array R2) (os : Array Obj) : Touch (fun k => k = blk) w (sortWorldK encR 2 w blk off m d os) := by
  refine ⟨rfl, rfl, rfl, ?_, fun k hk hn => ?_⟩
  · exact size_sortWorldK_c _ _ _ _ _ _ _ _
  · show ((w.heap.modify blk _) ++ os)[k]? = _
    rw [Array.getElem?_append_left (by simpa using hk), Array.getElem?_modify, if_neg (fun e => hn e.symm)]

theorem flatR_at (s : List R2) (j : Nat) (h : j < s.length * 2) : (flatR s)[j]? = some ((encR (s.toArray[j / 2]!))[j % 2]!) := by
  have hi : j / 2 < s.length := by omega
  have e : s.toArray[j / 2]! = s[j / 2] := by simp [hi]
  rw [e]
  rcases (show j % 2 = 0 ∨ j % 2 = 1 by omega) with h0 | h0
  · have := flatR_get0 s (j / 2) hi
    rw [show 2 * (j / 2) = j by omega] at this
    rw [this, h0]
    rfl
  · have := flatR_get1 s (j / 2) hi
    rw [show 2 * (j / 2) + 1 = j by omega] at this
    rw [this, h0]
    rfl

theorem holds_own {w : World} {base e g n cap : Nat} {s : List R2} (h : w.ownsRow base e 2 (.slice (some ⟨g, 0, none⟩) n cap) s.length (flatR s)) : HoldsK encR 2 w g 0 s.toArray := by
  intro j hj
  rw [size_flatK] at hj
  have hj' : j < s.length * 2 := by simpa using hj
  rw [get_flatK _ _ _ _ hj, Nat.zero_add]
  have hc := h.cells (g := g) rfl j _ (flatR_at s j hj')
  rw [add_g] at hc
  refine ⟨hc, ?_⟩
  rcases h.2 with ⟨hv, _⟩ | ⟨g', cap', cur, hv, _, hh, _⟩
  · simp at hv
  · simp at hv
    obtain ⟨rfl, _⟩ := hv
    simp [World.frozen?, hh]

theorem sort_any {W0 wr : World} {v : Value} {s : List R2} (h : Ow W0 wr 34 v s) (hb : s.length * 16 ≤ 140737488351232) :
    Calls Tryd.prog 37 #[v, .func (.func 38) #[] #[]] wr fun e w' => e = .returned (.tuple #[]) ∧ ∃ s', s'.Perm s ∧ s'.Pairwise (fun a b => a.1 ≤ b.1) ∧ (∃ a c, v = .slice a s'.length c ∧ Rg w' a s') ∧ Touch (fun _ => False) W0 w' := by
  rcases h.own.2 with ⟨rfl, h0⟩ | ⟨g, cap, cur, rfl, hg, hh, rest⟩
  · have hs : s = [] := List.eq_nil_of_length_eq_zero h0
    subst hs
    refine (sort_none wr).mono ?_
    rintro e w' ⟨rfl, rfl⟩
    exact ⟨rfl, [], .nil, .nil, ⟨none, 0, rfl, .inl rfl⟩, h.touch⟩
  · have hk := sort_row g 0 cap s.toArray wr (holds_own h.own) (lt_of_block hh) (by simp; omega)
    rw [show s.toArray.size = s.length by simp] at hk
    refine hk.mono ?_
    rintro e w' ⟨rfl, d', n, os, hp, hsd, rfl⟩
    have hsz : d'.size = s.length := by rw [hp.1]; simp
    refine ⟨rfl, d'.toList, ?_, ?_, ⟨some ⟨g, 0, none⟩, cap, by simp [hsz], .inr ⟨g, 0, rfl, ?_, fun i hi => ?_⟩⟩, ?_⟩
    · have := hp.2.2
      have h3 : (List.take s.length d'.toList).Perm s := by simpa using this
      rw [List.take_of_length_le (by simp; omega)] at h3
      exact h3
    · rw [List.pairwise_iff_getElem]
      intro i j hi hj hij
      have := hsd i j (Nat.zero_le _) hij (by simpa [hsz] using hj)
      rw [ltLo] at this
      simp only [Array.length_toList] at hi hj
      rw [getElem!_pos d' i hi, getElem!_pos d' j hj] at this
      simp only [decide_eq_false_iff_not] at this
      simp only [Array.getElem_toList]
      omega
    · exact Nat.lt_of_lt_of_le (lt_of_block hh) (touch_sort wr g 0 n d' os).size
    · simp only [Array.length_toList] at hi
      have hH := holdsK_sortWorldK encR 2 wr g 0 n s.toArray d' os (lt_of_block hh) (holds_own h.own) (by simp [hsz])
      have h1 := (hH.cell (i := i) (c := 0) hi (by decide)).1
      have h2 := (hH.cell (i := i) (c := 1) hi (by decide)).1
      rw [getElem!_pos d' i hi] at h1 h2
      exact ⟨h1, h2⟩
    · refine h.touch.trans (touch_sort wr g 0 n d' os) (fun i hi e => ?_)
      have := h.new g rfl
      omega
end Go.Proofs.YtmokfheckngfiaaDoor.S

/- Of: any ranges, cut to the numbers that there are; conditions: the ranges fit into memory. -/
namespace Go.Proofs.YtmokfheckngfiaaDoor.S
open Go.RowKit

def clip (x : R2) : R2 := (max x.1 0, min x.2 1114111)
def keeps (x : R2) : Bool := decide ((clip x).1 ≤ (clip x).2)
def withinL (l : List R2) : List R2 := (l.filter keeps).map clip
theorem within_yes (l : List R2) (k : Nat) (h : k < l.length) (hk : (clip l[k]).1 ≤ (clip l[k]).2) : withinL (l.take (k + 1)) = withinL (l.take k) ++ [clip l[k]] := by
  unfold withinL
  rw [List.take_succ_eq_append_getElem h, List.filter_append, List.map_append]
  simp [keeps, hk]
theorem within_no (l : List R2) (k : Nat) (h : k < l.length) (hk : ¬ (clip l[k]).1 ≤ (clip l[k]).2) : withinL (l.take (k + 1)) = withinL (l.take k) := by
  unfold withinL
  rw [List.take_succ_eq_append_getElem h, List.filter_append, List.map_append]
  simp [keeps, hk]
theorem within_len (l : List R2) (k : Nat) (h : k ≤ l.length) : (withinL (l.take k)).length ≤ k := by
  unfold withinL
  rw [List.length_map]
  have := List.length_filter_le keeps (l.take k)
  rw [List.length_take] at this
  omega
theorem within_in (l : List R2) : ∀ x ∈ withinL l, inB x := by
  intro x hx
  unfold withinL at hx
  simp only [List.mem_map, List.mem_filter, keeps, decide_eq_true_eq] at hx
  obtain ⟨y, ⟨_, h⟩, rfl⟩ := hx
  unfold clip at *
  unfold inB
  dsimp only at *
  omega

set_option maxRecDepth 100000 in
set_option maxHeartbeats 4000000 in
theorem of_any (a : Option Addr) (cap : Nat) (l : List R2) (w : World) (hl : Rg w a l) (hb : l.length * 16 ≤ 140737488351232) :
    Calls Tryd.prog 16 #[.slice a l.length cap] w fun e w' => ∃ v m, e = .returned v ∧ m.Perm (withinL l) ∧ m.Pairwise (fun a b => a.1 ≤ b.1) ∧ Ow w w' 35 v (joinedL m) := by
  obtain ⟨i0, hi33, hz0, hz1, hz2⟩ := info_parts info33
  have HL := hid hl
  clear hl
  go_enter Tryd.func16, Tryd.ntmps16
  go_wp2_with fail
  go_loopg [3, 8] l.length (fun gk v i wr => ∃ k : Nat, k + gk = l.length ∧ i = .int .i64 (k : Nat) ∧ Ow w wr 34 v (withinL (l.take k)))
  case atStart => exact ⟨0, by omega, rfl, ⟨by simpa [withinL, flatR] using World.ownsRow_nil _ _ _ _, by intro g h; simp [Value.ownBlock] at h, Touch.refl _ _⟩⟩
  case round =>
    obtain ⟨k, hk, rfl, how⟩ := hrel
    have OW := hid how
    have HLR := hid (HL.out.new how.touch)
    have hlen := within_len l k (by omega)
    obtain ⟨av, cv, hav⟩ := own_shape how.own
    subst hav
    clear how
    by_cases hlt : k < l.length
    · obtain ⟨b, o, ha, hbl, hcell⟩ : ∃ b o, a = some ⟨b, o, none⟩ ∧ b < wr.heap.size ∧ ∀ i (h : i < l.length), wr.cell? ⟨b, o + i * 2, none⟩ = some (.int .i64 (l[i]).1) ∧ wr.cell? ⟨b, o + i * 2 + 1, none⟩ = some (.int .i64 (l[i]).2) := by
        rcases HLR.out with h | h
        · rw [h] at hlt; simp at hlt
        · exact h
      subst ha
      obtain ⟨d0, d1⟩ := hcell k hlt
      obtain ⟨r, hr⟩ : ∃ r, r = l[k] := ⟨_, rfl⟩
      rw [← hr] at d0 d1
      have WY := hid (fun hk => within_yes l k hlt hk)
      have WN := hid (fun hk => within_no l k hlt hk)
      rw [← hr] at WY WN
      obtain ⟨x, y⟩ := r
      dsimp only at d0 d1
      clear hcell hr
      obtain ⟨s, hs⟩ : ∃ s, s = withinL (l.take k) := ⟨_, rfl⟩
      rw [← hs] at OW WY WN hlen ⊢
      clear hs
      obtain ⟨M, hM⟩ : ∃ M, M = s.length := ⟨_, rfl⟩
      rw [← hM] at OW ⊢
      have HM := hid hM
      have hMk : M ≤ k := by omega
      clear hM
      obtain ⟨rb, hrb⟩ : ∃ rb, rb = wr.heap.size := ⟨_, rfl⟩
      have OA := hid (OW.out.alloc (.cells #[.int .i64 x, .int .i64 y] 38))
      have RB := hid (show (wr.alloc (.cells #[.int .i64 x, .int .i64 y] 38)).heap[rb]? = some (.cells #[.int .i64 x, .int .i64 y] 38 (0, 0)) from by rw [hrb]; exact three_new _ _ _)
      go_wp2_with fail
      rw [← hrb]
      have hown : ∀ g, (Value.slice av M cv).ownBlock = some g → g ≠ rb := fun g e => by
        have := (OW.out.own.lt g e).2
        omega
      have hwrb : w.heap.size ≤ rb := by rw [hrb]; exact OW.out.touch.size
      have HOWN := hid hown
      clear hrb hown OW
      generalize wr.alloc (.cells #[.int .i64 x, .int .i64 y] 38) = wA at *
      refine (common_any x y 0 1114111 wA).mono ?_
      rintro e w1 ⟨rfl, tc⟩
      have OB := hid (OA.out.still tc)
      have RC := hid (show w1.heap[rb]? = some (.cells #[.int .i64 x, .int .i64 y] 38 (0, 0)) from (tc.block rb (lt_of_block RB.out) id).trans RB.out)
      have q0 := cell_two0 RC.out
      have q1 := cell_two1 RC.out
      have qf0 := free_two (i := 0) RC.out
      have qf1 := free_two (i := 1) RC.out
      clear tc d0 d1
      obtain ⟨cx, hcx⟩ : ∃ cx, cx = max x 0 := ⟨_, rfl⟩
      obtain ⟨cy, hcy⟩ : ∃ cy, cy = min y 1114111 := ⟨_, rfl⟩
      rw [← hcx, ← hcy]
      have HCX := hid hcx
      have HCY := hid hcy
      clear hcx hcy
      have RD := hid (two_set1 (x := .int .i64 cy) (two_set0 (x := .int .i64 cx) RC.out))
      have OC := hid (show Ow w ((w1.setCell ⟨rb, 0, none⟩ (.int .i64 cx)).setCell ⟨rb, 1, none⟩ (.int .i64 cy)) 34 (.slice av M cv) s from ⟨ownsRow_setCell_other (ownsRow_setCell_other OB.out.own (fun e => HOWN.out _ e rfl) _) (fun e => HOWN.out _ e rfl) _, OB.out.new, (OB.out.touch.setCell (p := ⟨rb, 0, none⟩) (fun h => by simp at h; omega) _).setCell (p := ⟨rb, 1, none⟩) (fun h => by simp at h; omega) _⟩)
      by_cases hcc : cx ≤ cy
      · go_upto_region 7 with fail
        generalize ((w1.setCell ⟨rb, 0, none⟩ (.int .i64 cx)).setCell ⟨rb, 1, none⟩ (.int .i64 cy)) = wD at *
        have z0 := cell_two0 RD.out
        have z1 := cell_two1 RD.out
        clear q0 q1 qf0 qf1
        go_wp2_with (at_builtin; refine wpList_append_own_at _ rfl _ _ 34 rfl 0 38 i0 (.agg #[.int .i64 0, .int .i64 0]) 2 16 Tryd.underlying34 hi33 hz0 hz1 hz2 rfl (by decide) _ _ _ rfl (OC.out.own.alloc _) ⟨wD.heap.size, 0, none⟩ 1 1 [.int .i64 cx, .int .i64 cy] rfl rfl (row_new wD [.int .i64 cx, .int .i64 cy] 38) (by intro u hu; simp at hu; rcases hu with rfl | rfl <;> rfl) (by unfold maxLen; omega) (by omega) (Nat.zero_le _) ?_)
        intro v' w4 hown hgrow _ hat
        have OE := hid (OC.out.more (x := (cx, cy)) hown hgrow hat)
        have HCC := hid hcc
        clear hown hgrow hat
        go_wp2
        go_roundg (gk - 1)
        case measure => omega
        case rel =>
          refine ⟨k + 1, by omega, by go_num, ?_⟩
          have := WY.out (by unfold clip; dsimp only; rw [← HCX.out, ← HCY.out]; exact HCC.out)
          rw [this]
          unfold clip
          dsimp only
          rw [← HCX.out, ← HCY.out]
          exact OE.out
      · go_wp2
        go_roundg (gk - 1)
        case measure => omega
        case rel =>
          refine ⟨k + 1, by omega, by go_num, ?_⟩
          have := WN.out (by unfold clip; dsimp only; rw [← HCX.out, ← HCY.out]; exact hcc)
          rw [this]
          exact OC.out
    · obtain rfl : k = l.length := by omega
      rw [List.take_length] at OW hlen ⊢
      obtain ⟨s, hs⟩ : ∃ s, s = withinL l := ⟨_, rfl⟩
      have HWI := hid (within_in l)
      rw [← hs] at OW hlen HWI ⊢
      have HSS := hid hs
      clear hs
      have K := hid (sort_any OW.out (by omega))
      go_wp2_with fail
      refine K.out.mono ?_
      rintro e w1 ⟨rfl, s', hp, hsd, ⟨a1, c1, hv, hrg⟩, tc⟩
      have hl1 := hp.length_eq
      have KJ := hid (joined_any a1 c1 s' w1 hrg (fun x hx => HWI.out x (hp.mem_iff.1 hx)) (by omega))
      have HP := hid hp
      have HSD := hid hsd
      have TC := hid tc
      simp only [Value.slice.injEq] at hv
      obtain ⟨rfl, h2, rfl⟩ := hv
      rw [← h2] at KJ
      clear hp hsd hrg tc K hl1 h2
      go_wp2_with fail
      refine KJ.out.mono ?_
      rintro e w2 ⟨v2, rfl, ow⟩
      have OW2 := hid ow
      obtain ⟨a2, c2, hav⟩ := own_shape ow.own
      subst hav
      clear ow KJ
      go_wp2
      go_ret
      exact ⟨_, s', rfl, HSS.out ▸ HP.out, HSD.out, ⟨OW2.out.own, fun g e => Nat.le_trans TC.out.size (OW2.out.new g e), TC.out.trans OW2.out.touch (fun _ _ e => e)⟩⟩
end Go.Proofs.YtmokfheckngfiaaDoor.S

/- Plain facts on lists of ranges: joined ranges rise and don't touch, and such a list is told by its numbers; no condition beside those told. -/
namespace Go.Proofs.YtmokfheckngfiaaDoor.S

def In (x : Int) (l : List R2) : Prop := ∃ r ∈ l, r.1 ≤ x ∧ x ≤ r.2
structure Canon (s : List R2) : Prop where
  in_ : ∀ r ∈ s, inB r
  up : s.Pairwise (fun a b => a.2 + 1 < b.1)

theorem in_nil (x : Int) : ¬ In x [] := fun ⟨_, h, _⟩ => by simp at h
theorem in_append {x : Int} {l m : List R2} : In x (l ++ m) ↔ In x l ∨ In x m := by
  unfold In
  constructor
  · rintro ⟨r, hr, h⟩
    rcases List.mem_append.1 hr with k | k
    · exact .inl ⟨r, k, h⟩
    · exact .inr ⟨r, k, h⟩
  · rintro (⟨r, hr, h⟩ | ⟨r, hr, h⟩)
    · exact ⟨r, List.mem_append.2 (.inl hr), h⟩
    · exact ⟨r, List.mem_append.2 (.inr hr), h⟩
theorem in_one {x : Int} {r : R2} : In x [r] ↔ r.1 ≤ x ∧ x ≤ r.2 := by
  unfold In
  simp
theorem in_cons {x : Int} {r : R2} {l : List R2} : In x (r :: l) ↔ (r.1 ≤ x ∧ x ≤ r.2) ∨ In x l := by
  have := @in_append x [r] l
  rw [in_one] at this
  simpa using this
theorem in_perm {x : Int} {l m : List R2} (h : l.Perm m) : In x l ↔ In x m := by
  unfold In
  constructor
  · rintro ⟨r, hr, k⟩; exact ⟨r, h.mem_iff.1 hr, k⟩
  · rintro ⟨r, hr, k⟩; exact ⟨r, h.mem_iff.2 hr, k⟩

theorem jstep_good {s : List R2} {r : R2} (hs : Canon s) (hr : inB r) (hle : ∀ a ∈ s, a.1 ≤ r.1) : Canon (jstep s r) ∧ (∀ x, In x (jstep s r) ↔ In x s ∨ (r.1 ≤ x ∧ x ≤ r.2)) ∧ (∀ q : Int, r.1 ≤ q → ∀ a ∈ jstep s r, a.1 ≤ q) := by
  rcases List.eq_nil_or_concat s with h | ⟨s0, t, h⟩
  · subst h
    have e : jstep [] r = [r] := rfl
    rw [e]
    refine ⟨⟨by simpa using hr, List.pairwise_singleton _ _⟩, fun x => ?_, fun q hq a ha => ?_⟩
    · rw [in_one]
      constructor
      · exact .inr
      · rintro (h | h)
        · exact absurd h (in_nil x)
        · exact h
    · simp only [List.mem_singleton] at ha
      rw [ha]
      exact hq
  · rw [List.concat_eq_append] at h
    subst h
    obtain ⟨t1, t2⟩ := t
    obtain ⟨x1, x2⟩ := r
    have ht := hs.in_ (t1, t2) (by simp)
    have hl := hle (t1, t2) (by simp)
    have hup := List.pairwise_append.1 hs.up
    unfold inB at ht hr
    dsimp only at ht hr hl
    by_cases c : x1 ≤ t2 + 1
    · have e := jstep_join s0 t1 t2 x1 x2 c
      refine ⟨⟨jstep_in hs.in_ hr, ?_⟩, fun x => ?_, fun q hq a ha => ?_⟩
      · rw [e, List.pairwise_append]
        refine ⟨hup.1, List.pairwise_singleton _ _, fun a ha b hb => ?_⟩
        simp only [List.mem_singleton] at hb
        have := hup.2.2 a ha (t1, t2) (by simp)
        rw [hb]
        exact this
      · rw [e, in_append, in_append, in_one, in_one]
        dsimp only
        constructor
        · rintro (h | h)
          · exact .inl (.inl h)
          · rcases Int.lt_or_le t2 x with k | k
            · exact .inr ⟨by omega, by omega⟩
            · exact .inl (.inr ⟨h.1, k⟩)
        · rintro ((h | h) | h)
          · exact .inl h
          · exact .inr ⟨h.1, by omega⟩
          · exact .inr ⟨by omega, by omega⟩
      · rw [e] at ha
        dsimp only at hq
        rcases List.mem_append.1 ha with h | h
        · have := hle a (List.mem_append.2 (.inl h))
          dsimp only at this
          omega
        · simp only [List.mem_singleton] at h
          rw [h]
          dsimp only
          omega
    · have e := jstep_more s0 t1 t2 x1 x2 c
      refine ⟨⟨jstep_in hs.in_ hr, ?_⟩, fun x => ?_, fun q hq a ha => ?_⟩
      · rw [e, List.pairwise_append]
        refine ⟨hs.up, List.pairwise_singleton _ _, fun a ha b hb => ?_⟩
        simp only [List.mem_singleton] at hb
        rw [hb]
        dsimp only
        rcases List.mem_append.1 ha with h | h
        · have := hup.2.2 a h (t1, t2) (by simp)
          dsimp only at this
          omega
        · simp only [List.mem_singleton] at h
          rw [h]
          dsimp only
          omega
      · rw [e, in_append, in_one]
      · rw [e] at ha
        dsimp only at hq
        rcases List.mem_append.1 ha with h | h
        · have := hle a h
          dsimp only at this
          omega
        · simp only [List.mem_singleton] at h
          rw [h]
          exact hq

theorem fold_good : ∀ (m s : List R2), Canon s → (∀ r ∈ m, inB r) → m.Pairwise (fun a b => a.1 ≤ b.1) → (∀ a ∈ s, ∀ r ∈ m, a.1 ≤ r.1) → Canon (m.foldl jstep s) ∧ ∀ x, In x (m.foldl jstep s) ↔ In x s ∨ In x m
  | [], s, h, _, _, _ => ⟨h, fun x => by simp [in_nil]⟩
  | r :: m, s, h, hin, hup, hle => by
    have hp := List.pairwise_cons.1 hup
    obtain ⟨g1, g2, g3⟩ := jstep_good h (hin r (by simp)) (fun a ha => hle a ha r (by simp))
    have ih := fold_good m (jstep s r) g1 (fun q hq => hin q (by simp [hq])) hp.2 (fun a ha q hq => g3 q.1 (hp.1 q hq) a ha)
    refine ⟨ih.1, fun x => ?_⟩
    rw [List.foldl_cons, ih.2 x, g2 x, in_cons, or_assoc]

theorem joined_good {m : List R2} (hin : ∀ r ∈ m, inB r) (hup : m.Pairwise (fun a b => a.1 ≤ b.1)) : Canon (joinedL m) ∧ ∀ x, In x (joinedL m) ↔ In x m := by
  have := fold_good m [] ⟨by simp, .nil⟩ hin hup (by simp)
  refine ⟨this.1, fun x => ?_⟩
  rw [show joinedL m = m.foldl jstep [] from rfl, this.2 x]
  simp [in_nil]

theorem in_within (l : List R2) (x : Int) : In x (withinL l) ↔ (0 ≤ x ∧ x ≤ 1114111) ∧ In x l := by
  unfold In withinL
  simp only [List.mem_map, List.mem_filter, keeps, clip]
  constructor
  · rintro ⟨r, ⟨y, ⟨hy, _⟩, rfl⟩, h1, h2⟩
    dsimp only at h1 h2
    exact ⟨by omega, y, hy, by omega, by omega⟩
  · rintro ⟨h, y, hy, h1, h2⟩
    exact ⟨_, ⟨y, ⟨hy, decide_eq_true (by omega)⟩, rfl⟩, by dsimp only; omega, by dsimp only; omega⟩

/-- Two such lists that have the same numbers are one. -/
theorem canon_one : ∀ {s t : List R2}, Canon s → Canon t → (∀ x, In x s ↔ In x t) → s = t
  | [], [], _, _, _ => rfl
  | [], (c, d) :: t, _, ht, h => by
    have := ht.in_ (c, d) (by simp)
    unfold inB at this
    dsimp only at this
    exact absurd ((h c).2 (in_cons.2 (.inl ⟨Int.le_refl _, by dsimp only; omega⟩))) (in_nil c)
  | (a, b) :: s, [], hs, _, h => by
    have := hs.in_ (a, b) (by simp)
    unfold inB at this
    dsimp only at this
    exact absurd ((h a).1 (in_cons.2 (.inl ⟨Int.le_refl _, by dsimp only; omega⟩))) (in_nil a)
  | (a, b) :: s, (c, d) :: t, hs, ht, h => by
    have ha := hs.in_ (a, b) (by simp)
    have hc := ht.in_ (c, d) (by simp)
    have ps := List.pairwise_cons.1 hs.up
    have pt := List.pairwise_cons.1 ht.up
    unfold inB at ha hc
    dsimp only at ha hc ps pt
    have above_s : ∀ x, In x s → b + 1 < x := fun x ⟨r, hr, h1, _⟩ => by have := ps.1 r hr; omega
    have above_t : ∀ x, In x t → d + 1 < x := fun x ⟨r, hr, h1, _⟩ => by have := pt.1 r hr; omega
    have low_s : ∀ x, In x ((a, b) :: s) → a ≤ x := fun x hx => by
      rcases in_cons.1 hx with h | h
      · exact h.1
      · have := above_s x h; omega
    have low_t : ∀ x, In x ((c, d) :: t) → c ≤ x := fun x hx => by
      rcases in_cons.1 hx with h | h
      · exact h.1
      · have := above_t x h; omega
    have e1 : a = c := by
      have h1 := low_t a ((h a).1 (in_cons.2 (.inl ⟨Int.le_refl _, by dsimp only; omega⟩)))
      have h2 := low_s c ((h c).2 (in_cons.2 (.inl ⟨Int.le_refl _, by dsimp only; omega⟩)))
      omega
    subst e1
    have e2 : b = d := by
      rcases Int.lt_trichotomy b d with k | k | k
      · have := (h (b + 1)).2 (in_cons.2 (.inl ⟨by dsimp only; omega, by dsimp only; omega⟩))
        rcases in_cons.1 this with q | q
        · dsimp only at q; omega
        · have := above_s _ q; omega
      · exact k
      · have := (h (d + 1)).1 (in_cons.2 (.inl ⟨by dsimp only; omega, by dsimp only; omega⟩))
        rcases in_cons.1 this with q | q
        · dsimp only at q; omega
        · have := above_t _ q; omega
    subst e2
    have := canon_one (s := s) (t := t) ⟨fun r hr => hs.in_ r (by simp [hr]), ps.2⟩ ⟨fun r hr => ht.in_ r (by simp [hr]), pt.2⟩ (fun x => by
      constructor
      · intro hx
        have h1 := above_s x hx
        rcases in_cons.1 ((h x).1 (in_cons.2 (.inr hx))) with q | q
        · dsimp only at q; omega
        · exact q
      · intro hx
        have h1 := above_t x hx
        rcases in_cons.1 ((h x).2 (in_cons.2 (.inr hx))) with q | q
        · dsimp only at q; omega
        · exact q)
    rw [this]

/-- What Of answers. -/
theorem of_says (a : Option Addr) (cap : Nat) (l : List R2) (w : World) (hl : Rg w a l) (hb : l.length * 16 ≤ 140737488351232) :
    Calls Tryd.prog 16 #[.slice a l.length cap] w fun e w' => ∃ v s, e = .returned v ∧ Canon s ∧ (∀ x, In x s ↔ (0 ≤ x ∧ x ≤ 1114111) ∧ In x l) ∧ Ow w w' 35 v s := by
  refine (of_any a cap l w hl hb).mono ?_
  rintro e w' ⟨v, m, rfl, hp, hsd, ow⟩
  have hg := joined_good (m := m) (fun r hr => within_in l r (hp.mem_iff.1 hr)) hsd
  exact ⟨v, joinedL m, rfl, hg.1, fun x => by rw [hg.2 x, in_perm hp, in_within], ow⟩
end Go.Proofs.YtmokfheckngfiaaDoor.S

/- made and speaks of the laws on sets; conditions: the ranges fit into memory. -/
namespace Go.Proofs.YtmokfheckngfiaaDoor.S
open Go.RowKit

/-- Ranges of a type in a list of the call's own. -/
structure OwE (W0 wr : World) (e : TypeId) (v : Value) (s : List R2) : Prop where
  own : wr.ownsRow 0 e 2 v s.length (flatR s)
  new : ∀ g, v.ownBlock = some g → W0.heap.size ≤ g
  touch : Touch (fun _ => False) W0 wr

theorem OwE.ow {W0 wr : World} {v : Value} {s : List R2} (h : OwE W0 wr 38 v s) (ty : TypeId) : Ow W0 wr ty v s := ⟨h.own, h.new, h.touch⟩
theorem OwE.nil (w : World) (e : TypeId) : OwE w w e (.slice none 0 0) [] := ⟨by simpa [flatR] using World.ownsRow_nil _ _ _ _, by intro g h; simp [Value.ownBlock] at h, Touch.refl _ _⟩
theorem OwE.rg {W0 wr : World} {e : TypeId} {v : Value} {s : List R2} (h : OwE W0 wr e v s) : ∃ a c, v = .slice a s.length c ∧ Rg wr a s := own_rg h.own
theorem OwE.still {W0 wr w' : World} {e : TypeId} {v : Value} {s : List R2} (h : OwE W0 wr e v s) (tc : Touch (fun _ => False) wr w') : OwE W0 w' e v s := by
  refine ⟨⟨h.own.1, ?_⟩, h.new, h.touch.trans tc (fun _ _ e => e)⟩
  rcases h.own.2 with h0 | ⟨g, cap, cur, hv, hg, hh, rest⟩
  · exact .inl h0
  · exact .inr ⟨g, cap, cur, hv, hg, (tc.block g (lt_of_block hh) id).trans hh, rest⟩
theorem OwE.more {W0 wr w1 : World} {e : TypeId} {v v' : Value} {s : List R2} {xs : List R2} {o : Obj} (h : OwE W0 wr e v s) (hown : w1.ownsRow 0 e 2 v' (s.length + xs.length) (flatR s ++ flatR xs)) (hg : (wr.alloc o).grownBy w1 v.ownBlock) (hat : v'.ownBlock = v.ownBlock ∨ v'.ownBlock = some (wr.heap.size + 1)) : OwE W0 w1 e v' (s ++ xs) := by
  refine ⟨?_, fun g hg' => ?_, (h.touch.alloc o).grown hg (fun k e hk => by have := h.new k e; omega)⟩
  · rw [List.length_append, flatR_append]
    exact hown
  · rcases hat with e | e
    · exact h.new g (by rw [← e]; exact hg')
    · rw [e] at hg'
      simp at hg'
      have := h.touch.size
      omega
/-- A list of another type stays. -/
theorem OwE.beside {W0 wr w1 : World} {e e' : TypeId} {v v4 : Value} {s s4 : List R2} {o : Obj} (h : OwE W0 wr e v s) (h4 : OwE W0 wr e' v4 s4) (hne : e ≠ e') (hg : (wr.alloc o).grownBy w1 v4.ownBlock) : OwE W0 w1 e v s := by
  refine ⟨⟨h.own.1, ?_⟩, h.new, (h.touch.alloc o).grown hg (fun k e hk => by have := h4.new k e; omega)⟩
  rcases h.own.2 with h0 | ⟨g, cap, cur, hv, hg', hh, rest⟩
  · exact .inl h0
  · have hlt := lt_of_block hh
    refine .inr ⟨g, cap, cur, hv, hg', ?_, rest⟩
    rw [hg.block g (by simp; omega) (fun k => ?_), Below.heap_alloc _ _ _ hlt]
    · exact hh
    · rcases h4.own.2 with ⟨rfl, _⟩ | ⟨g4, cap4, cur4, rfl, _, hh4, _⟩
      · simp [Value.ownBlock] at k
      · simp [Value.ownBlock] at k
        subst k
        rw [hh] at hh4
        simp at hh4
        exact hne hh4.2

theorem info47 : (Tryd.prog.info? 69).map (fun i => (i.zero, i.size, i.bytes)) = some (some (.agg #[.int .i64 0, .int .i64 0]), 2, 16) := by kernel_rfl
end Go.Proofs.YtmokfheckngfiaaDoor.S
