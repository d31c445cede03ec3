/- Texts of this proof, one behind the other: what each says stands ahead of it. -/
import Derived.RangeFuncBox
import Derived.Maps.AppendAt
import Derived.WalkSmall
import Derived.Test.YtaidcapflcobiaaM0
/- Split: it hands back the lines; condition: they fit into memory. -/
namespace Go.Proofs.Ytaidcapflcobiaa
open Go.RowKit Go.Shelf

attribute [local go_sem] Oper.semAt_some

/-- The lines that have come. -/
def got (l : List R2) (pre : List (Fin l.length)) : List R2 := pre.map fun i => l[i.1]
theorem got_snoc (l : List R2) (pre : List (Fin l.length)) (x : Fin l.length) : got l (pre ++ [x]) = got l pre ++ [l[x.1]] := by simp [got]
theorem got_len (l : List R2) (pre : List (Fin l.length)) : (got l pre).length = pre.length := by simp [got]
theorem got_all (l : List R2) : got l (List.finRange l.length) = l := by
  unfold got
  apply List.ext_getElem
  · simp
  · intro i h1 h2
    simp

theorem kpb_t {Bn : Nat} {d : ByteArray} {A B C : World} (h : KpB Bn d A B) (k : KpB Bn d B C) : KpB Bn d A C := fun x => k (h x)
theorem kpb_b {Bn : Nat} {d : ByteArray} (W : World) (l : Nat) (o o' : Obj) (h : W.heap[l]? = some o) (hc : o.isCells = false) : KpB Bn d W (W.putObj l o') := by
  intro hB
  refine hB.kept (grownBy_putObj' W l o') (fun e => ?_)
  cases e
  rw [show W.heap[Bn]? = _ from hB] at h
  cases h
  cases hc
theorem kpb_below {Bn n₀ : Nat} {d : ByteArray} {A B : World} (h : Below n₀ A B) (hn : Bn < n₀) : KpB Bn d A B := fun x => (h.block Bn hn).trans x

set_option maxRecDepth 100000 in
set_option maxHeartbeats 4000000 in
theorem split_in (d : ByteArray) (hd : d.size ≤ 4194304) (w : World) :
    CallsIn Fence.wide 5 Try.prog 9 #[.string d] w fun e W' => ∃ v, e = .returned v ∧ W'.ownsRow w.heap.size 27 2 v (lns d).length (flatR (lns d)) ∧ Below w.heap.size w W' := by
  obtain ⟨i0, hi, hz0, hz1, hz2⟩ := info_parts info27
  have hln := lns_len d
  refine callsIn_of_wp_marks Try.func9 rfl trivial ?_ rfl
  simp only [Try.ntmps9, List.size_toArray, List.length_cons, List.length_nil, Nat.reduceAdd, Nat.reduceSub, Array.replicate_succ, Array.replicate_zero, List.push_toArray, List.append_toArray, List.nil_append, List.cons_append]
  gi_wp2
  refine ⟨trivial, ?_⟩
  refine (each_in 4 d _).mono ?_
  rintro e w' ⟨rfl, rfl⟩
  gi_wp2
  have bO := Boxed.new w 23 (.slice none 0 0)
  have bN := Boxed.new (w.alloc (.cells #[.slice none 0 0] 23)) 9 (.string d)
  rw [World.size_alloc] at bN
  have hB0 : Below w.heap.size w ((w.alloc (.cells #[.slice none 0 0] 23)).alloc (.cells #[.string d] 9)) := ((Below.refl _ w).alloc (Nat.le_refl _) _).alloc (by simp) _
  refine wpIn_rangeFunc_ownH rfl (by omega) (gf := 20) (lb := #[.pointer (some ⟨w.heap.size + 1, 0, none⟩)]) rfl trivial (enters_of Try.func20 (by kernel_rfl) rfl)
    (each_stops 4 (by omega) (w.heap.size + 1) d (by omega) _ bN) kpb_t (fun W l o o' _ h hc _ => kpb_b W l o o' h hc) (Below.refl _ _) (fun _ => rfl)
    (fun pre W => (∃ v, Boxed W w.heap.size 23 v ∧ W.ownsRow w.heap.size 27 2 v (got (lns d) pre).length (flatR (got (lns d) pre)) ∧ True) ∧ Boxed W (w.heap.size + 1) 9 (.string d) ∧ Below w.heap.size w W)
    (fun _ _ _ => False)
    (OwnFrom.and (Own.from (holdsRow_own w.heap.size w.heap.size 23 27 2 (fun pre => (got (lns d) pre).length) (fun pre => flatR (got (lns d) pre)) (fun _ _ => True)) _) (OwnFrom.and (Own.from (boxed_own _ _ _) _) (ownFrom_below (Nat.le_refl _) (by simp; omega))))
    (fun _ _ _ _ _ hs _ _ => hs)
    ⟨⟨_, bO.alloc _, World.ownsRow_nil _ _ _ _, trivial⟩, bN, hB0⟩
    (fun x a' W => ∃ Bx, w.heap.size + 1 < Bx ∧ W.heap[Bx]? = some (.cells #[.int .i64 ((lns d)[x.1]).1, .int .i64 ((lns d)[x.1]).2] 27 (0, 0)) ∧ a' = { tmps := #[.string d, undef, .slice none 0 0, .pointer (some ⟨w.heap.size, 0, none⟩), undef, .pointer (some ⟨Bx, 0, none⟩), .string d, .func (.func 20) #[] #[.pointer (some ⟨w.heap.size + 1, 0, none⟩)], .int .i64 (x.1 : Nat), .agg #[.int .i64 ((lns d)[x.1]).1, .int .i64 ((lns d)[x.1]).2], undef, undef, undef, undef, undef], defers := [] }) ?hAx ?assign ?body ?done ?stop
  case hAx =>
    rintro x a' s A B row ⟨Bx, hlt, hc, rfl⟩ hg hr
    refine ⟨Bx, hlt, (hg.block Bx (lt_of_block hc) (fun e => ?_)).trans hc, rfl⟩
    obtain ⟨_, o, ho, hoc⟩ := hr Bx e.symm
    rw [hc] at ho
    cases ho
    cases hoc
  case assign =>
    rintro l pre x W K ⟨⟨v, hv, hrow, _⟩, hN, hB⟩ hK
    unfold encL
    gi_wp2
    refine hK _ _ ((KeepsOthers.alloc _ _).from _) (fun hb => hb.alloc _) ⟨⟨v, hv.alloc _, hrow.alloc _, trivial⟩, hN.alloc _, hB.alloc hB.size _⟩ ⟨W.heap.size, hN.lt, two_new _ _ _, rfl⟩
  case body =>
    rintro l pre x a2 W hl ⟨r, hr⟩ ⟨⟨v, hv, hrow, _⟩, hN, hB⟩ ⟨Bx, hBx, hcx, rfl⟩ hlt
    have hpl : (got (lns d) pre).length ≤ 4194303 := by rw [got_len]; omega
    have hc := hv.cell
    obtain ⟨y, hy⟩ : ∃ y, y = (lns d)[x.1] := ⟨_, rfl⟩
    have hsn := got_snoc (lns d) pre x
    rw [← hy] at hcx hsn ⊢
    obtain ⟨y, z⟩ := y
    dsimp only at hcx hsn ⊢
    have d0 := cell_two0 hcx
    have d1 := cell_two1 hcx
    gi_wp2_with (gi_at_builtin; refine wpListIn_append_own _ rfl _ _ 23 rfl w.heap.size 27 i0 (.agg #[.int .i64 0, .int .i64 0]) 2 16 Try.underlying23 hi hz0 hz1 hz2 rfl (by decide) _ _ _ rfl (hrow.alloc _) ⟨W.heap.size, 0, none⟩ 1 1 [.int .i64 y, .int .i64 z] rfl rfl (cell_two_new _ _ _ _) (by simp [Value.oneCell']) (by unfold maxLen; omega) (by omega) (by have := hB.size; simp; omega) ?_; intro v' w1 hown' hgrow _; obtain ⟨g', cap', rfl⟩ := ownsRow_succ hown'; obtain ⟨hv1, hv2, hr2, hk2, hb2⟩ := hv.appended (by decide) hrow hB.size (Nat.le_refl _) hown' hgrow; have hc1 := hv1.cell; have hf1 := hv1.frozen)
    have hn2 : Boxed (w1.setCell ⟨w.heap.size, 0, none⟩ (.slice (some ⟨g', 0, none⟩) ((got (lns d) pre).length + 1) cap')) (w.heap.size + 1) 9 (.string d) := ((hN.alloc _).kept hgrow (hN.not_row (by decide) hrow)).other (by omega) _
    refine ⟨hk2.from _, fun _ => hn2, ⟨_, hv2, ?_, trivial⟩, hn2, hB.trans hb2⟩
    rw [hsn, List.length_append, flatR_append]
    exact hr2
  case done =>
    rintro D ys W hD rfl ⟨⟨v, hv, hrow, _⟩, hN, hB⟩ hK
    have hc := hv.cell
    rw [got_all] at hrow
    gi_wp2
    refine ⟨by simp, .inl ⟨_, _, rfl, run_takeDeferred hK, ?_⟩⟩
    exact ⟨_, results_tmp rfl _ _ _, v, rfl, ownsRow_putObj hrow _ hK rfl, hB.trans (belowK_b (w := w) (Nat.le_refl _) W D _ _ (by simp at hD; omega) hK rfl rfl)⟩
  case stop =>
    rintro D c pre W _ _ h _
    exact h.elim

theorem split_any (d : ByteArray) (hd : d.size ≤ 4194304) (w : World) :
    Calls Try.prog 9 #[.string d] w fun e w' => ∃ a c, e = .returned (.slice a (lns d).length c) ∧ Rg w' a (lns d) ∧ w'.ownsRow 0 27 2 (.slice a (lns d).length c) (lns d).length (flatR (lns d)) ∧ (∀ b o, a = some ⟨b, o, none⟩ → w.heap.size ≤ b) ∧ Touch (fun _ => False) w w' := by
  refine (callsIn_wide.1 (split_in d hd w)).mono ?_
  rintro e w' ⟨v, rfl, hrow, hB⟩
  obtain ⟨a, c, rfl, hr⟩ := own_rg hrow
  refine ⟨a, c, rfl, hr, ⟨hrow.1, ?_⟩, ?_, (touch_of_below hB).mono (fun i hi h => by omega)⟩
  · rcases hrow.2 with h | ⟨g, cap, cur, h, hg, hh⟩
    · exact .inl h
    · exact .inr ⟨g, cap, cur, h, Nat.zero_le _, hh⟩
  · rintro b o rfl
    rcases hrow.2 with ⟨h, _⟩ | ⟨g, cap, cur, h, hg, _⟩
    · cases h
    · cases h
      exact hg
end Go.Proofs.Ytaidcapflcobiaa

/- At: the line in which a place is; condition: the lines rise and fit into memory. -/
namespace Go.Proofs.Ytaidcapflcobiaa
open Go.RowKit

set_option maxRecDepth 100000 in
set_option maxHeartbeats 4000000 in
theorem closure18 (br bs : Nat) (r : Int) (a : Option Addr) (cap : Nat) (s : List R2) (i : Nat) (hi : i < s.length) (y : Int) (hy : y = s[i].1) (w : World) (hr : w.cell? ⟨br, 0, none⟩ = some (.int .i64 r)) (hs : w.cell? ⟨bs, 0, none⟩ = some (.slice a s.length cap)) (hl : Rg w a s) :
    Calls Try.prog 18 (#[.int .i64 i] ++ #[.pointer (some ⟨bs, 0, none⟩), .pointer (some ⟨br, 0, none⟩)]) w fun e w' => e = .returned (.bool (decide (r < y))) ∧ Touch (fun _ => False) w w' := by
  obtain ⟨b, o, rfl, _, hcell⟩ : ∃ b o, a = some ⟨b, o, none⟩ ∧ b < w.heap.size ∧ ∀ i (h : i < s.length), w.cell? ⟨b, o + i * 2, none⟩ = some (.int .i64 (s[i]).1) ∧ w.cell? ⟨b, o + i * 2 + 1, none⟩ = some (.int .i64 (s[i]).2) := by
    rcases hl with h | h
    · rw [h] at hi; simp at hi
    · exact h
  obtain ⟨d0, d1⟩ := hcell i hi
  generalize s[i].2 = x at d1
  rw [← hy] at d0
  clear hy
  have hiI : (i : Int) < (s.length : Int) := by omega
  clear hcell
  go_enter Try.func18, Try.ntmps18
  go_wp2_with fail
  go_quiet (fail)
  go_wp2
  go_ret
  exact ⟨rfl, (Touch.refl _ _).drewN _⟩

set_option maxRecDepth 100000 in
set_option maxHeartbeats 4000000 in
theorem search_any (br bs : Nat) (r : Int) (a : Option Addr) (cap : Nat) (s : List R2) (w : World) (hbr : br < w.heap.size) (hbs : bs < w.heap.size) (hr : w.cell? ⟨br, 0, none⟩ = some (.int .i64 r)) (hs : w.cell? ⟨bs, 0, none⟩ = some (.slice a s.length cap)) (hl : Rg w a s)
    (hmono : ∀ i j (hi : i < s.length) (hj : j < s.length), i ≤ j → s[i].1 ≤ s[j].1) (hb : s.length ≤ 4194304) :
    Calls Try.prog 17 #[.int .i64 s.length, .func (.func 18) #[] #[.pointer (some ⟨bs, 0, none⟩), .pointer (some ⟨br, 0, none⟩)]] w fun e w' => ∃ k : Nat, e = .returned (.int .i64 k) ∧ k ≤ s.length ∧ (∀ t (_ : t < k) (hl : t < s.length), ¬ r < s[t].1) ∧ (∀ t (_ : k ≤ t) (hl : t < s.length), r < s[t].1) ∧ Touch (fun _ => False) w w' := by
  have HC := hid (fun (wq : World) (tc : Touch (fun _ => False) w wq) (i : Nat) (hi : i < s.length) (y : Int) (hy : y = s[i].1) => closure18 br bs r a cap s i hi y hy wq ((tc.cell (p := ⟨br, 0, none⟩) hbr id).trans hr) ((tc.cell (p := ⟨bs, 0, none⟩) hbs id).trans hs) (hl.new tc))
  have M := hid hmono
  clear hr hs hl hmono hbr hbs
  go_enter Try.func17, Try.ntmps17
  go_wp2_with fail
  go_loopg [5, 6] s.length (fun gk x y wr => ∃ lo hi : Nat, x = .int .i64 lo ∧ y = .int .i64 hi ∧ lo ≤ hi ∧ hi ≤ s.length ∧ hi - lo ≤ gk ∧ Hid ((∀ t (_ : t < lo) (hl : t < s.length), ¬ r < s[t].1) ∧ (∀ t (_ : hi ≤ t) (hl : t < s.length), r < s[t].1)) ∧ Touch (fun _ => False) w wr)
  case atStart => exact ⟨0, s.length, rfl, rfl, Nat.zero_le _, Nat.le_refl _, by omega, hid ⟨fun t ht => absurd ht (Nat.not_lt_zero _), fun t h1 h2 => by omega⟩, Touch.refl _ _⟩
  case round =>
    obtain ⟨lo, hi, rfl, rfl, hlh, hin, hg, I, htc⟩ := hrel
    have TC := hid htc
    clear htc
    by_cases hlt : lo < hi
    · have hmid : (lo + hi) / 2 < s.length := by omega
      have HMID := hid hmid
      obtain ⟨y, hy⟩ : ∃ y, y = s[(lo + hi) / 2].1 := ⟨_, rfl⟩
      have hc := HC.out wr TC.out ((lo + hi) / 2) hmid y hy
      rw [show (((lo + hi) / 2 : Nat) : Int) = ((lo : Int) + (hi : Int)) / 2 by omega] at hc
      have HY := hid hy
      clear hy hmid
      by_cases hp : r < y
      · rw [decide_eq_true hp] at hc
        have HP := hid hp
        clear hp
        go_wp2_with fail
        refine hc.mono ?_
        rintro e w' ⟨rfl, tc⟩
        have T2 := hid (TC.out.trans tc (fun _ _ e => e))
        clear tc hc
        go_wp2_with fail
        go_roundg ((lo + hi) / 2 - lo)
        case measure => omega
        case rel =>
          exact ⟨lo, (lo + hi) / 2, rfl, by rw [show ((lo : Int) + (hi : Int)) / 2 = (((lo + hi) / 2 : Nat) : Int) by omega], by omega, by omega, Nat.le_refl _, hid ⟨I.out.1, fun t ht htl => by have h1 := M.out _ t HMID.out htl ht; have h2 := HP.out; rw [HY.out] at h2; omega⟩, T2.out⟩
      · rw [decide_eq_false hp] at hc
        have HP := hid hp
        clear hp
        go_wp2_with fail
        refine hc.mono ?_
        rintro e w' ⟨rfl, tc⟩
        have T2 := hid (TC.out.trans tc (fun _ _ e => e))
        clear tc hc
        go_wp2_with fail
        go_roundg (hi - ((lo + hi) / 2 + 1))
        case measure => omega
        case rel =>
          exact ⟨(lo + hi) / 2 + 1, hi, by rw [show ((lo : Int) + (hi : Int)) / 2 + 1 = (((lo + hi) / 2 + 1 : Nat) : Int) by omega], rfl, by omega, hin, Nat.le_refl _, hid ⟨fun t ht htl => by have h1 := M.out t _ htl HMID.out (by omega); have h2 := HP.out; rw [HY.out] at h2; omega, I.out.2⟩, T2.out⟩
    · obtain rfl : hi = lo := by omega
      go_wp2
      go_ret
      exact ⟨hi, rfl, hin, I.out.1, I.out.2, TC.out⟩

/-- How many lines begin at or ahead of a place. -/
def cnt (l : List R2) (p : Int) : Nat := l.countP fun x => decide (x.1 ≤ p)
theorem cnt_le (l : List R2) (p : Int) : cnt l p ≤ l.length := List.countP_le_length
theorem cnt_is (l : List R2) (p : Int) (k : Nat) (hk : k ≤ l.length) (h1 : ∀ t (_ : t < k) (hl : t < l.length), ¬ p < (l[t]).1) (h2 : ∀ t (_ : k ≤ t) (hl : t < l.length), p < (l[t]).1) : cnt l p = k := by
  unfold cnt
  rw [← List.take_append_drop k l, List.countP_append]
  have e1 : (l.take k).countP (fun x => decide (x.1 ≤ p)) = k := by
    have : (l.take k).countP (fun x => decide (x.1 ≤ p)) = (l.take k).length := by
      rw [List.countP_eq_length]
      intro x hx
      obtain ⟨i, hi, rfl⟩ := List.getElem_of_mem hx
      rw [List.length_take] at hi
      rw [List.getElem_take]
      have := h1 i (by omega) (by omega)
      simp
      omega
    rw [this, List.length_take]
    omega
  have e2 : (l.drop k).countP (fun x => decide (x.1 ≤ p)) = 0 := by
    rw [List.countP_eq_zero]
    intro x hx
    obtain ⟨i, hi, rfl⟩ := List.getElem_of_mem hx
    rw [List.length_drop] at hi
    rw [List.getElem_drop]
    have := h2 (k + i) (by omega) (by omega)
    simp
    omega
  omega
theorem cnt_step (l : List R2) (p : Int) (k : Nat) (h : k < l.length) : cnt (l.take (k + 1)) p = cnt (l.take k) p + if (l[k]).1 ≤ p then 1 else 0 := by
  unfold cnt
  rw [List.take_succ_eq_append_getElem h, List.countP_append]
  simp
theorem cnt_full (l : List R2) (p : Int) (hr : Rise l) (k : Nat) (h : k < l.length) (hp : (l[k]).1 ≤ p) : cnt (l.take k) p = k := by
  have : cnt (l.take k) p = (l.take k).length := by
    unfold cnt
    rw [List.countP_eq_length]
    intro x hx
    obtain ⟨i, hi, rfl⟩ := List.getElem_of_mem hx
    rw [List.length_take] at hi
    rw [List.getElem_take]
    have := hr i k (by omega) h (by omega)
    simp
    omega
  rw [this, List.length_take]
  omega

theorem rise_le {l : List R2} (h : Rise l) : ∀ i j (hi : i < l.length) (hj : j < l.length), i ≤ j → (l[i]).1 ≤ (l[j]).1 := by
  intro i j hi hj hij
  rcases Nat.lt_or_ge i j with k | k
  · have := h i j hi hj k
    omega
  · obtain rfl : i = j := by omega
    exact Int.le_refl _

theorem box_new (w : World) (v : Value) (t : TypeId) : (w.alloc (.cells #[v] t)).cell? ⟨w.heap.size, 0, none⟩ = some v := by
  have h : (w.alloc (.cells #[v] t)).heap[w.heap.size]? = some (.cells #[v] t (0, 0)) := by
    show (w.heap.push _)[_]? = _
    simp
  unfold World.cell?
  rw [h]
  rfl
set_option maxRecDepth 100000 in
set_option maxHeartbeats 4000000 in
theorem at_any (a : Option Addr) (c : Nat) (l : List R2) (p : Int) (w : World) (hl : Rg w a l) (hr : Rise l) (hb : l.length ≤ 4194304) :
    Calls Try.prog 11 #[.slice a l.length c, .int .i64 p] w fun e w' => e = .returned (.int .i64 ((cnt l p : Nat) - 1 : Int)) ∧ Touch (fun _ => False) w w' := by
  have T0 := (Touch.refl (fun _ => False) w).alloc (.cells #[.slice a l.length c] 23)
  have T1 := T0.alloc (.cells #[.int .i64 p] 3)
  have c0 : ((w.alloc (.cells #[.slice a l.length c] 23)).alloc (.cells #[.int .i64 p] 3)).cell? ⟨w.heap.size, 0, none⟩ = some (.slice a l.length c) :=
    (((Touch.refl (fun _ => False) (w.alloc (.cells #[.slice a l.length c] 23))).alloc (.cells #[.int .i64 p] 3)).cell (p := ⟨w.heap.size, 0, none⟩) (by simp) id).trans (box_new w _ 23)
  have c1 : ((w.alloc (.cells #[.slice a l.length c] 23)).alloc (.cells #[.int .i64 p] 3)).cell? ⟨w.heap.size + 1, 0, none⟩ = some (.int .i64 p) := by
    have := box_new (w.alloc (.cells #[.slice a l.length c] 23)) (.int .i64 p) 3
    rwa [World.size_alloc] at this
  have K := hid (search_any (w.heap.size + 1) w.heap.size p a c l _ (by simp) (by simp; omega) c1 c0 (hl.new T1) (rise_le hr) hb)
  have TH := hid T1
  clear c0 c1 T0 T1 hl hr
  go_enter Try.func11, Try.ntmps11
  go_wp2_with fail
  refine K.out.mono ?_
  rintro e w' ⟨k, rfl, hk, h1, h2, tc⟩
  have hcn := cnt_is l p k hk (fun t a b => Int.not_lt.2 (h1 t a b)) h2
  have TC := hid (TH.out.trans tc (fun _ _ e => e))
  clear K h1 h2 tc
  go_wp2
  go_ret
  exact ⟨by rw [hcn]; rfl, TC.out⟩
end Go.Proofs.Ytaidcapflcobiaa

/- A list of pairs that is the call's own; no condition. -/
namespace Go.Proofs.Ytaidcapflcobiaa
open Go.RowKit

theorem row_new (w : World) (l : List Value) (t : TypeId) : ∀ (j : Nat) (u : Value), l[j]? = some u → (w.alloc (.cells l.toArray t)).cell? ((⟨w.heap.size, 0, none⟩ : Addr).add j) = some u := by
  intro j u hj
  have hb : (w.alloc (.cells l.toArray t)).heap[w.heap.size]? = some (.cells l.toArray t (0, 0)) := by
    show (w.heap.push _)[_]? = _
    simp
  rw [add_g]
  unfold World.cell?
  rw [hb]
  simpa using hj

structure OwE (W0 wr : World) (e : TypeId) (v : Value) (s : List R2) : Prop where
  own : wr.ownsRow 0 e 2 v s.length (flatR s)
  new : ∀ g, v.ownBlock = some g → W0.heap.size ≤ g
  touch : Touch (fun _ => False) W0 wr

theorem OwE.nil (w : World) (e : TypeId) : OwE w w e (.slice none 0 0) [] := ⟨by simpa [flatR] using World.ownsRow_nil _ _ _ _, by intro g h; simp [Value.ownBlock] at h, Touch.refl _ _⟩
theorem OwE.rg {W0 wr : World} {e : TypeId} {v : Value} {s : List R2} (h : OwE W0 wr e v s) : ∃ a c, v = .slice a s.length c ∧ Rg wr a s := own_rg h.own
theorem OwE.still {W0 wr w' : World} {e : TypeId} {v : Value} {s : List R2} (h : OwE W0 wr e v s) (tc : Touch (fun _ => False) wr w') : OwE W0 w' e v s := by
  refine ⟨⟨h.own.1, ?_⟩, h.new, h.touch.trans tc (fun _ _ e => e)⟩
  rcases h.own.2 with h0 | ⟨g, cap, cur, hv, hg, hh, rest⟩
  · exact .inl h0
  · exact .inr ⟨g, cap, cur, hv, hg, (tc.block g (lt_of_block hh) id).trans hh, rest⟩
theorem OwE.more {W0 wr w1 : World} {e : TypeId} {v v' : Value} {s : List R2} {xs : List R2} {o : Obj} (h : OwE W0 wr e v s) (hown : w1.ownsRow 0 e 2 v' (s.length + xs.length) (flatR s ++ flatR xs)) (hg : (wr.alloc o).grownBy w1 v.ownBlock) (hat : v'.ownBlock = v.ownBlock ∨ v'.ownBlock = some (wr.heap.size + 1)) : OwE W0 w1 e v' (s ++ xs) := by
  refine ⟨?_, fun g hg' => ?_, (h.touch.alloc o).grown hg (fun k e hk => by have := h.new k e; omega)⟩
  · rw [List.length_append, flatR_append]
    exact hown
  · rcases hat with e | e
    · exact h.new g (by rw [← e]; exact hg')
    · rw [e] at hg'
      simp at hg'
      have := h.touch.size
      omega
/-- A list of another type stays. -/
theorem OwE.beside {W0 wr w1 : World} {e e' : TypeId} {v v4 : Value} {s s4 : List R2} {o : Obj} (h : OwE W0 wr e v s) (h4 : OwE W0 wr e' v4 s4) (hne : e ≠ e') (hg : (wr.alloc o).grownBy w1 v4.ownBlock) : OwE W0 w1 e v s := by
  refine ⟨⟨h.own.1, ?_⟩, h.new, (h.touch.alloc o).grown hg (fun k e hk => by have := h4.new k e; omega)⟩
  rcases h.own.2 with h0 | ⟨g, cap, cur, hv, hg', hh, rest⟩
  · exact .inl h0
  · have hlt := lt_of_block hh
    refine .inr ⟨g, cap, cur, hv, hg', ?_, rest⟩
    rw [hg.block g (by simp; omega) (fun k => ?_), Below.heap_alloc _ _ _ hlt]
    · exact hh
    · rcases h4.own.2 with ⟨rfl, _⟩ | ⟨g4, cap4, cur4, rfl, _, hh4, _⟩
      · simp [Value.ownBlock] at k
      · simp [Value.ownBlock] at k
        subst k
        rw [hh] at hh4
        simp at hh4
        exact hne hh4.2


end Go.Proofs.Ytaidcapflcobiaa

/- lastPlace, and the document's Split and At; conditions: the lines fit into memory; of At, that they rise. -/
namespace Go.Proofs.Ytaidcapflcobiaa
open Go.RowKit

/-- The place of a span's last byte. -/
def lastP (x : R2) : Int := if x.1 < x.2 then x.2 - 1 else x.2
set_option maxRecDepth 100000 in
theorem lastPlace_any (x y : Int) (w : World) (hy : 0 ≤ y ∧ y ≤ 4194304) : Calls Try.prog 22 #[.agg #[.int .i64 x, .int .i64 y]] w fun e w' => e = .returned (.int .i64 (lastP (x, y))) ∧ Touch (fun _ => False) w w' := by
  obtain ⟨q, hq⟩ : ∃ q, q = lastP (x, y) := ⟨_, rfl⟩
  have HQ := hid hq
  rw [← hq]
  clear hq
  go_enter Try.func22, Try.ntmps22
  go_wp2
  all_goals
    go_ret
    refine ⟨?_, (Touch.refl _ w).alloc _⟩
    have := HQ.out
    unfold lastP at this
    dsimp only at this
    first
      | rw [if_pos (by omega)] at this; rw [this]; rfl
      | rw [if_neg (by omega)] at this; rw [this]; rfl

set_option maxRecDepth 100000 in
set_option maxHeartbeats 4000000 in
theorem rat_any (a : Option Addr) (c : Nat) (l : List R2) (p : Int) (w : World) (hl : Rg w a l) (hr : Rise l) (hb : l.length ≤ 4194304) :
    Calls Try.prog 12 #[.slice a l.length c, .int .i64 p] w fun e w' => e = .returned (.int .i64 ((cnt l p : Nat) - 1 : Int)) ∧ w = w' := by
  have HL := hid hl
  have HR := hid hr
  clear hl hr
  go_enter Try.func12, Try.ntmps12
  go_wp2_with fail
  go_loopg [5, 6] l.length (fun gk v i wr => ∃ k : Nat, k + gk = l.length ∧ i = .int .i64 (k : Nat) ∧ v = .int .i64 ((cnt (l.take k) p : Nat) - 1 : Int) ∧ w = wr)
  case atStart => exact ⟨0, by omega, rfl, rfl, rfl⟩
  case round =>
    obtain ⟨k, hk, rfl, rfl, rfl⟩ := hrel
    by_cases hlt : k < l.length
    · obtain ⟨b, o, ha, hbl, hcell⟩ : ∃ b o, a = some ⟨b, o, none⟩ ∧ b < w.heap.size ∧ ∀ i (h : i < l.length), w.cell? ⟨b, o + i * 2, none⟩ = some (.int .i64 (l[i]).1) ∧ w.cell? ⟨b, o + i * 2 + 1, none⟩ = some (.int .i64 (l[i]).2) := by
        rcases HL.out with h | h
        · rw [h] at hlt; simp at hlt
        · exact h
      subst ha
      obtain ⟨d0, d1⟩ := hcell k hlt
      have HS := hid (cnt_step l p k hlt)
      have HF := hid (cnt_full l p HR.out k hlt)
      obtain ⟨r, hr⟩ : ∃ r, r = l[k] := ⟨_, rfl⟩
      rw [← hr] at d0 d1 HS HF
      obtain ⟨y, z⟩ := r
      dsimp only at d0 d1 HS HF
      have hkI : (k : Int) < (l.length : Int) := by omega
      clear hcell hr
      by_cases h1 : y ≤ p
      · go_wp2
        go_roundg (gk - 1)
        case measure => omega
        case rel => exact ⟨k + 1, by omega, by go_num, by rw [HS.out, HF.out h1, if_pos h1]; go_num, rfl⟩
      · go_wp2
        go_roundg (gk - 1)
        case measure => omega
        case rel => exact ⟨k + 1, by omega, by go_num, by rw [HS.out, if_neg (by omega)]; rfl, rfl⟩
    · obtain rfl : k = l.length := by omega
      rw [List.take_length]
      go_wp2
      go_ret
      exact ⟨rfl, rfl⟩

theorem byte_at (d : ByteArray) (i : Nat) (h : i < d.size) : d.data.toList.drop i = d[i] :: d.data.toList.drop (i + 1) := by
  rw [List.drop_eq_getElem_cons (by simpa using h)]
  rfl

set_option maxRecDepth 100000 in
set_option maxHeartbeats 4000000 in
theorem rsplit_any (d : ByteArray) (w : World) (hd : d.size ≤ 4194304) :
    Calls Try.prog 10 #[.string d] w fun e w' => ∃ v, e = .returned v ∧ OwE w w' 33 v (lns d) := by
  obtain ⟨i0, hi, hz0, hz1, hz2⟩ := info_parts info33
  go_enter Try.func10, Try.ntmps10
  go_wp2_with fail
  go_loopg [3, 4, 5] d.size (fun gk v f i wr => ∃ (k fr : Nat) (o : List R2), k + gk = d.size ∧ i = .int .i64 (k : Nat) ∧ f = .int .i64 (fr : Nat) ∧ fr ≤ k ∧ o.length ≤ k ∧ Hid (o ++ lnsGo (d.data.toList.drop k) fr k = lns d) ∧ OwE w wr 33 v o)
  case atStart => exact ⟨0, 0, [], by omega, rfl, rfl, Nat.le_refl _, Nat.le_refl _, hid rfl, OwE.nil _ _⟩
  case round =>
    obtain ⟨k, fr, o, hk, rfl, rfl, hfr, hol, HO, hown⟩ := hrel
    have OW := hid hown
    obtain ⟨a4, c4, hv4⟩ := own_shape hown.own
    subst hv4
    clear hown
    by_cases hlt : k < d.size
    · have hba := byte_at d k hlt
      rw [hba, lnsGo] at HO
      obtain ⟨x, hx⟩ : ∃ x, x = d[k] := ⟨_, rfl⟩
      rw [← hx] at HO
      by_cases h1 : x = 10
      · rw [if_pos h1] at HO
        have hx10 : ((d[k]).toNat : Int) = 10 := by rw [← hx, h1]; rfl
        clear hba hx
        go_wp2_with (at_builtin; refine wpList_append_own_at _ rfl _ _ 29 rfl 0 33 i0 (.agg #[.int .i64 0, .int .i64 0]) 2 16 Try.underlying29 hi hz0 hz1 hz2 rfl (by decide) _ _ _ rfl (OW.out.own.alloc _) ⟨wr.heap.size, 0, none⟩ 1 1 [.int .i64 fr, .int .i64 k] rfl rfl (row_new wr [.int .i64 fr, .int .i64 k] 33) (by intro u hu; simp at hu; rcases hu with rfl | rfl <;> rfl) (by unfold maxLen; omega) (by omega) (Nat.zero_le _) ?_)
        intro v4' w4 hown hgrow _ hat
        have P4 := hid (OW.out.more (xs := [((fr : Int), (k : Int))]) hown hgrow hat)
        clear hown hgrow hat
        go_wp2
        go_roundg (gk - 1)
        case measure => omega
        case rel =>
          refine ⟨k + 1, k + 1, o ++ [((fr : Int), (k : Int))], by omega, by go_num, by go_num, Nat.le_refl _, by simp; omega, hid ?_, P4.out⟩
          rw [List.append_assoc]
          exact HO.out
      · rw [if_neg h1] at HO
        have hx10 : ¬ ((d[k]).toNat : Int) = 10 := by
          rw [← hx]
          intro e
          exact h1 (UInt8.toNat_inj.1 (by rw [show (10 : UInt8).toNat = 10 from rfl]; omega))
        clear hba hx
        go_wp2
        go_roundg (gk - 1)
        case measure => omega
        case rel => exact ⟨k + 1, fr, o, by omega, by go_num, rfl, by omega, by omega, HO, OW.out⟩
    · obtain rfl : k = d.size := by omega
      have hnil : d.data.toList.drop d.size = [] := List.drop_eq_nil_of_le (by simp)
      rw [hnil, lnsGo] at HO
      clear hnil
      by_cases h1 : fr < d.size
      · rw [if_pos h1] at HO
        go_wp2_with (at_builtin; refine wpList_append_own_at _ rfl _ _ 29 rfl 0 33 i0 (.agg #[.int .i64 0, .int .i64 0]) 2 16 Try.underlying29 hi hz0 hz1 hz2 rfl (by decide) _ _ _ rfl (OW.out.own.alloc _) ⟨wr.heap.size, 0, none⟩ 1 1 [.int .i64 fr, .int .i64 d.size] rfl rfl (row_new wr [.int .i64 fr, .int .i64 d.size] 33) (by intro u hu; simp at hu; rcases hu with rfl | rfl <;> rfl) (by unfold maxLen; omega) (by omega) (Nat.zero_le _) ?_)
        intro v4' w4 hown hgrow _ hat
        have P4 := hid (OW.out.more (xs := [((fr : Int), (d.size : Int))]) hown hgrow hat)
        clear hown hgrow hat
        go_wp2
        go_ret
        refine ⟨_, rfl, ?_⟩
        rw [← HO.out]
        exact P4.out
      · rw [if_neg h1, List.append_nil] at HO
        go_wp2
        go_ret
        refine ⟨_, rfl, ?_⟩
        rw [← HO.out]
        exact OW.out
end Go.Proofs.Ytaidcapflcobiaa
